/-
  Walk of the law CoreTexts.
-/
import Derived.Test.YteagbndjoklogaaDoorKJ
import Derived.Test.YteagbndjoklogaaDoorK9
namespace Go.Proofs.YteagbndjoklogaaDoor
open Go.RowKit Go.Sort
namespace Lx
set_option maxRecDepth 100000
theorem may_inner {t : Te} {f : Int} (h : mayV6 t f = true) : mayE t f 0 = true := by
  unfold mayV6 at h
  simp only [Bool.and_eq_true] at h
  exact h.2.2
/-- A function of the term. -/
theorem lam_box {w V : World} {g g' : Nat} {k n : Int} {s : ByteArray} {l : List Te} {A : Option Addr} {c : Nat} {k' n' : Int} {s' : ByteArray} {l' : List Te} {A' : Option Addr} {c' : Nat} (h : Bx6 w V g k n s l A c) (h' : Bx6 w V g' k' n' s' l' A' c') :
    Bx6 w ((V.alloc (.cells #[.int .i64 k, .int .i64 n, .string s, .slice A l.length (capF l.length c)] 24)).alloc (.cells #[.int .i64 2, .int .i64 0, .string e0B, .slice (some ⟨V.heap.size, 0, none⟩) 1 1] 24)) g k n s l A c ∧ Bx6 w ((V.alloc (.cells #[.int .i64 k, .int .i64 n, .string s, .slice A l.length (capF l.length c)] 24)).alloc (.cells #[.int .i64 2, .int .i64 0, .string e0B, .slice (some ⟨V.heap.size, 0, none⟩) 1 1] 24)) g' k' n' s' l' A' c' ∧ Bx6 w ((V.alloc (.cells #[.int .i64 k, .int .i64 n, .string s, .slice A l.length (capF l.length c)] 24)).alloc (.cells #[.int .i64 2, .int .i64 0, .string e0B, .slice (some ⟨V.heap.size, 0, none⟩) 1 1] 24)) (V.heap.size + 1) 2 0 e0B [.node k n s l] (some ⟨V.heap.size, 0, none⟩) 1 := by
  have h3 := (h.old (.cells #[.int .i64 k, .int .i64 n, .string s, .slice A l.length (capF l.length c)] 24)).old (.cells #[.int .i64 2, .int .i64 0, .string e0B, .slice (some ⟨V.heap.size, 0, none⟩) 1 1] 24)
  have h4 := (h'.old (.cells #[.int .i64 k, .int .i64 n, .string s, .slice A l.length (capF l.length c)] 24)).old (.cells #[.int .i64 2, .int .i64 0, .string e0B, .slice (some ⟨V.heap.size, 0, none⟩) 1 1] 24)
  have L1 := (Lies.new V 24 #[.int .i64 k, .int .i64 n, .string s, .slice A l.length (capF l.length c)]).old (.cells #[.int .i64 2, .int .i64 0, .string e0B, .slice (some ⟨V.heap.size, 0, none⟩) 1 1] 24)
  have L2 := Lies.new (V.alloc (.cells #[.int .i64 k, .int .i64 n, .string s, .slice A l.length (capF l.length c)] 24)) 24 #[.int .i64 2, .int .i64 0, .string e0B, .slice (some ⟨V.heap.size, 0, none⟩) 1 1]
  rw [show (V.alloc (.cells #[.int .i64 k, .int .i64 n, .string s, .slice A l.length (capF l.length c)] 24)).heap.size = V.heap.size + 1 from by simp] at L2
  exact ⟨h3, h4, L2, EIn.mk e0B_size (by decide) (by decide) (by simp) (ELIn.one (t1 := .node k n s l) (A1 := A) (c1 := c) L1 rfl trivial h3.tin), h3.tb, h3.bw⟩
set_option maxHeartbeats 16000000 in
theorem texts6_any (t t' : Te) (A A' : Option Addr) (c c' : Nat) (free : Int) (w : World) (hI : EIn w Any t A) (hI' : EIn w Any t' A') (hg : Tabs6 w) :
    Calls Tryd.prog 3 #[ev t A c, ev t' A' c', .int .i64 free] w fun e w' => e = .returned (.bool true) ∧ Below w.heap.size w w' := by
  obtain ⟨k, n, s, l⟩ := t
  obtain ⟨k', n', s', l'⟩ := t'
  show Calls Tryd.prog 3 #[.agg #[.int .i64 k, .int .i64 n, .string s, .slice A l.length (capF l.length c)], .agg #[.int .i64 k', .int .i64 n', .string s', .slice A' l'.length (capF l'.length c')], .int .i64 free] w _
  have hXa := (Bx6.new (c := c) hI hg (Below.refl _ w)).old (.cells #[.int .i64 k', .int .i64 n', .string s', .slice A' l'.length (capF l'.length c')] 24)
  have hXb := Bx6.new (c := c') hI' hg ((Below.refl _ w).alloc (Nat.le_refl _) (.cells #[.int .i64 k, .int .i64 n, .string s, .slice A l.length (capF l.length c)] 24))
  rw [show (w.alloc (.cells #[.int .i64 k, .int .i64 n, .string s, .slice A l.length (capF l.length c)] 24)).heap.size = w.heap.size + 1 from by simp] at hXb
  have HXa := Lib.hid hXa
  have HXb := Lib.hid hXb
  clear hXa hXb hI hI' hg
  go_enter Tryd.func3, Tryd.ntmps3
  go_wp2_with fail
  refine (fix6_any _ HXa.out.tb).mono ?_
  rintro e w1 ⟨rfl, hb1⟩
  have HXa := Lib.hid (HXa.out.step hb1)
  have HXb := Lib.hid (HXb.out.step hb1)
  clear hb1
  obtain ⟨a0, a1, a2, a3⟩ := HXa.out.four
  obtain ⟨b0, b1, b2, b3⟩ := HXb.out.four
  have HC1 := Lib.hid (HXa.out.small 500 (by omega) (by omega))
  cases hcd : decide (0 ≤ fewE (.node k n s l) 500 600)
  · rw [hcd] at HC1
    clear hcd
    go_wp2_with fail
    refine HC1.out.mono ?_
    rintro e v1 ⟨rfl, hb1⟩
    have HXa := Lib.hid (HXa.out.step hb1)
    have HXb := Lib.hid (HXb.out.step hb1)
    clear hb1 HC1
    clear a0 a1 a2 a3
    clear b0 b1 b2 b3
    go_wp2_with fail
    refine (fix6_any _ HXa.out.tb).mono ?_
    rintro e wf ⟨rfl, hbf⟩
    go_wp2_with fail
    go_ret
    exact ⟨rfl, HXa.out.bw.trans (hbf.mono HXa.out.bw.size)⟩
  · rw [hcd] at HC1
    have HZa := Lib.hid (small6_size hcd (by omega))
    clear hcd
    go_wp2_with fail
    refine HC1.out.mono ?_
    rintro e v1 ⟨rfl, hb1⟩
    have HXa := Lib.hid (HXa.out.step hb1)
    have HXb := Lib.hid (HXb.out.step hb1)
    clear hb1 HC1
    clear a0 a1 a2 a3
    clear b0 b1 b2 b3
    obtain ⟨a0, a1, a2, a3⟩ := HXa.out.four
    obtain ⟨b0, b1, b2, b3⟩ := HXb.out.four
    have HC2 := Lib.hid (HXb.out.small 500 (by omega) (by omega))
    cases hcd : decide (0 ≤ fewE (.node k' n' s' l') 500 600)
    · rw [hcd] at HC2
      clear hcd
      go_wp2_with fail
      refine HC2.out.mono ?_
      rintro e v2 ⟨rfl, hb2⟩
      have HXa := Lib.hid (HXa.out.step hb2)
      have HXb := Lib.hid (HXb.out.step hb2)
      clear hb2 HC2
      clear a0 a1 a2 a3
      clear b0 b1 b2 b3
      go_wp2_with fail
      refine (fix6_any _ HXa.out.tb).mono ?_
      rintro e wf ⟨rfl, hbf⟩
      go_wp2_with fail
      go_ret
      exact ⟨rfl, HXa.out.bw.trans (hbf.mono HXa.out.bw.size)⟩
    · rw [hcd] at HC2
      have HZb := Lib.hid (small6_size hcd (by omega))
      clear hcd
      go_wp2_with fail
      refine HC2.out.mono ?_
      rintro e v2 ⟨rfl, hb2⟩
      have HXa := Lib.hid (HXa.out.step hb2)
      have HXb := Lib.hid (HXb.out.step hb2)
      clear hb2 HC2
      clear a0 a1 a2 a3
      clear b0 b1 b2 b3
      by_cases hab : free < 0 ∨ 1000000 < free
      · rcases (by omega : free < 0 ∨ (¬ free < 0 ∧ 1000000 < free)) with q | ⟨q, q2⟩
        all_goals
          clear hab
          go_wp2_with fail
          refine (fix6_any _ HXa.out.tb).mono ?_
          rintro e wf ⟨rfl, hbf⟩
          go_wp2_with fail
          go_ret
          exact ⟨rfl, HXa.out.bw.trans (hbf.mono HXa.out.bw.size)⟩
      · have q1 : ¬ free < 0 := by omega
        have q2 : ¬ 1000000 < free := by omega
        clear hab
        obtain ⟨a0, a1, a2, a3⟩ := HXa.out.four
        obtain ⟨b0, b1, b2, b3⟩ := HXb.out.four
        have HC3 := Lib.hid (HXa.out.may (by have := HZa.out; omega) free)
        cases hcd : mayV6 (.node k n s l) free
        · rw [hcd] at HC3
          clear hcd
          go_wp2_with fail
          refine HC3.out.mono ?_
          rintro e v3 ⟨rfl, hb3⟩
          have HXa := Lib.hid (HXa.out.step hb3)
          have HXb := Lib.hid (HXb.out.step hb3)
          clear hb3 HC3
          clear a0 a1 a2 a3
          clear b0 b1 b2 b3
          go_wp2_with fail
          refine (fix6_any _ HXa.out.tb).mono ?_
          rintro e wf ⟨rfl, hbf⟩
          go_wp2_with fail
          go_ret
          exact ⟨rfl, HXa.out.bw.trans (hbf.mono HXa.out.bw.size)⟩
        · rw [hcd] at HC3
          have HMa := Lib.hid hcd
          have HFa := Lib.hid (may_fmt _ _ _ (may_inner hcd))
          clear hcd
          go_wp2_with fail
          refine HC3.out.mono ?_
          rintro e v3 ⟨rfl, hb3⟩
          have HXa := Lib.hid (HXa.out.step hb3)
          have HXb := Lib.hid (HXb.out.step hb3)
          clear hb3 HC3
          clear a0 a1 a2 a3
          clear b0 b1 b2 b3
          obtain ⟨a0, a1, a2, a3⟩ := HXa.out.four
          obtain ⟨b0, b1, b2, b3⟩ := HXb.out.four
          have HC4 := Lib.hid (HXb.out.may (by have := HZb.out; omega) free)
          cases hcd : mayV6 (.node k' n' s' l') free
          · rw [hcd] at HC4
            clear hcd
            go_wp2_with fail
            refine HC4.out.mono ?_
            rintro e V ⟨rfl, hb4⟩
            have HXa := Lib.hid (HXa.out.step hb4)
            have HXb := Lib.hid (HXb.out.step hb4)
            clear hb4 HC4
            clear a0 a1 a2 a3
            clear b0 b1 b2 b3
            go_wp2_with fail
            refine (fix6_any _ HXa.out.tb).mono ?_
            rintro e wf ⟨rfl, hbf⟩
            go_wp2_with fail
            go_ret
            exact ⟨rfl, HXa.out.bw.trans (hbf.mono HXa.out.bw.size)⟩
          · rw [hcd] at HC4
            have HFb := Lib.hid (may_fmt _ _ _ (may_inner hcd))
            clear hcd
            go_wp2_with fail
            refine HC4.out.mono ?_
            rintro e V ⟨rfl, hb4⟩
            have HXa := Lib.hid (HXa.out.step hb4)
            have HXb := Lib.hid (HXb.out.step hb4)
            clear hb4 HC4
            clear a0 a1 a2 a3
            clear b0 b1 b2 b3
            obtain ⟨a0, a1, a2, a3⟩ := HXa.out.four
            go_upto_region 4 with fail
            have hF := lam_box HXa.out HXb.out
            change Code.wp _ _ _ _ ((V.alloc (.cells #[.int .i64 k, .int .i64 n, .string s, .slice A l.length (capF l.length c)] 24)).alloc (.cells #[.int .i64 2, .int .i64 0, .string e0B, .slice (some ⟨V.heap.size, 0, none⟩) 1 1] 24))
            obtain ⟨W5, hW5⟩ : ∃ W, W = (V.alloc (.cells #[.int .i64 k, .int .i64 n, .string s, .slice A l.length (capF l.length c)] 24)).alloc (.cells #[.int .i64 2, .int .i64 0, .string e0B, .slice (some ⟨V.heap.size, 0, none⟩) 1 1] 24) := ⟨_, rfl⟩
            rw [← hW5] at hF ⊢
            have HXa := Lib.hid hF.1
            have HXb := Lib.hid hF.2.1
            have HXl := Lib.hid hF.2.2
            clear hW5 hF a0 a1 a2 a3
            have hd0 : Below W5.heap.size W5 W5.drew := (Below.refl _ W5).drew
            have HS := Lib.hid (fun (V' : World) (h : Below W5.heap.size W5 V') => (by have x := (HXa.out.step h).four; have y := (HXb.out.step h).four; have z := (HXl.out.step h).four; exact ⟨x.1, x.2.1, x.2.2.1, x.2.2.2, y.1, y.2.1, y.2.2.1, y.2.2.2, z.1, z.2.1, z.2.2.1, z.2.2.2⟩ : (fun V' => (V'.cell? ⟨w.heap.size, 0, none⟩ = some (.int .i64 k) ∧ V'.cell? ⟨w.heap.size, 1, none⟩ = some (.int .i64 n) ∧ V'.cell? ⟨w.heap.size, 2, none⟩ = some (.string s) ∧ V'.cell? ⟨w.heap.size, 3, none⟩ = some (.slice A l.length (capF l.length c)) ∧ V'.cell? ⟨w.heap.size + 1, 0, none⟩ = some (.int .i64 k') ∧ V'.cell? ⟨w.heap.size + 1, 1, none⟩ = some (.int .i64 n') ∧ V'.cell? ⟨w.heap.size + 1, 2, none⟩ = some (.string s') ∧ V'.cell? ⟨w.heap.size + 1, 3, none⟩ = some (.slice A' l'.length (capF l'.length c')) ∧ V'.cell? ⟨V.heap.size + 1, 0, none⟩ = some (.int .i64 2) ∧ V'.cell? ⟨V.heap.size + 1, 1, none⟩ = some (.int .i64 0) ∧ V'.cell? ⟨V.heap.size + 1, 2, none⟩ = some (.string e0B) ∧ V'.cell? ⟨V.heap.size + 1, 3, none⟩ = some (.slice (some ⟨V.heap.size, 0, none⟩) 1 1))) V'))
            have hS0 := HS.out _ hd0
            have hta : (textE (.node k n s l)).length ≤ 99999990 := by
              have h1 := text_short _ (ein_rng _ HXa.out.tin)
              have h2 := names_short _ HFa.out
              have h3 := HZa.out.1
              omega
            have htb : (textE (.node k' n' s' l')).length ≤ 99999990 := by
              have h1 := text_short _ (ein_rng _ HXb.out.tin)
              have h2 := names_short _ HFb.out
              have h3 := HZb.out.1
              omega
            have HTa := Lib.hid ((fun (V' : World) (h : Below W5.heap.size W5 V') => Calls.fromB h h.size ((HXa.out.step h).text hta)))
            have HTb := Lib.hid ((fun (V' : World) (h : Below W5.heap.size W5 V') => Calls.fromB h h.size ((HXb.out.step h).text htb)))
            have HSE := Lib.hid ((fun (V' : World) (h : Below W5.heap.size W5 V') => Calls.fromB h h.size ((HXa.out.step h).same (HXb.out.step h))))
            have HM1 := Lib.hid ((fun (V' : World) (h : Below W5.heap.size W5 V') => Calls.fromB h h.size (by have := (HXa.out.step h).may (by have := HZa.out; omega) (free + 1); rw [mayV_mono (by omega) HMa.out] at this; exact this)))
            have HML := Lib.hid ((fun (V' : World) (h : Below W5.heap.size W5 V') => Calls.fromB h h.size (by have := (HXl.out.step h).may (by have := HZa.out; simp only [depthE, depthEL] at this ⊢; omega) free; rw [lam_may _ _ (by omega), mayV_mono (by omega) HMa.out] at this; exact this)))
            have HM2 := Lib.hid (fun (hf : free ≠ 0) => (fun (V' : World) (h : Below W5.heap.size W5 V') => Calls.fromB h h.size (by have := (HXl.out.step h).may (by have := HZa.out; simp only [depthE, depthEL] at this ⊢; omega) (free - 1); rw [lam_may _ _ (by omega), show free - 1 + 1 = free from by omega, HMa.out] at this; exact this)))
            have hts := text_same HFa.out HFb.out
            obtain ⟨TA, hTA⟩ : ∃ TA, TA = textE (.node k n s l) := ⟨_, rfl⟩
            obtain ⟨TB, hTB⟩ : ∃ TB, TB = textE (.node k' n' s' l') := ⟨_, rfl⟩
            obtain ⟨SE, hSE⟩ : ∃ SE, SE = sameE (.node k n s l) (.node k' n' s' l') := ⟨_, rfl⟩
            rw [← hTA, ← hTB, ← hSE] at hts
            rw [← hTA] at HTa
            rw [← hTB] at HTb
            rw [← hSE] at HSE
            have hw1 : IntKind.i64.wrap (free + 1) = free + 1 := IntWalk.i64_in _ (by omega)
            have hw2 : IntKind.i64.wrap (free - 1) = free - 1 := IntWalk.i64_in _ (by omega)
            clear hTA hTB hSE hta htb
            cases SE with
            | true =>
              obtain rfl : TA = TB := of_decide_eq_true hts
              clear hts
              by_cases hf : free = 0
              · subst hf
                simp only [Int.zero_add] at HM1
                clear hw1 hw2 HM2
                refine wp_region_held_drew (S := (fun V' => (V'.cell? ⟨w.heap.size, 0, none⟩ = some (.int .i64 k) ∧ V'.cell? ⟨w.heap.size, 1, none⟩ = some (.int .i64 n) ∧ V'.cell? ⟨w.heap.size, 2, none⟩ = some (.string s) ∧ V'.cell? ⟨w.heap.size, 3, none⟩ = some (.slice A l.length (capF l.length c)) ∧ V'.cell? ⟨w.heap.size + 1, 0, none⟩ = some (.int .i64 k') ∧ V'.cell? ⟨w.heap.size + 1, 1, none⟩ = some (.int .i64 n') ∧ V'.cell? ⟨w.heap.size + 1, 2, none⟩ = some (.string s') ∧ V'.cell? ⟨w.heap.size + 1, 3, none⟩ = some (.slice A' l'.length (capF l'.length c')) ∧ V'.cell? ⟨V.heap.size + 1, 0, none⟩ = some (.int .i64 2) ∧ V'.cell? ⟨V.heap.size + 1, 1, none⟩ = some (.int .i64 0) ∧ V'.cell? ⟨V.heap.size + 1, 2, none⟩ = some (.string e0B) ∧ V'.cell? ⟨V.heap.size + 1, 3, none⟩ = some (.slice (some ⟨V.heap.size, 0, none⟩) 1 1)))) rfl hS0 (fun hSs => ?_)
                change wpAnyH _ _ _ _ _ 31 (Array.replicate 31 false) _ _
                refine wpAnyH_take (i := 0) (oi := ⟨some 44, _, _, _, _, _⟩) (v := .agg #[.int .i64 k, .int .i64 n, .string s, .slice A l.length (capF l.length c)]) rfl (by kernel_rfl) (by kernel_rfl) (by kernel_rfl) (fun _ _ _ h => h) (.inl ⟨by kernel_rfl, fun W hW => by first | (obtain ⟨a0, a1, a2, a3, b0, b1, b2, b3, l0, l1, l2, l3⟩ := hW; go_simp; done) | (obtain ⟨a0, a1, a2, a3, b0, b1, b2, b3, l0, l1, l2, l3⟩ := hW; go_simp; omega) | (obtain ⟨a0, a1, a2, a3, b0, b1, b2, b3, l0, l1, l2, l3⟩ := hW; go_simp; simp [*]; done)⟩) hSs ?_
                try simp only [Act.put, List.setIfInBounds_toArray, List.set_cons_zero, List.set_cons_succ]
                refine wpAnyH_take (i := 2) (oi := ⟨some 46, _, _, _, _, _⟩) (v := .agg #[.int .i64 k', .int .i64 n', .string s', .slice A' l'.length (capF l'.length c')]) rfl (by kernel_rfl) (by kernel_rfl) (by kernel_rfl) (fun _ _ _ h => h) (.inl ⟨by kernel_rfl, fun W hW => by first | (obtain ⟨a0, a1, a2, a3, b0, b1, b2, b3, l0, l1, l2, l3⟩ := hW; go_simp; done) | (obtain ⟨a0, a1, a2, a3, b0, b1, b2, b3, l0, l1, l2, l3⟩ := hW; go_simp; omega) | (obtain ⟨a0, a1, a2, a3, b0, b1, b2, b3, l0, l1, l2, l3⟩ := hW; go_simp; simp [*]; done)⟩) hSs ?_
                try simp only [Act.put, List.setIfInBounds_toArray, List.set_cons_zero, List.set_cons_succ]
                refine wpAnyH_take (i := 5) (oi := ⟨some 49, _, _, _, _, _⟩) (v := .agg #[.int .i64 k, .int .i64 n, .string s, .slice A l.length (capF l.length c)]) rfl (by kernel_rfl) (by kernel_rfl) (by kernel_rfl) (fun _ _ _ h => h) (.inl ⟨by kernel_rfl, fun W hW => by first | (obtain ⟨a0, a1, a2, a3, b0, b1, b2, b3, l0, l1, l2, l3⟩ := hW; go_simp; done) | (obtain ⟨a0, a1, a2, a3, b0, b1, b2, b3, l0, l1, l2, l3⟩ := hW; go_simp; omega) | (obtain ⟨a0, a1, a2, a3, b0, b1, b2, b3, l0, l1, l2, l3⟩ := hW; go_simp; simp [*]; done)⟩) hSs ?_
                try simp only [Act.put, List.setIfInBounds_toArray, List.set_cons_zero, List.set_cons_succ]
                refine wpAnyH_take (i := 6) (oi := ⟨some 50, _, _, _, _, _⟩) (v := .agg #[.int .i64 k', .int .i64 n', .string s', .slice A' l'.length (capF l'.length c')]) rfl (by kernel_rfl) (by kernel_rfl) (by kernel_rfl) (fun _ _ _ h => h) (.inl ⟨by kernel_rfl, fun W hW => by first | (obtain ⟨a0, a1, a2, a3, b0, b1, b2, b3, l0, l1, l2, l3⟩ := hW; go_simp; done) | (obtain ⟨a0, a1, a2, a3, b0, b1, b2, b3, l0, l1, l2, l3⟩ := hW; go_simp; omega) | (obtain ⟨a0, a1, a2, a3, b0, b1, b2, b3, l0, l1, l2, l3⟩ := hW; go_simp; simp [*]; done)⟩) hSs ?_
                try simp only [Act.put, List.setIfInBounds_toArray, List.set_cons_zero, List.set_cons_succ]
                refine wpAnyH_ready (rs := [1]) (by kernel_rfl) (by simp) (AllReadyH.cons rfl (fun K hK => ?_) AllReadyH.nil)
                go_simp
                refine (HTa.out _ hd0).mono ?_
                rintro e u1 ⟨rfl, hd1⟩
                refine hK.out _ _ (HS.out _ hd1) (fun hS1 => ?_)
                clear hK K
                try simp only [Act.put, List.setIfInBounds_toArray, List.set_cons_zero, List.set_cons_succ]
                refine wpAnyH_ready (rs := [3]) (by kernel_rfl) (by simp) (AllReadyH.cons rfl (fun K hK => ?_) AllReadyH.nil)
                go_simp
                refine (HTb.out _ hd1).mono ?_
                rintro e u2 ⟨rfl, hd2⟩
                refine hK.out _ _ (HS.out _ hd2) (fun hS2 => ?_)
                clear hK K
                try simp only [Act.put, List.setIfInBounds_toArray, List.set_cons_zero, List.set_cons_succ]
                refine wpAnyH_take (i := 4) (oi := ⟨some 48, _, _, _, _, _⟩) (v := .bool true) rfl (by kernel_rfl) (by kernel_rfl) (by kernel_rfl) (fun _ _ _ h => h) (.inl ⟨by kernel_rfl, fun W hW => by first | (obtain ⟨a0, a1, a2, a3, b0, b1, b2, b3, l0, l1, l2, l3⟩ := hW; go_simp; done) | (obtain ⟨a0, a1, a2, a3, b0, b1, b2, b3, l0, l1, l2, l3⟩ := hW; go_simp; omega) | (obtain ⟨a0, a1, a2, a3, b0, b1, b2, b3, l0, l1, l2, l3⟩ := hW; go_simp; simp [*]; done)⟩) hS2 ?_
                try simp only [Act.put, List.setIfInBounds_toArray, List.set_cons_zero, List.set_cons_succ]
                refine wpAnyH_ready (rs := [7]) (by kernel_rfl) (by simp) (AllReadyH.cons rfl (fun K hK => ?_) AllReadyH.nil)
                go_simp
                refine (HSE.out _ hd2).mono ?_
                rintro e u3 ⟨rfl, hd3⟩
                refine hK.out _ _ (HS.out _ hd3) (fun hS3 => ?_)
                clear hK K
                try simp only [Act.put, List.setIfInBounds_toArray, List.set_cons_zero, List.set_cons_succ]
                refine wpAnyH_take (i := 8) (oi := ⟨some 52, _, _, _, _, _⟩) (v := .bool true) rfl (by kernel_rfl) (by kernel_rfl) (by kernel_rfl) (fun _ _ _ h => h) (.inl ⟨by kernel_rfl, fun W hW => by first | (obtain ⟨a0, a1, a2, a3, b0, b1, b2, b3, l0, l1, l2, l3⟩ := hW; go_simp; done) | (obtain ⟨a0, a1, a2, a3, b0, b1, b2, b3, l0, l1, l2, l3⟩ := hW; go_simp; omega) | (obtain ⟨a0, a1, a2, a3, b0, b1, b2, b3, l0, l1, l2, l3⟩ := hW; go_simp; simp [*]; done)⟩) hS3 ?_
                try simp only [Act.put, List.setIfInBounds_toArray, List.set_cons_zero, List.set_cons_succ]
                refine wpAnyH_take (i := 9) (oi := ⟨some 53, _, _, _, _, _⟩) (v := .bool true) rfl (by kernel_rfl) (by kernel_rfl) (by kernel_rfl) (fun _ _ _ h => h) (.inl ⟨by kernel_rfl, fun W hW => by kernel_rfl⟩) hS3 ?_
                try simp only [Act.put, List.setIfInBounds_toArray, List.set_cons_zero, List.set_cons_succ]
                refine wpAnyH_take (i := 10) (oi := ⟨some 54, _, _, _, _, _⟩) (v := .agg #[.int .i64 k, .int .i64 n, .string s, .slice A l.length (capF l.length c)]) rfl (by kernel_rfl) (by kernel_rfl) (by kernel_rfl) (fun _ _ _ h => h) (.inl ⟨by kernel_rfl, fun W hW => by first | (obtain ⟨a0, a1, a2, a3, b0, b1, b2, b3, l0, l1, l2, l3⟩ := hW; go_simp; done) | (obtain ⟨a0, a1, a2, a3, b0, b1, b2, b3, l0, l1, l2, l3⟩ := hW; go_simp; omega) | (obtain ⟨a0, a1, a2, a3, b0, b1, b2, b3, l0, l1, l2, l3⟩ := hW; go_simp; simp [*]; done)⟩) hS3 ?_
                try simp only [Act.put, List.setIfInBounds_toArray, List.set_cons_zero, List.set_cons_succ]
                refine wpAnyH_take (i := 11) (oi := ⟨some 55, _, _, _, _, _⟩) (v := .int .i64 0) rfl (by kernel_rfl) (by kernel_rfl) (by kernel_rfl) (fun _ _ _ h => h) (.inl ⟨by kernel_rfl, fun W hW => by kernel_rfl⟩) hS3 ?_
                try simp only [Act.put, List.setIfInBounds_toArray, List.set_cons_zero, List.set_cons_succ]
                refine wpAnyH_take (i := 12) (oi := ⟨some 56, _, _, _, _, _⟩) (v := .int .i64 1) rfl (by kernel_rfl) (by kernel_rfl) (by kernel_rfl) (fun _ _ _ h => h) (.inl ⟨by kernel_rfl, fun W hW => by kernel_rfl⟩) hS3 ?_
                try simp only [Act.put, List.setIfInBounds_toArray, List.set_cons_zero, List.set_cons_succ]
                refine wpAnyH_ready (rs := [13]) (by kernel_rfl) (by simp) (AllReadyH.cons rfl (fun K hK => ?_) AllReadyH.nil)
                go_simp
                refine (HM1.out _ hd3).mono ?_
                rintro e u4 ⟨rfl, hd4⟩
                refine hK.out _ _ (HS.out _ hd4) (fun hS4 => ?_)
                clear hK K
                try simp only [Act.put, List.setIfInBounds_toArray, List.set_cons_zero, List.set_cons_succ]
                refine wpAnyH_take (i := 14) (oi := ⟨some 58, _, _, _, _, _⟩) (v := .bool true) rfl (by kernel_rfl) (by kernel_rfl) (by kernel_rfl) (fun _ _ _ h => h) (.inl ⟨by kernel_rfl, fun W hW => by kernel_rfl⟩) hS4 ?_
                try simp only [Act.put, List.setIfInBounds_toArray, List.set_cons_zero, List.set_cons_succ]
                refine wpAnyH_take (i := 15) (oi := ⟨some 59, _, _, _, _, _⟩) (v := .bool true) rfl (by kernel_rfl) (by kernel_rfl) (by kernel_rfl) (fun _ _ _ h => h) (.inl ⟨by kernel_rfl, fun W hW => by kernel_rfl⟩) hS4 ?_
                try simp only [Act.put, List.setIfInBounds_toArray, List.set_cons_zero, List.set_cons_succ]
                refine wpAnyH_take (i := 16) (oi := ⟨some 60, _, _, _, _, _⟩) (v := .agg #[.int .i64 2, .int .i64 0, .string e0B, .slice (some ⟨V.heap.size, 0, none⟩) 1 1]) rfl (by kernel_rfl) (by kernel_rfl) (by kernel_rfl) (fun _ _ _ h => h) (.inl ⟨by kernel_rfl, fun W hW => by first | (obtain ⟨a0, a1, a2, a3, b0, b1, b2, b3, l0, l1, l2, l3⟩ := hW; go_simp; done) | (obtain ⟨a0, a1, a2, a3, b0, b1, b2, b3, l0, l1, l2, l3⟩ := hW; go_simp; omega) | (obtain ⟨a0, a1, a2, a3, b0, b1, b2, b3, l0, l1, l2, l3⟩ := hW; go_simp; simp [*]; done)⟩) hS4 ?_
                try simp only [Act.put, List.setIfInBounds_toArray, List.set_cons_zero, List.set_cons_succ]
                refine wpAnyH_take (i := 17) (oi := ⟨some 61, _, _, _, _, _⟩) (v := .int .i64 0) rfl (by kernel_rfl) (by kernel_rfl) (by kernel_rfl) (fun _ _ _ h => h) (.inl ⟨by kernel_rfl, fun W hW => by kernel_rfl⟩) hS4 ?_
                try simp only [Act.put, List.setIfInBounds_toArray, List.set_cons_zero, List.set_cons_succ]
                refine wpAnyH_ready (rs := [18]) (by kernel_rfl) (by simp) (AllReadyH.cons rfl (fun K hK => ?_) AllReadyH.nil)
                go_simp
                refine (HML.out _ hd4).mono ?_
                rintro e u5 ⟨rfl, hd5⟩
                refine hK.out _ _ (HS.out _ hd5) (fun hS5 => ?_)
                clear hK K
                try simp only [Act.put, List.setIfInBounds_toArray, List.set_cons_zero, List.set_cons_succ]
                refine wpAnyH_take (i := 19) (oi := ⟨some 63, _, _, _, _, _⟩) (v := .bool true) rfl (by kernel_rfl) (by kernel_rfl) (by kernel_rfl) (fun _ _ _ h => h) (.inl ⟨by kernel_rfl, fun W hW => by kernel_rfl⟩) hS5 ?_
                try simp only [Act.put, List.setIfInBounds_toArray, List.set_cons_zero, List.set_cons_succ]
                refine wpAnyH_take (i := 20) (oi := ⟨some 64, _, _, _, _, _⟩) (v := .bool true) rfl (by kernel_rfl) (by kernel_rfl) (by kernel_rfl) (fun _ _ _ h => h) (.inl ⟨by kernel_rfl, fun W hW => by kernel_rfl⟩) hS5 ?_
                try simp only [Act.put, List.setIfInBounds_toArray, List.set_cons_zero, List.set_cons_succ]
                refine wpAnyH_take (i := 21) (oi := ⟨some 65, _, _, _, _, _⟩) (v := .int .i64 0) rfl (by kernel_rfl) (by kernel_rfl) (by kernel_rfl) (fun _ _ _ h => h) (.inl ⟨by kernel_rfl, fun W hW => by kernel_rfl⟩) hS5 ?_
                try simp only [Act.put, List.setIfInBounds_toArray, List.set_cons_zero, List.set_cons_succ]
                refine wpAnyH_take (i := 22) (oi := ⟨some 66, _, _, _, _, _⟩) (v := .bool true) rfl (by kernel_rfl) (by kernel_rfl) (by kernel_rfl) (fun _ _ _ h => h) (.inl ⟨by kernel_rfl, fun W hW => by first | (obtain ⟨a0, a1, a2, a3, b0, b1, b2, b3, l0, l1, l2, l3⟩ := hW; go_simp; done) | (obtain ⟨a0, a1, a2, a3, b0, b1, b2, b3, l0, l1, l2, l3⟩ := hW; go_simp; omega) | (obtain ⟨a0, a1, a2, a3, b0, b1, b2, b3, l0, l1, l2, l3⟩ := hW; go_simp; simp [*]; done)⟩) hS5 ?_
                try simp only [Act.put, List.setIfInBounds_toArray, List.set_cons_zero, List.set_cons_succ]
                refine wpAnyH_take (i := 23) (oi := ⟨some 67, _, _, _, _, _⟩) (v := .bool true) rfl (by kernel_rfl) (by kernel_rfl) (by kernel_rfl) (fun _ _ _ h => h) (.inl ⟨by kernel_rfl, fun W hW => by kernel_rfl⟩) hS5 ?_
                try simp only [Act.put, List.setIfInBounds_toArray, List.set_cons_zero, List.set_cons_succ]
                refine wpAnyH_take (i := 24) (oi := ⟨some 68, _, _, _, _, _⟩) (v := undef) rfl (by kernel_rfl) (by kernel_rfl) (by kernel_rfl) (fun _ _ _ h => h) (.inr ⟨by kernel_rfl, rfl⟩) hS5 ?_
                try simp only [Act.put, List.setIfInBounds_toArray, List.set_cons_zero, List.set_cons_succ]
                refine wpAnyH_take (i := 25) (oi := ⟨some 69, _, _, _, _, _⟩) (v := undef) rfl (by kernel_rfl) (by kernel_rfl) (by kernel_rfl) (fun _ _ _ h => h) (.inr ⟨by kernel_rfl, rfl⟩) hS5 ?_
                try simp only [Act.put, List.setIfInBounds_toArray, List.set_cons_zero, List.set_cons_succ]
                refine wpAnyH_take (i := 26) (oi := ⟨some 70, _, _, _, _, _⟩) (v := undef) rfl (by kernel_rfl) (by kernel_rfl) (by kernel_rfl) (fun _ _ _ h => h) (.inr ⟨by kernel_rfl, rfl⟩) hS5 ?_
                try simp only [Act.put, List.setIfInBounds_toArray, List.set_cons_zero, List.set_cons_succ]
                refine wpAnyH_take (i := 27) (oi := ⟨some 71, _, _, _, _, _⟩) (v := undef) rfl (by kernel_rfl) (by kernel_rfl) (by kernel_rfl) (fun _ _ _ h => h) (.inr ⟨by kernel_rfl, rfl⟩) hS5 ?_
                try simp only [Act.put, List.setIfInBounds_toArray, List.set_cons_zero, List.set_cons_succ]
                refine wpAnyH_take (i := 28) (oi := ⟨some 72, _, _, _, _, _⟩) (v := .bool true) rfl (by kernel_rfl) (by kernel_rfl) (by kernel_rfl) (fun _ _ _ h => h) (.inl ⟨by kernel_rfl, fun W hW => by kernel_rfl⟩) hS5 ?_
                try simp only [Act.put, List.setIfInBounds_toArray, List.set_cons_zero, List.set_cons_succ]
                refine wpAnyH_take (i := 29) (oi := ⟨some 73, _, _, _, _, _⟩) (v := .bool true) rfl (by kernel_rfl) (by kernel_rfl) (by kernel_rfl) (fun _ _ _ h => h) (.inl ⟨by kernel_rfl, fun W hW => by kernel_rfl⟩) hS5 ?_
                try simp only [Act.put, List.setIfInBounds_toArray, List.set_cons_zero, List.set_cons_succ]
                refine wpAnyH_take (i := 30) (oi := ⟨some 6, _, _, _, _, _⟩) (v := .bool true) rfl (by kernel_rfl) (by kernel_rfl) (by kernel_rfl) (fun _ _ _ h => h) (.inl ⟨by kernel_rfl, fun W hW => by kernel_rfl⟩) hS5 ?_
                try simp only [Act.put, List.setIfInBounds_toArray, List.set_cons_zero, List.set_cons_succ]
                refine wpAnyH_done (by kernel_rfl) ?_ _
                go_wp2_with fail
                go_ret
                exact ⟨rfl, HXa.out.bw.trans (hd5.mono HXa.out.bw.size)⟩
              · have hf0 : (free == 0) = false := by simpa using hf
                have HM2 := Lib.hid (HM2.out hf)
                clear hf
                refine wp_region_held_drew (S := (fun V' => (V'.cell? ⟨w.heap.size, 0, none⟩ = some (.int .i64 k) ∧ V'.cell? ⟨w.heap.size, 1, none⟩ = some (.int .i64 n) ∧ V'.cell? ⟨w.heap.size, 2, none⟩ = some (.string s) ∧ V'.cell? ⟨w.heap.size, 3, none⟩ = some (.slice A l.length (capF l.length c)) ∧ V'.cell? ⟨w.heap.size + 1, 0, none⟩ = some (.int .i64 k') ∧ V'.cell? ⟨w.heap.size + 1, 1, none⟩ = some (.int .i64 n') ∧ V'.cell? ⟨w.heap.size + 1, 2, none⟩ = some (.string s') ∧ V'.cell? ⟨w.heap.size + 1, 3, none⟩ = some (.slice A' l'.length (capF l'.length c')) ∧ V'.cell? ⟨V.heap.size + 1, 0, none⟩ = some (.int .i64 2) ∧ V'.cell? ⟨V.heap.size + 1, 1, none⟩ = some (.int .i64 0) ∧ V'.cell? ⟨V.heap.size + 1, 2, none⟩ = some (.string e0B) ∧ V'.cell? ⟨V.heap.size + 1, 3, none⟩ = some (.slice (some ⟨V.heap.size, 0, none⟩) 1 1)))) rfl hS0 (fun hSs => ?_)
                change wpAnyH _ _ _ _ _ 31 (Array.replicate 31 false) _ _
                refine wpAnyH_take (i := 0) (oi := ⟨some 44, _, _, _, _, _⟩) (v := .agg #[.int .i64 k, .int .i64 n, .string s, .slice A l.length (capF l.length c)]) rfl (by kernel_rfl) (by kernel_rfl) (by kernel_rfl) (fun _ _ _ h => h) (.inl ⟨by kernel_rfl, fun W hW => by first | (obtain ⟨a0, a1, a2, a3, b0, b1, b2, b3, l0, l1, l2, l3⟩ := hW; go_simp; done) | (obtain ⟨a0, a1, a2, a3, b0, b1, b2, b3, l0, l1, l2, l3⟩ := hW; go_simp; omega) | (obtain ⟨a0, a1, a2, a3, b0, b1, b2, b3, l0, l1, l2, l3⟩ := hW; go_simp; simp [*]; done)⟩) hSs ?_
                try simp only [Act.put, List.setIfInBounds_toArray, List.set_cons_zero, List.set_cons_succ]
                refine wpAnyH_take (i := 2) (oi := ⟨some 46, _, _, _, _, _⟩) (v := .agg #[.int .i64 k', .int .i64 n', .string s', .slice A' l'.length (capF l'.length c')]) rfl (by kernel_rfl) (by kernel_rfl) (by kernel_rfl) (fun _ _ _ h => h) (.inl ⟨by kernel_rfl, fun W hW => by first | (obtain ⟨a0, a1, a2, a3, b0, b1, b2, b3, l0, l1, l2, l3⟩ := hW; go_simp; done) | (obtain ⟨a0, a1, a2, a3, b0, b1, b2, b3, l0, l1, l2, l3⟩ := hW; go_simp; omega) | (obtain ⟨a0, a1, a2, a3, b0, b1, b2, b3, l0, l1, l2, l3⟩ := hW; go_simp; simp [*]; done)⟩) hSs ?_
                try simp only [Act.put, List.setIfInBounds_toArray, List.set_cons_zero, List.set_cons_succ]
                refine wpAnyH_take (i := 5) (oi := ⟨some 49, _, _, _, _, _⟩) (v := .agg #[.int .i64 k, .int .i64 n, .string s, .slice A l.length (capF l.length c)]) rfl (by kernel_rfl) (by kernel_rfl) (by kernel_rfl) (fun _ _ _ h => h) (.inl ⟨by kernel_rfl, fun W hW => by first | (obtain ⟨a0, a1, a2, a3, b0, b1, b2, b3, l0, l1, l2, l3⟩ := hW; go_simp; done) | (obtain ⟨a0, a1, a2, a3, b0, b1, b2, b3, l0, l1, l2, l3⟩ := hW; go_simp; omega) | (obtain ⟨a0, a1, a2, a3, b0, b1, b2, b3, l0, l1, l2, l3⟩ := hW; go_simp; simp [*]; done)⟩) hSs ?_
                try simp only [Act.put, List.setIfInBounds_toArray, List.set_cons_zero, List.set_cons_succ]
                refine wpAnyH_take (i := 6) (oi := ⟨some 50, _, _, _, _, _⟩) (v := .agg #[.int .i64 k', .int .i64 n', .string s', .slice A' l'.length (capF l'.length c')]) rfl (by kernel_rfl) (by kernel_rfl) (by kernel_rfl) (fun _ _ _ h => h) (.inl ⟨by kernel_rfl, fun W hW => by first | (obtain ⟨a0, a1, a2, a3, b0, b1, b2, b3, l0, l1, l2, l3⟩ := hW; go_simp; done) | (obtain ⟨a0, a1, a2, a3, b0, b1, b2, b3, l0, l1, l2, l3⟩ := hW; go_simp; omega) | (obtain ⟨a0, a1, a2, a3, b0, b1, b2, b3, l0, l1, l2, l3⟩ := hW; go_simp; simp [*]; done)⟩) hSs ?_
                try simp only [Act.put, List.setIfInBounds_toArray, List.set_cons_zero, List.set_cons_succ]
                refine wpAnyH_ready (rs := [1]) (by kernel_rfl) (by simp) (AllReadyH.cons rfl (fun K hK => ?_) AllReadyH.nil)
                go_simp
                refine (HTa.out _ hd0).mono ?_
                rintro e u1 ⟨rfl, hd1⟩
                refine hK.out _ _ (HS.out _ hd1) (fun hS1 => ?_)
                clear hK K
                try simp only [Act.put, List.setIfInBounds_toArray, List.set_cons_zero, List.set_cons_succ]
                refine wpAnyH_ready (rs := [3]) (by kernel_rfl) (by simp) (AllReadyH.cons rfl (fun K hK => ?_) AllReadyH.nil)
                go_simp
                refine (HTb.out _ hd1).mono ?_
                rintro e u2 ⟨rfl, hd2⟩
                refine hK.out _ _ (HS.out _ hd2) (fun hS2 => ?_)
                clear hK K
                try simp only [Act.put, List.setIfInBounds_toArray, List.set_cons_zero, List.set_cons_succ]
                refine wpAnyH_take (i := 4) (oi := ⟨some 48, _, _, _, _, _⟩) (v := .bool true) rfl (by kernel_rfl) (by kernel_rfl) (by kernel_rfl) (fun _ _ _ h => h) (.inl ⟨by kernel_rfl, fun W hW => by first | (obtain ⟨a0, a1, a2, a3, b0, b1, b2, b3, l0, l1, l2, l3⟩ := hW; go_simp; done) | (obtain ⟨a0, a1, a2, a3, b0, b1, b2, b3, l0, l1, l2, l3⟩ := hW; go_simp; omega) | (obtain ⟨a0, a1, a2, a3, b0, b1, b2, b3, l0, l1, l2, l3⟩ := hW; go_simp; simp [*]; done)⟩) hS2 ?_
                try simp only [Act.put, List.setIfInBounds_toArray, List.set_cons_zero, List.set_cons_succ]
                refine wpAnyH_ready (rs := [7]) (by kernel_rfl) (by simp) (AllReadyH.cons rfl (fun K hK => ?_) AllReadyH.nil)
                go_simp
                refine (HSE.out _ hd2).mono ?_
                rintro e u3 ⟨rfl, hd3⟩
                refine hK.out _ _ (HS.out _ hd3) (fun hS3 => ?_)
                clear hK K
                try simp only [Act.put, List.setIfInBounds_toArray, List.set_cons_zero, List.set_cons_succ]
                refine wpAnyH_take (i := 8) (oi := ⟨some 52, _, _, _, _, _⟩) (v := .bool true) rfl (by kernel_rfl) (by kernel_rfl) (by kernel_rfl) (fun _ _ _ h => h) (.inl ⟨by kernel_rfl, fun W hW => by first | (obtain ⟨a0, a1, a2, a3, b0, b1, b2, b3, l0, l1, l2, l3⟩ := hW; go_simp; done) | (obtain ⟨a0, a1, a2, a3, b0, b1, b2, b3, l0, l1, l2, l3⟩ := hW; go_simp; omega) | (obtain ⟨a0, a1, a2, a3, b0, b1, b2, b3, l0, l1, l2, l3⟩ := hW; go_simp; simp [*]; done)⟩) hS3 ?_
                try simp only [Act.put, List.setIfInBounds_toArray, List.set_cons_zero, List.set_cons_succ]
                refine wpAnyH_take (i := 9) (oi := ⟨some 53, _, _, _, _, _⟩) (v := .bool true) rfl (by kernel_rfl) (by kernel_rfl) (by kernel_rfl) (fun _ _ _ h => h) (.inl ⟨by kernel_rfl, fun W hW => by kernel_rfl⟩) hS3 ?_
                try simp only [Act.put, List.setIfInBounds_toArray, List.set_cons_zero, List.set_cons_succ]
                refine wpAnyH_take (i := 10) (oi := ⟨some 54, _, _, _, _, _⟩) (v := .agg #[.int .i64 k, .int .i64 n, .string s, .slice A l.length (capF l.length c)]) rfl (by kernel_rfl) (by kernel_rfl) (by kernel_rfl) (fun _ _ _ h => h) (.inl ⟨by kernel_rfl, fun W hW => by first | (obtain ⟨a0, a1, a2, a3, b0, b1, b2, b3, l0, l1, l2, l3⟩ := hW; go_simp; done) | (obtain ⟨a0, a1, a2, a3, b0, b1, b2, b3, l0, l1, l2, l3⟩ := hW; go_simp; omega) | (obtain ⟨a0, a1, a2, a3, b0, b1, b2, b3, l0, l1, l2, l3⟩ := hW; go_simp; simp [*]; done)⟩) hS3 ?_
                try simp only [Act.put, List.setIfInBounds_toArray, List.set_cons_zero, List.set_cons_succ]
                refine wpAnyH_take (i := 11) (oi := ⟨some 55, _, _, _, _, _⟩) (v := .int .i64 free) rfl (by kernel_rfl) (by kernel_rfl) (by kernel_rfl) (fun _ _ _ h => h) (.inl ⟨by kernel_rfl, fun W hW => by kernel_rfl⟩) hS3 ?_
                try simp only [Act.put, List.setIfInBounds_toArray, List.set_cons_zero, List.set_cons_succ]
                refine wpAnyH_take (i := 12) (oi := ⟨some 56, _, _, _, _, _⟩) (v := .int .i64 (free + 1)) rfl (by kernel_rfl) (by kernel_rfl) (by kernel_rfl) (fun _ _ _ h => h) (.inl ⟨by kernel_rfl, fun W hW => by first | (obtain ⟨a0, a1, a2, a3, b0, b1, b2, b3, l0, l1, l2, l3⟩ := hW; go_simp; done) | (obtain ⟨a0, a1, a2, a3, b0, b1, b2, b3, l0, l1, l2, l3⟩ := hW; go_simp; omega) | (obtain ⟨a0, a1, a2, a3, b0, b1, b2, b3, l0, l1, l2, l3⟩ := hW; go_simp; simp [*]; done)⟩) hS3 ?_
                try simp only [Act.put, List.setIfInBounds_toArray, List.set_cons_zero, List.set_cons_succ]
                refine wpAnyH_ready (rs := [13]) (by kernel_rfl) (by simp) (AllReadyH.cons rfl (fun K hK => ?_) AllReadyH.nil)
                go_simp
                refine (HM1.out _ hd3).mono ?_
                rintro e u4 ⟨rfl, hd4⟩
                refine hK.out _ _ (HS.out _ hd4) (fun hS4 => ?_)
                clear hK K
                try simp only [Act.put, List.setIfInBounds_toArray, List.set_cons_zero, List.set_cons_succ]
                refine wpAnyH_take (i := 14) (oi := ⟨some 58, _, _, _, _, _⟩) (v := .bool true) rfl (by kernel_rfl) (by kernel_rfl) (by kernel_rfl) (fun _ _ _ h => h) (.inl ⟨by kernel_rfl, fun W hW => by kernel_rfl⟩) hS4 ?_
                try simp only [Act.put, List.setIfInBounds_toArray, List.set_cons_zero, List.set_cons_succ]
                refine wpAnyH_take (i := 15) (oi := ⟨some 59, _, _, _, _, _⟩) (v := .bool true) rfl (by kernel_rfl) (by kernel_rfl) (by kernel_rfl) (fun _ _ _ h => h) (.inl ⟨by kernel_rfl, fun W hW => by kernel_rfl⟩) hS4 ?_
                try simp only [Act.put, List.setIfInBounds_toArray, List.set_cons_zero, List.set_cons_succ]
                refine wpAnyH_take (i := 16) (oi := ⟨some 60, _, _, _, _, _⟩) (v := .agg #[.int .i64 2, .int .i64 0, .string e0B, .slice (some ⟨V.heap.size, 0, none⟩) 1 1]) rfl (by kernel_rfl) (by kernel_rfl) (by kernel_rfl) (fun _ _ _ h => h) (.inl ⟨by kernel_rfl, fun W hW => by first | (obtain ⟨a0, a1, a2, a3, b0, b1, b2, b3, l0, l1, l2, l3⟩ := hW; go_simp; done) | (obtain ⟨a0, a1, a2, a3, b0, b1, b2, b3, l0, l1, l2, l3⟩ := hW; go_simp; omega) | (obtain ⟨a0, a1, a2, a3, b0, b1, b2, b3, l0, l1, l2, l3⟩ := hW; go_simp; simp [*]; done)⟩) hS4 ?_
                try simp only [Act.put, List.setIfInBounds_toArray, List.set_cons_zero, List.set_cons_succ]
                refine wpAnyH_take (i := 17) (oi := ⟨some 61, _, _, _, _, _⟩) (v := .int .i64 free) rfl (by kernel_rfl) (by kernel_rfl) (by kernel_rfl) (fun _ _ _ h => h) (.inl ⟨by kernel_rfl, fun W hW => by kernel_rfl⟩) hS4 ?_
                try simp only [Act.put, List.setIfInBounds_toArray, List.set_cons_zero, List.set_cons_succ]
                refine wpAnyH_ready (rs := [18]) (by kernel_rfl) (by simp) (AllReadyH.cons rfl (fun K hK => ?_) AllReadyH.nil)
                go_simp
                refine (HML.out _ hd4).mono ?_
                rintro e u5 ⟨rfl, hd5⟩
                refine hK.out _ _ (HS.out _ hd5) (fun hS5 => ?_)
                clear hK K
                try simp only [Act.put, List.setIfInBounds_toArray, List.set_cons_zero, List.set_cons_succ]
                refine wpAnyH_take (i := 19) (oi := ⟨some 63, _, _, _, _, _⟩) (v := .bool true) rfl (by kernel_rfl) (by kernel_rfl) (by kernel_rfl) (fun _ _ _ h => h) (.inl ⟨by kernel_rfl, fun W hW => by kernel_rfl⟩) hS5 ?_
                try simp only [Act.put, List.setIfInBounds_toArray, List.set_cons_zero, List.set_cons_succ]
                refine wpAnyH_take (i := 20) (oi := ⟨some 64, _, _, _, _, _⟩) (v := .bool true) rfl (by kernel_rfl) (by kernel_rfl) (by kernel_rfl) (fun _ _ _ h => h) (.inl ⟨by kernel_rfl, fun W hW => by kernel_rfl⟩) hS5 ?_
                try simp only [Act.put, List.setIfInBounds_toArray, List.set_cons_zero, List.set_cons_succ]
                refine wpAnyH_take (i := 21) (oi := ⟨some 65, _, _, _, _, _⟩) (v := .int .i64 free) rfl (by kernel_rfl) (by kernel_rfl) (by kernel_rfl) (fun _ _ _ h => h) (.inl ⟨by kernel_rfl, fun W hW => by kernel_rfl⟩) hS5 ?_
                try simp only [Act.put, List.setIfInBounds_toArray, List.set_cons_zero, List.set_cons_succ]
                refine wpAnyH_take (i := 22) (oi := ⟨some 66, _, _, _, _, _⟩) (v := .bool false) rfl (by kernel_rfl) (by kernel_rfl) (by kernel_rfl) (fun _ _ _ h => h) (.inl ⟨by kernel_rfl, fun W hW => by first | (obtain ⟨a0, a1, a2, a3, b0, b1, b2, b3, l0, l1, l2, l3⟩ := hW; go_simp; done) | (obtain ⟨a0, a1, a2, a3, b0, b1, b2, b3, l0, l1, l2, l3⟩ := hW; go_simp; omega) | (obtain ⟨a0, a1, a2, a3, b0, b1, b2, b3, l0, l1, l2, l3⟩ := hW; go_simp; simp [*]; done)⟩) hS5 ?_
                try simp only [Act.put, List.setIfInBounds_toArray, List.set_cons_zero, List.set_cons_succ]
                refine wpAnyH_take (i := 23) (oi := ⟨some 67, _, _, _, _, _⟩) (v := .bool false) rfl (by kernel_rfl) (by kernel_rfl) (by kernel_rfl) (fun _ _ _ h => h) (.inl ⟨by kernel_rfl, fun W hW => by kernel_rfl⟩) hS5 ?_
                try simp only [Act.put, List.setIfInBounds_toArray, List.set_cons_zero, List.set_cons_succ]
                refine wpAnyH_take (i := 24) (oi := ⟨some 68, _, _, _, _, _⟩) (v := .agg #[.int .i64 2, .int .i64 0, .string e0B, .slice (some ⟨V.heap.size, 0, none⟩) 1 1]) rfl (by kernel_rfl) (by kernel_rfl) (by kernel_rfl) (fun _ _ _ h => h) (.inl ⟨by kernel_rfl, fun W hW => by first | (obtain ⟨a0, a1, a2, a3, b0, b1, b2, b3, l0, l1, l2, l3⟩ := hW; go_simp; done) | (obtain ⟨a0, a1, a2, a3, b0, b1, b2, b3, l0, l1, l2, l3⟩ := hW; go_simp; omega) | (obtain ⟨a0, a1, a2, a3, b0, b1, b2, b3, l0, l1, l2, l3⟩ := hW; go_simp; simp [*]; done)⟩) hS5 ?_
                try simp only [Act.put, List.setIfInBounds_toArray, List.set_cons_zero, List.set_cons_succ]
                refine wpAnyH_take (i := 25) (oi := ⟨some 69, _, _, _, _, _⟩) (v := .int .i64 free) rfl (by kernel_rfl) (by kernel_rfl) (by kernel_rfl) (fun _ _ _ h => h) (.inl ⟨by kernel_rfl, fun W hW => by kernel_rfl⟩) hS5 ?_
                try simp only [Act.put, List.setIfInBounds_toArray, List.set_cons_zero, List.set_cons_succ]
                refine wpAnyH_take (i := 26) (oi := ⟨some 70, _, _, _, _, _⟩) (v := .int .i64 (free - 1)) rfl (by kernel_rfl) (by kernel_rfl) (by kernel_rfl) (fun _ _ _ h => h) (.inl ⟨by kernel_rfl, fun W hW => by first | (obtain ⟨a0, a1, a2, a3, b0, b1, b2, b3, l0, l1, l2, l3⟩ := hW; go_simp; done) | (obtain ⟨a0, a1, a2, a3, b0, b1, b2, b3, l0, l1, l2, l3⟩ := hW; go_simp; omega) | (obtain ⟨a0, a1, a2, a3, b0, b1, b2, b3, l0, l1, l2, l3⟩ := hW; go_simp; simp [*]; done)⟩) hS5 ?_
                try simp only [Act.put, List.setIfInBounds_toArray, List.set_cons_zero, List.set_cons_succ]
                refine wpAnyH_ready (rs := [27]) (by kernel_rfl) (by simp) (AllReadyH.cons rfl (fun K hK => ?_) AllReadyH.nil)
                go_simp
                refine (HM2.out _ hd5).mono ?_
                rintro e u6 ⟨rfl, hd6⟩
                refine hK.out _ _ (HS.out _ hd6) (fun hS6 => ?_)
                clear hK K
                try simp only [Act.put, List.setIfInBounds_toArray, List.set_cons_zero, List.set_cons_succ]
                refine wpAnyH_take (i := 28) (oi := ⟨some 72, _, _, _, _, _⟩) (v := .bool true) rfl (by kernel_rfl) (by kernel_rfl) (by kernel_rfl) (fun _ _ _ h => h) (.inl ⟨by kernel_rfl, fun W hW => by kernel_rfl⟩) hS6 ?_
                try simp only [Act.put, List.setIfInBounds_toArray, List.set_cons_zero, List.set_cons_succ]
                refine wpAnyH_take (i := 29) (oi := ⟨some 73, _, _, _, _, _⟩) (v := .bool true) rfl (by kernel_rfl) (by kernel_rfl) (by kernel_rfl) (fun _ _ _ h => h) (.inl ⟨by kernel_rfl, fun W hW => by kernel_rfl⟩) hS6 ?_
                try simp only [Act.put, List.setIfInBounds_toArray, List.set_cons_zero, List.set_cons_succ]
                refine wpAnyH_take (i := 30) (oi := ⟨some 6, _, _, _, _, _⟩) (v := .bool true) rfl (by kernel_rfl) (by kernel_rfl) (by kernel_rfl) (fun _ _ _ h => h) (.inl ⟨by kernel_rfl, fun W hW => by kernel_rfl⟩) hS6 ?_
                try simp only [Act.put, List.setIfInBounds_toArray, List.set_cons_zero, List.set_cons_succ]
                refine wpAnyH_done (by kernel_rfl) ?_ _
                go_wp2_with fail
                go_ret
                exact ⟨rfl, HXa.out.bw.trans (hd6.mono HXa.out.bw.size)⟩
            | false =>
              have hne : ¬ (⟨TA.toArray⟩ : ByteArray).toList = (⟨TB.toArray⟩ : ByteArray).toList := by
                have h1 := of_decide_eq_false hts
                rw [ByteArray.toList_mk, ByteArray.toList_mk]
                exact h1
              have hne2 : ¬ TA = TB := of_decide_eq_false hts
              clear hts
              by_cases hf : free = 0
              · subst hf
                simp only [Int.zero_add] at HM1
                clear hw1 hw2 HM2
                refine wp_region_held_drew (S := (fun V' => (V'.cell? ⟨w.heap.size, 0, none⟩ = some (.int .i64 k) ∧ V'.cell? ⟨w.heap.size, 1, none⟩ = some (.int .i64 n) ∧ V'.cell? ⟨w.heap.size, 2, none⟩ = some (.string s) ∧ V'.cell? ⟨w.heap.size, 3, none⟩ = some (.slice A l.length (capF l.length c)) ∧ V'.cell? ⟨w.heap.size + 1, 0, none⟩ = some (.int .i64 k') ∧ V'.cell? ⟨w.heap.size + 1, 1, none⟩ = some (.int .i64 n') ∧ V'.cell? ⟨w.heap.size + 1, 2, none⟩ = some (.string s') ∧ V'.cell? ⟨w.heap.size + 1, 3, none⟩ = some (.slice A' l'.length (capF l'.length c')) ∧ V'.cell? ⟨V.heap.size + 1, 0, none⟩ = some (.int .i64 2) ∧ V'.cell? ⟨V.heap.size + 1, 1, none⟩ = some (.int .i64 0) ∧ V'.cell? ⟨V.heap.size + 1, 2, none⟩ = some (.string e0B) ∧ V'.cell? ⟨V.heap.size + 1, 3, none⟩ = some (.slice (some ⟨V.heap.size, 0, none⟩) 1 1)))) rfl hS0 (fun hSs => ?_)
                change wpAnyH _ _ _ _ _ 31 (Array.replicate 31 false) _ _
                refine wpAnyH_take (i := 0) (oi := ⟨some 44, _, _, _, _, _⟩) (v := .agg #[.int .i64 k, .int .i64 n, .string s, .slice A l.length (capF l.length c)]) rfl (by kernel_rfl) (by kernel_rfl) (by kernel_rfl) (fun _ _ _ h => h) (.inl ⟨by kernel_rfl, fun W hW => by first | (obtain ⟨a0, a1, a2, a3, b0, b1, b2, b3, l0, l1, l2, l3⟩ := hW; go_simp; done) | (obtain ⟨a0, a1, a2, a3, b0, b1, b2, b3, l0, l1, l2, l3⟩ := hW; go_simp; omega) | (obtain ⟨a0, a1, a2, a3, b0, b1, b2, b3, l0, l1, l2, l3⟩ := hW; go_simp; simp [*]; done)⟩) hSs ?_
                try simp only [Act.put, List.setIfInBounds_toArray, List.set_cons_zero, List.set_cons_succ]
                refine wpAnyH_take (i := 2) (oi := ⟨some 46, _, _, _, _, _⟩) (v := .agg #[.int .i64 k', .int .i64 n', .string s', .slice A' l'.length (capF l'.length c')]) rfl (by kernel_rfl) (by kernel_rfl) (by kernel_rfl) (fun _ _ _ h => h) (.inl ⟨by kernel_rfl, fun W hW => by first | (obtain ⟨a0, a1, a2, a3, b0, b1, b2, b3, l0, l1, l2, l3⟩ := hW; go_simp; done) | (obtain ⟨a0, a1, a2, a3, b0, b1, b2, b3, l0, l1, l2, l3⟩ := hW; go_simp; omega) | (obtain ⟨a0, a1, a2, a3, b0, b1, b2, b3, l0, l1, l2, l3⟩ := hW; go_simp; simp [*]; done)⟩) hSs ?_
                try simp only [Act.put, List.setIfInBounds_toArray, List.set_cons_zero, List.set_cons_succ]
                refine wpAnyH_take (i := 5) (oi := ⟨some 49, _, _, _, _, _⟩) (v := .agg #[.int .i64 k, .int .i64 n, .string s, .slice A l.length (capF l.length c)]) rfl (by kernel_rfl) (by kernel_rfl) (by kernel_rfl) (fun _ _ _ h => h) (.inl ⟨by kernel_rfl, fun W hW => by first | (obtain ⟨a0, a1, a2, a3, b0, b1, b2, b3, l0, l1, l2, l3⟩ := hW; go_simp; done) | (obtain ⟨a0, a1, a2, a3, b0, b1, b2, b3, l0, l1, l2, l3⟩ := hW; go_simp; omega) | (obtain ⟨a0, a1, a2, a3, b0, b1, b2, b3, l0, l1, l2, l3⟩ := hW; go_simp; simp [*]; done)⟩) hSs ?_
                try simp only [Act.put, List.setIfInBounds_toArray, List.set_cons_zero, List.set_cons_succ]
                refine wpAnyH_take (i := 6) (oi := ⟨some 50, _, _, _, _, _⟩) (v := .agg #[.int .i64 k', .int .i64 n', .string s', .slice A' l'.length (capF l'.length c')]) rfl (by kernel_rfl) (by kernel_rfl) (by kernel_rfl) (fun _ _ _ h => h) (.inl ⟨by kernel_rfl, fun W hW => by first | (obtain ⟨a0, a1, a2, a3, b0, b1, b2, b3, l0, l1, l2, l3⟩ := hW; go_simp; done) | (obtain ⟨a0, a1, a2, a3, b0, b1, b2, b3, l0, l1, l2, l3⟩ := hW; go_simp; omega) | (obtain ⟨a0, a1, a2, a3, b0, b1, b2, b3, l0, l1, l2, l3⟩ := hW; go_simp; simp [*]; done)⟩) hSs ?_
                try simp only [Act.put, List.setIfInBounds_toArray, List.set_cons_zero, List.set_cons_succ]
                refine wpAnyH_ready (rs := [1]) (by kernel_rfl) (by simp) (AllReadyH.cons rfl (fun K hK => ?_) AllReadyH.nil)
                go_simp
                refine (HTa.out _ hd0).mono ?_
                rintro e u1 ⟨rfl, hd1⟩
                refine hK.out _ _ (HS.out _ hd1) (fun hS1 => ?_)
                clear hK K
                try simp only [Act.put, List.setIfInBounds_toArray, List.set_cons_zero, List.set_cons_succ]
                refine wpAnyH_ready (rs := [3]) (by kernel_rfl) (by simp) (AllReadyH.cons rfl (fun K hK => ?_) AllReadyH.nil)
                go_simp
                refine (HTb.out _ hd1).mono ?_
                rintro e u2 ⟨rfl, hd2⟩
                refine hK.out _ _ (HS.out _ hd2) (fun hS2 => ?_)
                clear hK K
                try simp only [Act.put, List.setIfInBounds_toArray, List.set_cons_zero, List.set_cons_succ]
                refine wpAnyH_take (i := 4) (oi := ⟨some 48, _, _, _, _, _⟩) (v := .bool false) rfl (by kernel_rfl) (by kernel_rfl) (by kernel_rfl) (fun _ _ _ h => h) (.inl ⟨by kernel_rfl, fun W hW => by first | (obtain ⟨a0, a1, a2, a3, b0, b1, b2, b3, l0, l1, l2, l3⟩ := hW; go_simp; done) | (obtain ⟨a0, a1, a2, a3, b0, b1, b2, b3, l0, l1, l2, l3⟩ := hW; go_simp; omega) | (obtain ⟨a0, a1, a2, a3, b0, b1, b2, b3, l0, l1, l2, l3⟩ := hW; go_simp; simp [*]; done)⟩) hS2 ?_
                try simp only [Act.put, List.setIfInBounds_toArray, List.set_cons_zero, List.set_cons_succ]
                refine wpAnyH_ready (rs := [7]) (by kernel_rfl) (by simp) (AllReadyH.cons rfl (fun K hK => ?_) AllReadyH.nil)
                go_simp
                refine (HSE.out _ hd2).mono ?_
                rintro e u3 ⟨rfl, hd3⟩
                refine hK.out _ _ (HS.out _ hd3) (fun hS3 => ?_)
                clear hK K
                try simp only [Act.put, List.setIfInBounds_toArray, List.set_cons_zero, List.set_cons_succ]
                refine wpAnyH_take (i := 8) (oi := ⟨some 52, _, _, _, _, _⟩) (v := .bool true) rfl (by kernel_rfl) (by kernel_rfl) (by kernel_rfl) (fun _ _ _ h => h) (.inl ⟨by kernel_rfl, fun W hW => by first | (obtain ⟨a0, a1, a2, a3, b0, b1, b2, b3, l0, l1, l2, l3⟩ := hW; go_simp; done) | (obtain ⟨a0, a1, a2, a3, b0, b1, b2, b3, l0, l1, l2, l3⟩ := hW; go_simp; omega) | (obtain ⟨a0, a1, a2, a3, b0, b1, b2, b3, l0, l1, l2, l3⟩ := hW; go_simp; simp [*]; done)⟩) hS3 ?_
                try simp only [Act.put, List.setIfInBounds_toArray, List.set_cons_zero, List.set_cons_succ]
                refine wpAnyH_take (i := 9) (oi := ⟨some 53, _, _, _, _, _⟩) (v := .bool true) rfl (by kernel_rfl) (by kernel_rfl) (by kernel_rfl) (fun _ _ _ h => h) (.inl ⟨by kernel_rfl, fun W hW => by kernel_rfl⟩) hS3 ?_
                try simp only [Act.put, List.setIfInBounds_toArray, List.set_cons_zero, List.set_cons_succ]
                refine wpAnyH_take (i := 10) (oi := ⟨some 54, _, _, _, _, _⟩) (v := .agg #[.int .i64 k, .int .i64 n, .string s, .slice A l.length (capF l.length c)]) rfl (by kernel_rfl) (by kernel_rfl) (by kernel_rfl) (fun _ _ _ h => h) (.inl ⟨by kernel_rfl, fun W hW => by first | (obtain ⟨a0, a1, a2, a3, b0, b1, b2, b3, l0, l1, l2, l3⟩ := hW; go_simp; done) | (obtain ⟨a0, a1, a2, a3, b0, b1, b2, b3, l0, l1, l2, l3⟩ := hW; go_simp; omega) | (obtain ⟨a0, a1, a2, a3, b0, b1, b2, b3, l0, l1, l2, l3⟩ := hW; go_simp; simp [*]; done)⟩) hS3 ?_
                try simp only [Act.put, List.setIfInBounds_toArray, List.set_cons_zero, List.set_cons_succ]
                refine wpAnyH_take (i := 11) (oi := ⟨some 55, _, _, _, _, _⟩) (v := .int .i64 0) rfl (by kernel_rfl) (by kernel_rfl) (by kernel_rfl) (fun _ _ _ h => h) (.inl ⟨by kernel_rfl, fun W hW => by kernel_rfl⟩) hS3 ?_
                try simp only [Act.put, List.setIfInBounds_toArray, List.set_cons_zero, List.set_cons_succ]
                refine wpAnyH_take (i := 12) (oi := ⟨some 56, _, _, _, _, _⟩) (v := .int .i64 1) rfl (by kernel_rfl) (by kernel_rfl) (by kernel_rfl) (fun _ _ _ h => h) (.inl ⟨by kernel_rfl, fun W hW => by kernel_rfl⟩) hS3 ?_
                try simp only [Act.put, List.setIfInBounds_toArray, List.set_cons_zero, List.set_cons_succ]
                refine wpAnyH_ready (rs := [13]) (by kernel_rfl) (by simp) (AllReadyH.cons rfl (fun K hK => ?_) AllReadyH.nil)
                go_simp
                refine (HM1.out _ hd3).mono ?_
                rintro e u4 ⟨rfl, hd4⟩
                refine hK.out _ _ (HS.out _ hd4) (fun hS4 => ?_)
                clear hK K
                try simp only [Act.put, List.setIfInBounds_toArray, List.set_cons_zero, List.set_cons_succ]
                refine wpAnyH_take (i := 14) (oi := ⟨some 58, _, _, _, _, _⟩) (v := .bool true) rfl (by kernel_rfl) (by kernel_rfl) (by kernel_rfl) (fun _ _ _ h => h) (.inl ⟨by kernel_rfl, fun W hW => by kernel_rfl⟩) hS4 ?_
                try simp only [Act.put, List.setIfInBounds_toArray, List.set_cons_zero, List.set_cons_succ]
                refine wpAnyH_take (i := 15) (oi := ⟨some 59, _, _, _, _, _⟩) (v := .bool true) rfl (by kernel_rfl) (by kernel_rfl) (by kernel_rfl) (fun _ _ _ h => h) (.inl ⟨by kernel_rfl, fun W hW => by kernel_rfl⟩) hS4 ?_
                try simp only [Act.put, List.setIfInBounds_toArray, List.set_cons_zero, List.set_cons_succ]
                refine wpAnyH_take (i := 16) (oi := ⟨some 60, _, _, _, _, _⟩) (v := .agg #[.int .i64 2, .int .i64 0, .string e0B, .slice (some ⟨V.heap.size, 0, none⟩) 1 1]) rfl (by kernel_rfl) (by kernel_rfl) (by kernel_rfl) (fun _ _ _ h => h) (.inl ⟨by kernel_rfl, fun W hW => by first | (obtain ⟨a0, a1, a2, a3, b0, b1, b2, b3, l0, l1, l2, l3⟩ := hW; go_simp; done) | (obtain ⟨a0, a1, a2, a3, b0, b1, b2, b3, l0, l1, l2, l3⟩ := hW; go_simp; omega) | (obtain ⟨a0, a1, a2, a3, b0, b1, b2, b3, l0, l1, l2, l3⟩ := hW; go_simp; simp [*]; done)⟩) hS4 ?_
                try simp only [Act.put, List.setIfInBounds_toArray, List.set_cons_zero, List.set_cons_succ]
                refine wpAnyH_take (i := 17) (oi := ⟨some 61, _, _, _, _, _⟩) (v := .int .i64 0) rfl (by kernel_rfl) (by kernel_rfl) (by kernel_rfl) (fun _ _ _ h => h) (.inl ⟨by kernel_rfl, fun W hW => by kernel_rfl⟩) hS4 ?_
                try simp only [Act.put, List.setIfInBounds_toArray, List.set_cons_zero, List.set_cons_succ]
                refine wpAnyH_ready (rs := [18]) (by kernel_rfl) (by simp) (AllReadyH.cons rfl (fun K hK => ?_) AllReadyH.nil)
                go_simp
                refine (HML.out _ hd4).mono ?_
                rintro e u5 ⟨rfl, hd5⟩
                refine hK.out _ _ (HS.out _ hd5) (fun hS5 => ?_)
                clear hK K
                try simp only [Act.put, List.setIfInBounds_toArray, List.set_cons_zero, List.set_cons_succ]
                refine wpAnyH_take (i := 19) (oi := ⟨some 63, _, _, _, _, _⟩) (v := .bool true) rfl (by kernel_rfl) (by kernel_rfl) (by kernel_rfl) (fun _ _ _ h => h) (.inl ⟨by kernel_rfl, fun W hW => by kernel_rfl⟩) hS5 ?_
                try simp only [Act.put, List.setIfInBounds_toArray, List.set_cons_zero, List.set_cons_succ]
                refine wpAnyH_take (i := 20) (oi := ⟨some 64, _, _, _, _, _⟩) (v := .bool true) rfl (by kernel_rfl) (by kernel_rfl) (by kernel_rfl) (fun _ _ _ h => h) (.inl ⟨by kernel_rfl, fun W hW => by kernel_rfl⟩) hS5 ?_
                try simp only [Act.put, List.setIfInBounds_toArray, List.set_cons_zero, List.set_cons_succ]
                refine wpAnyH_take (i := 21) (oi := ⟨some 65, _, _, _, _, _⟩) (v := .int .i64 0) rfl (by kernel_rfl) (by kernel_rfl) (by kernel_rfl) (fun _ _ _ h => h) (.inl ⟨by kernel_rfl, fun W hW => by kernel_rfl⟩) hS5 ?_
                try simp only [Act.put, List.setIfInBounds_toArray, List.set_cons_zero, List.set_cons_succ]
                refine wpAnyH_take (i := 22) (oi := ⟨some 66, _, _, _, _, _⟩) (v := .bool true) rfl (by kernel_rfl) (by kernel_rfl) (by kernel_rfl) (fun _ _ _ h => h) (.inl ⟨by kernel_rfl, fun W hW => by first | (obtain ⟨a0, a1, a2, a3, b0, b1, b2, b3, l0, l1, l2, l3⟩ := hW; go_simp; done) | (obtain ⟨a0, a1, a2, a3, b0, b1, b2, b3, l0, l1, l2, l3⟩ := hW; go_simp; omega) | (obtain ⟨a0, a1, a2, a3, b0, b1, b2, b3, l0, l1, l2, l3⟩ := hW; go_simp; simp [*]; done)⟩) hS5 ?_
                try simp only [Act.put, List.setIfInBounds_toArray, List.set_cons_zero, List.set_cons_succ]
                refine wpAnyH_take (i := 23) (oi := ⟨some 67, _, _, _, _, _⟩) (v := .bool true) rfl (by kernel_rfl) (by kernel_rfl) (by kernel_rfl) (fun _ _ _ h => h) (.inl ⟨by kernel_rfl, fun W hW => by kernel_rfl⟩) hS5 ?_
                try simp only [Act.put, List.setIfInBounds_toArray, List.set_cons_zero, List.set_cons_succ]
                refine wpAnyH_take (i := 24) (oi := ⟨some 68, _, _, _, _, _⟩) (v := undef) rfl (by kernel_rfl) (by kernel_rfl) (by kernel_rfl) (fun _ _ _ h => h) (.inr ⟨by kernel_rfl, rfl⟩) hS5 ?_
                try simp only [Act.put, List.setIfInBounds_toArray, List.set_cons_zero, List.set_cons_succ]
                refine wpAnyH_take (i := 25) (oi := ⟨some 69, _, _, _, _, _⟩) (v := undef) rfl (by kernel_rfl) (by kernel_rfl) (by kernel_rfl) (fun _ _ _ h => h) (.inr ⟨by kernel_rfl, rfl⟩) hS5 ?_
                try simp only [Act.put, List.setIfInBounds_toArray, List.set_cons_zero, List.set_cons_succ]
                refine wpAnyH_take (i := 26) (oi := ⟨some 70, _, _, _, _, _⟩) (v := undef) rfl (by kernel_rfl) (by kernel_rfl) (by kernel_rfl) (fun _ _ _ h => h) (.inr ⟨by kernel_rfl, rfl⟩) hS5 ?_
                try simp only [Act.put, List.setIfInBounds_toArray, List.set_cons_zero, List.set_cons_succ]
                refine wpAnyH_take (i := 27) (oi := ⟨some 71, _, _, _, _, _⟩) (v := undef) rfl (by kernel_rfl) (by kernel_rfl) (by kernel_rfl) (fun _ _ _ h => h) (.inr ⟨by kernel_rfl, rfl⟩) hS5 ?_
                try simp only [Act.put, List.setIfInBounds_toArray, List.set_cons_zero, List.set_cons_succ]
                refine wpAnyH_take (i := 28) (oi := ⟨some 72, _, _, _, _, _⟩) (v := .bool true) rfl (by kernel_rfl) (by kernel_rfl) (by kernel_rfl) (fun _ _ _ h => h) (.inl ⟨by kernel_rfl, fun W hW => by kernel_rfl⟩) hS5 ?_
                try simp only [Act.put, List.setIfInBounds_toArray, List.set_cons_zero, List.set_cons_succ]
                refine wpAnyH_take (i := 29) (oi := ⟨some 73, _, _, _, _, _⟩) (v := .bool true) rfl (by kernel_rfl) (by kernel_rfl) (by kernel_rfl) (fun _ _ _ h => h) (.inl ⟨by kernel_rfl, fun W hW => by kernel_rfl⟩) hS5 ?_
                try simp only [Act.put, List.setIfInBounds_toArray, List.set_cons_zero, List.set_cons_succ]
                refine wpAnyH_take (i := 30) (oi := ⟨some 6, _, _, _, _, _⟩) (v := .bool true) rfl (by kernel_rfl) (by kernel_rfl) (by kernel_rfl) (fun _ _ _ h => h) (.inl ⟨by kernel_rfl, fun W hW => by kernel_rfl⟩) hS5 ?_
                try simp only [Act.put, List.setIfInBounds_toArray, List.set_cons_zero, List.set_cons_succ]
                refine wpAnyH_done (by kernel_rfl) ?_ _
                go_wp2_with fail
                go_ret
                exact ⟨rfl, HXa.out.bw.trans (hd5.mono HXa.out.bw.size)⟩
              · have hf0 : (free == 0) = false := by simpa using hf
                have HM2 := Lib.hid (HM2.out hf)
                clear hf
                refine wp_region_held_drew (S := (fun V' => (V'.cell? ⟨w.heap.size, 0, none⟩ = some (.int .i64 k) ∧ V'.cell? ⟨w.heap.size, 1, none⟩ = some (.int .i64 n) ∧ V'.cell? ⟨w.heap.size, 2, none⟩ = some (.string s) ∧ V'.cell? ⟨w.heap.size, 3, none⟩ = some (.slice A l.length (capF l.length c)) ∧ V'.cell? ⟨w.heap.size + 1, 0, none⟩ = some (.int .i64 k') ∧ V'.cell? ⟨w.heap.size + 1, 1, none⟩ = some (.int .i64 n') ∧ V'.cell? ⟨w.heap.size + 1, 2, none⟩ = some (.string s') ∧ V'.cell? ⟨w.heap.size + 1, 3, none⟩ = some (.slice A' l'.length (capF l'.length c')) ∧ V'.cell? ⟨V.heap.size + 1, 0, none⟩ = some (.int .i64 2) ∧ V'.cell? ⟨V.heap.size + 1, 1, none⟩ = some (.int .i64 0) ∧ V'.cell? ⟨V.heap.size + 1, 2, none⟩ = some (.string e0B) ∧ V'.cell? ⟨V.heap.size + 1, 3, none⟩ = some (.slice (some ⟨V.heap.size, 0, none⟩) 1 1)))) rfl hS0 (fun hSs => ?_)
                change wpAnyH _ _ _ _ _ 31 (Array.replicate 31 false) _ _
                refine wpAnyH_take (i := 0) (oi := ⟨some 44, _, _, _, _, _⟩) (v := .agg #[.int .i64 k, .int .i64 n, .string s, .slice A l.length (capF l.length c)]) rfl (by kernel_rfl) (by kernel_rfl) (by kernel_rfl) (fun _ _ _ h => h) (.inl ⟨by kernel_rfl, fun W hW => by first | (obtain ⟨a0, a1, a2, a3, b0, b1, b2, b3, l0, l1, l2, l3⟩ := hW; go_simp; done) | (obtain ⟨a0, a1, a2, a3, b0, b1, b2, b3, l0, l1, l2, l3⟩ := hW; go_simp; omega) | (obtain ⟨a0, a1, a2, a3, b0, b1, b2, b3, l0, l1, l2, l3⟩ := hW; go_simp; simp [*]; done)⟩) hSs ?_
                try simp only [Act.put, List.setIfInBounds_toArray, List.set_cons_zero, List.set_cons_succ]
                refine wpAnyH_take (i := 2) (oi := ⟨some 46, _, _, _, _, _⟩) (v := .agg #[.int .i64 k', .int .i64 n', .string s', .slice A' l'.length (capF l'.length c')]) rfl (by kernel_rfl) (by kernel_rfl) (by kernel_rfl) (fun _ _ _ h => h) (.inl ⟨by kernel_rfl, fun W hW => by first | (obtain ⟨a0, a1, a2, a3, b0, b1, b2, b3, l0, l1, l2, l3⟩ := hW; go_simp; done) | (obtain ⟨a0, a1, a2, a3, b0, b1, b2, b3, l0, l1, l2, l3⟩ := hW; go_simp; omega) | (obtain ⟨a0, a1, a2, a3, b0, b1, b2, b3, l0, l1, l2, l3⟩ := hW; go_simp; simp [*]; done)⟩) hSs ?_
                try simp only [Act.put, List.setIfInBounds_toArray, List.set_cons_zero, List.set_cons_succ]
                refine wpAnyH_take (i := 5) (oi := ⟨some 49, _, _, _, _, _⟩) (v := .agg #[.int .i64 k, .int .i64 n, .string s, .slice A l.length (capF l.length c)]) rfl (by kernel_rfl) (by kernel_rfl) (by kernel_rfl) (fun _ _ _ h => h) (.inl ⟨by kernel_rfl, fun W hW => by first | (obtain ⟨a0, a1, a2, a3, b0, b1, b2, b3, l0, l1, l2, l3⟩ := hW; go_simp; done) | (obtain ⟨a0, a1, a2, a3, b0, b1, b2, b3, l0, l1, l2, l3⟩ := hW; go_simp; omega) | (obtain ⟨a0, a1, a2, a3, b0, b1, b2, b3, l0, l1, l2, l3⟩ := hW; go_simp; simp [*]; done)⟩) hSs ?_
                try simp only [Act.put, List.setIfInBounds_toArray, List.set_cons_zero, List.set_cons_succ]
                refine wpAnyH_take (i := 6) (oi := ⟨some 50, _, _, _, _, _⟩) (v := .agg #[.int .i64 k', .int .i64 n', .string s', .slice A' l'.length (capF l'.length c')]) rfl (by kernel_rfl) (by kernel_rfl) (by kernel_rfl) (fun _ _ _ h => h) (.inl ⟨by kernel_rfl, fun W hW => by first | (obtain ⟨a0, a1, a2, a3, b0, b1, b2, b3, l0, l1, l2, l3⟩ := hW; go_simp; done) | (obtain ⟨a0, a1, a2, a3, b0, b1, b2, b3, l0, l1, l2, l3⟩ := hW; go_simp; omega) | (obtain ⟨a0, a1, a2, a3, b0, b1, b2, b3, l0, l1, l2, l3⟩ := hW; go_simp; simp [*]; done)⟩) hSs ?_
                try simp only [Act.put, List.setIfInBounds_toArray, List.set_cons_zero, List.set_cons_succ]
                refine wpAnyH_ready (rs := [1]) (by kernel_rfl) (by simp) (AllReadyH.cons rfl (fun K hK => ?_) AllReadyH.nil)
                go_simp
                refine (HTa.out _ hd0).mono ?_
                rintro e u1 ⟨rfl, hd1⟩
                refine hK.out _ _ (HS.out _ hd1) (fun hS1 => ?_)
                clear hK K
                try simp only [Act.put, List.setIfInBounds_toArray, List.set_cons_zero, List.set_cons_succ]
                refine wpAnyH_ready (rs := [3]) (by kernel_rfl) (by simp) (AllReadyH.cons rfl (fun K hK => ?_) AllReadyH.nil)
                go_simp
                refine (HTb.out _ hd1).mono ?_
                rintro e u2 ⟨rfl, hd2⟩
                refine hK.out _ _ (HS.out _ hd2) (fun hS2 => ?_)
                clear hK K
                try simp only [Act.put, List.setIfInBounds_toArray, List.set_cons_zero, List.set_cons_succ]
                refine wpAnyH_take (i := 4) (oi := ⟨some 48, _, _, _, _, _⟩) (v := .bool false) rfl (by kernel_rfl) (by kernel_rfl) (by kernel_rfl) (fun _ _ _ h => h) (.inl ⟨by kernel_rfl, fun W hW => by first | (obtain ⟨a0, a1, a2, a3, b0, b1, b2, b3, l0, l1, l2, l3⟩ := hW; go_simp; done) | (obtain ⟨a0, a1, a2, a3, b0, b1, b2, b3, l0, l1, l2, l3⟩ := hW; go_simp; omega) | (obtain ⟨a0, a1, a2, a3, b0, b1, b2, b3, l0, l1, l2, l3⟩ := hW; go_simp; simp [*]; done)⟩) hS2 ?_
                try simp only [Act.put, List.setIfInBounds_toArray, List.set_cons_zero, List.set_cons_succ]
                refine wpAnyH_ready (rs := [7]) (by kernel_rfl) (by simp) (AllReadyH.cons rfl (fun K hK => ?_) AllReadyH.nil)
                go_simp
                refine (HSE.out _ hd2).mono ?_
                rintro e u3 ⟨rfl, hd3⟩
                refine hK.out _ _ (HS.out _ hd3) (fun hS3 => ?_)
                clear hK K
                try simp only [Act.put, List.setIfInBounds_toArray, List.set_cons_zero, List.set_cons_succ]
                refine wpAnyH_take (i := 8) (oi := ⟨some 52, _, _, _, _, _⟩) (v := .bool true) rfl (by kernel_rfl) (by kernel_rfl) (by kernel_rfl) (fun _ _ _ h => h) (.inl ⟨by kernel_rfl, fun W hW => by first | (obtain ⟨a0, a1, a2, a3, b0, b1, b2, b3, l0, l1, l2, l3⟩ := hW; go_simp; done) | (obtain ⟨a0, a1, a2, a3, b0, b1, b2, b3, l0, l1, l2, l3⟩ := hW; go_simp; omega) | (obtain ⟨a0, a1, a2, a3, b0, b1, b2, b3, l0, l1, l2, l3⟩ := hW; go_simp; simp [*]; done)⟩) hS3 ?_
                try simp only [Act.put, List.setIfInBounds_toArray, List.set_cons_zero, List.set_cons_succ]
                refine wpAnyH_take (i := 9) (oi := ⟨some 53, _, _, _, _, _⟩) (v := .bool true) rfl (by kernel_rfl) (by kernel_rfl) (by kernel_rfl) (fun _ _ _ h => h) (.inl ⟨by kernel_rfl, fun W hW => by kernel_rfl⟩) hS3 ?_
                try simp only [Act.put, List.setIfInBounds_toArray, List.set_cons_zero, List.set_cons_succ]
                refine wpAnyH_take (i := 10) (oi := ⟨some 54, _, _, _, _, _⟩) (v := .agg #[.int .i64 k, .int .i64 n, .string s, .slice A l.length (capF l.length c)]) rfl (by kernel_rfl) (by kernel_rfl) (by kernel_rfl) (fun _ _ _ h => h) (.inl ⟨by kernel_rfl, fun W hW => by first | (obtain ⟨a0, a1, a2, a3, b0, b1, b2, b3, l0, l1, l2, l3⟩ := hW; go_simp; done) | (obtain ⟨a0, a1, a2, a3, b0, b1, b2, b3, l0, l1, l2, l3⟩ := hW; go_simp; omega) | (obtain ⟨a0, a1, a2, a3, b0, b1, b2, b3, l0, l1, l2, l3⟩ := hW; go_simp; simp [*]; done)⟩) hS3 ?_
                try simp only [Act.put, List.setIfInBounds_toArray, List.set_cons_zero, List.set_cons_succ]
                refine wpAnyH_take (i := 11) (oi := ⟨some 55, _, _, _, _, _⟩) (v := .int .i64 free) rfl (by kernel_rfl) (by kernel_rfl) (by kernel_rfl) (fun _ _ _ h => h) (.inl ⟨by kernel_rfl, fun W hW => by kernel_rfl⟩) hS3 ?_
                try simp only [Act.put, List.setIfInBounds_toArray, List.set_cons_zero, List.set_cons_succ]
                refine wpAnyH_take (i := 12) (oi := ⟨some 56, _, _, _, _, _⟩) (v := .int .i64 (free + 1)) rfl (by kernel_rfl) (by kernel_rfl) (by kernel_rfl) (fun _ _ _ h => h) (.inl ⟨by kernel_rfl, fun W hW => by first | (obtain ⟨a0, a1, a2, a3, b0, b1, b2, b3, l0, l1, l2, l3⟩ := hW; go_simp; done) | (obtain ⟨a0, a1, a2, a3, b0, b1, b2, b3, l0, l1, l2, l3⟩ := hW; go_simp; omega) | (obtain ⟨a0, a1, a2, a3, b0, b1, b2, b3, l0, l1, l2, l3⟩ := hW; go_simp; simp [*]; done)⟩) hS3 ?_
                try simp only [Act.put, List.setIfInBounds_toArray, List.set_cons_zero, List.set_cons_succ]
                refine wpAnyH_ready (rs := [13]) (by kernel_rfl) (by simp) (AllReadyH.cons rfl (fun K hK => ?_) AllReadyH.nil)
                go_simp
                refine (HM1.out _ hd3).mono ?_
                rintro e u4 ⟨rfl, hd4⟩
                refine hK.out _ _ (HS.out _ hd4) (fun hS4 => ?_)
                clear hK K
                try simp only [Act.put, List.setIfInBounds_toArray, List.set_cons_zero, List.set_cons_succ]
                refine wpAnyH_take (i := 14) (oi := ⟨some 58, _, _, _, _, _⟩) (v := .bool true) rfl (by kernel_rfl) (by kernel_rfl) (by kernel_rfl) (fun _ _ _ h => h) (.inl ⟨by kernel_rfl, fun W hW => by kernel_rfl⟩) hS4 ?_
                try simp only [Act.put, List.setIfInBounds_toArray, List.set_cons_zero, List.set_cons_succ]
                refine wpAnyH_take (i := 15) (oi := ⟨some 59, _, _, _, _, _⟩) (v := .bool true) rfl (by kernel_rfl) (by kernel_rfl) (by kernel_rfl) (fun _ _ _ h => h) (.inl ⟨by kernel_rfl, fun W hW => by kernel_rfl⟩) hS4 ?_
                try simp only [Act.put, List.setIfInBounds_toArray, List.set_cons_zero, List.set_cons_succ]
                refine wpAnyH_take (i := 16) (oi := ⟨some 60, _, _, _, _, _⟩) (v := .agg #[.int .i64 2, .int .i64 0, .string e0B, .slice (some ⟨V.heap.size, 0, none⟩) 1 1]) rfl (by kernel_rfl) (by kernel_rfl) (by kernel_rfl) (fun _ _ _ h => h) (.inl ⟨by kernel_rfl, fun W hW => by first | (obtain ⟨a0, a1, a2, a3, b0, b1, b2, b3, l0, l1, l2, l3⟩ := hW; go_simp; done) | (obtain ⟨a0, a1, a2, a3, b0, b1, b2, b3, l0, l1, l2, l3⟩ := hW; go_simp; omega) | (obtain ⟨a0, a1, a2, a3, b0, b1, b2, b3, l0, l1, l2, l3⟩ := hW; go_simp; simp [*]; done)⟩) hS4 ?_
                try simp only [Act.put, List.setIfInBounds_toArray, List.set_cons_zero, List.set_cons_succ]
                refine wpAnyH_take (i := 17) (oi := ⟨some 61, _, _, _, _, _⟩) (v := .int .i64 free) rfl (by kernel_rfl) (by kernel_rfl) (by kernel_rfl) (fun _ _ _ h => h) (.inl ⟨by kernel_rfl, fun W hW => by kernel_rfl⟩) hS4 ?_
                try simp only [Act.put, List.setIfInBounds_toArray, List.set_cons_zero, List.set_cons_succ]
                refine wpAnyH_ready (rs := [18]) (by kernel_rfl) (by simp) (AllReadyH.cons rfl (fun K hK => ?_) AllReadyH.nil)
                go_simp
                refine (HML.out _ hd4).mono ?_
                rintro e u5 ⟨rfl, hd5⟩
                refine hK.out _ _ (HS.out _ hd5) (fun hS5 => ?_)
                clear hK K
                try simp only [Act.put, List.setIfInBounds_toArray, List.set_cons_zero, List.set_cons_succ]
                refine wpAnyH_take (i := 19) (oi := ⟨some 63, _, _, _, _, _⟩) (v := .bool true) rfl (by kernel_rfl) (by kernel_rfl) (by kernel_rfl) (fun _ _ _ h => h) (.inl ⟨by kernel_rfl, fun W hW => by kernel_rfl⟩) hS5 ?_
                try simp only [Act.put, List.setIfInBounds_toArray, List.set_cons_zero, List.set_cons_succ]
                refine wpAnyH_take (i := 20) (oi := ⟨some 64, _, _, _, _, _⟩) (v := .bool true) rfl (by kernel_rfl) (by kernel_rfl) (by kernel_rfl) (fun _ _ _ h => h) (.inl ⟨by kernel_rfl, fun W hW => by kernel_rfl⟩) hS5 ?_
                try simp only [Act.put, List.setIfInBounds_toArray, List.set_cons_zero, List.set_cons_succ]
                refine wpAnyH_take (i := 21) (oi := ⟨some 65, _, _, _, _, _⟩) (v := .int .i64 free) rfl (by kernel_rfl) (by kernel_rfl) (by kernel_rfl) (fun _ _ _ h => h) (.inl ⟨by kernel_rfl, fun W hW => by kernel_rfl⟩) hS5 ?_
                try simp only [Act.put, List.setIfInBounds_toArray, List.set_cons_zero, List.set_cons_succ]
                refine wpAnyH_take (i := 22) (oi := ⟨some 66, _, _, _, _, _⟩) (v := .bool false) rfl (by kernel_rfl) (by kernel_rfl) (by kernel_rfl) (fun _ _ _ h => h) (.inl ⟨by kernel_rfl, fun W hW => by first | (obtain ⟨a0, a1, a2, a3, b0, b1, b2, b3, l0, l1, l2, l3⟩ := hW; go_simp; done) | (obtain ⟨a0, a1, a2, a3, b0, b1, b2, b3, l0, l1, l2, l3⟩ := hW; go_simp; omega) | (obtain ⟨a0, a1, a2, a3, b0, b1, b2, b3, l0, l1, l2, l3⟩ := hW; go_simp; simp [*]; done)⟩) hS5 ?_
                try simp only [Act.put, List.setIfInBounds_toArray, List.set_cons_zero, List.set_cons_succ]
                refine wpAnyH_take (i := 23) (oi := ⟨some 67, _, _, _, _, _⟩) (v := .bool false) rfl (by kernel_rfl) (by kernel_rfl) (by kernel_rfl) (fun _ _ _ h => h) (.inl ⟨by kernel_rfl, fun W hW => by kernel_rfl⟩) hS5 ?_
                try simp only [Act.put, List.setIfInBounds_toArray, List.set_cons_zero, List.set_cons_succ]
                refine wpAnyH_take (i := 24) (oi := ⟨some 68, _, _, _, _, _⟩) (v := .agg #[.int .i64 2, .int .i64 0, .string e0B, .slice (some ⟨V.heap.size, 0, none⟩) 1 1]) rfl (by kernel_rfl) (by kernel_rfl) (by kernel_rfl) (fun _ _ _ h => h) (.inl ⟨by kernel_rfl, fun W hW => by first | (obtain ⟨a0, a1, a2, a3, b0, b1, b2, b3, l0, l1, l2, l3⟩ := hW; go_simp; done) | (obtain ⟨a0, a1, a2, a3, b0, b1, b2, b3, l0, l1, l2, l3⟩ := hW; go_simp; omega) | (obtain ⟨a0, a1, a2, a3, b0, b1, b2, b3, l0, l1, l2, l3⟩ := hW; go_simp; simp [*]; done)⟩) hS5 ?_
                try simp only [Act.put, List.setIfInBounds_toArray, List.set_cons_zero, List.set_cons_succ]
                refine wpAnyH_take (i := 25) (oi := ⟨some 69, _, _, _, _, _⟩) (v := .int .i64 free) rfl (by kernel_rfl) (by kernel_rfl) (by kernel_rfl) (fun _ _ _ h => h) (.inl ⟨by kernel_rfl, fun W hW => by kernel_rfl⟩) hS5 ?_
                try simp only [Act.put, List.setIfInBounds_toArray, List.set_cons_zero, List.set_cons_succ]
                refine wpAnyH_take (i := 26) (oi := ⟨some 70, _, _, _, _, _⟩) (v := .int .i64 (free - 1)) rfl (by kernel_rfl) (by kernel_rfl) (by kernel_rfl) (fun _ _ _ h => h) (.inl ⟨by kernel_rfl, fun W hW => by first | (obtain ⟨a0, a1, a2, a3, b0, b1, b2, b3, l0, l1, l2, l3⟩ := hW; go_simp; done) | (obtain ⟨a0, a1, a2, a3, b0, b1, b2, b3, l0, l1, l2, l3⟩ := hW; go_simp; omega) | (obtain ⟨a0, a1, a2, a3, b0, b1, b2, b3, l0, l1, l2, l3⟩ := hW; go_simp; simp [*]; done)⟩) hS5 ?_
                try simp only [Act.put, List.setIfInBounds_toArray, List.set_cons_zero, List.set_cons_succ]
                refine wpAnyH_ready (rs := [27]) (by kernel_rfl) (by simp) (AllReadyH.cons rfl (fun K hK => ?_) AllReadyH.nil)
                go_simp
                refine (HM2.out _ hd5).mono ?_
                rintro e u6 ⟨rfl, hd6⟩
                refine hK.out _ _ (HS.out _ hd6) (fun hS6 => ?_)
                clear hK K
                try simp only [Act.put, List.setIfInBounds_toArray, List.set_cons_zero, List.set_cons_succ]
                refine wpAnyH_take (i := 28) (oi := ⟨some 72, _, _, _, _, _⟩) (v := .bool true) rfl (by kernel_rfl) (by kernel_rfl) (by kernel_rfl) (fun _ _ _ h => h) (.inl ⟨by kernel_rfl, fun W hW => by kernel_rfl⟩) hS6 ?_
                try simp only [Act.put, List.setIfInBounds_toArray, List.set_cons_zero, List.set_cons_succ]
                refine wpAnyH_take (i := 29) (oi := ⟨some 73, _, _, _, _, _⟩) (v := .bool true) rfl (by kernel_rfl) (by kernel_rfl) (by kernel_rfl) (fun _ _ _ h => h) (.inl ⟨by kernel_rfl, fun W hW => by kernel_rfl⟩) hS6 ?_
                try simp only [Act.put, List.setIfInBounds_toArray, List.set_cons_zero, List.set_cons_succ]
                refine wpAnyH_take (i := 30) (oi := ⟨some 6, _, _, _, _, _⟩) (v := .bool true) rfl (by kernel_rfl) (by kernel_rfl) (by kernel_rfl) (fun _ _ _ h => h) (.inl ⟨by kernel_rfl, fun W hW => by kernel_rfl⟩) hS6 ?_
                try simp only [Act.put, List.setIfInBounds_toArray, List.set_cons_zero, List.set_cons_succ]
                refine wpAnyH_done (by kernel_rfl) ?_ _
                go_wp2_with fail
                go_ret
                exact ⟨rfl, HXa.out.bw.trans (hd6.mono HXa.out.bw.size)⟩
end Lx
end Go.Proofs.YteagbndjoklogaaDoor
