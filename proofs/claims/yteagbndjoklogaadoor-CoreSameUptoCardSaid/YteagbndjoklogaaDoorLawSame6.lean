/-
  Walk of the law CoreSame.
-/
import Derived.Test.YteagbndjoklogaaDoorKJ
import Derived.Test.YteagbndjoklogaaDoorKL
namespace Go.Proofs.YteagbndjoklogaaDoor
open Go.RowKit Go.Sort
namespace Lx
set_option maxRecDepth 100000
theorem sameE_trans {t u v : Te} (h : sameE t u = true) (h' : sameE u v = true) : sameE t v = true := by
  rw [sameE_eq t u h]; exact h'
set_option maxHeartbeats 16000000 in
theorem same6_any (t t' t'' : Te) (A A' A'' : Option Addr) (c c' c'' : Nat) (w : World) (hI : EIn w Any t A) (hI' : EIn w Any t' A') (hI'' : EIn w Any t'' A'') (hg : Tabs6 w) (hna : namesE t ≤ 1048576) :
    Calls Tryd.prog 4 #[ev t A c, ev t' A' c', ev t'' A'' c''] w fun e w' => e = .returned (.bool true) ∧ Below w.heap.size w w' := by
  obtain ⟨k, n, s, l⟩ := t
  obtain ⟨k', n', s', l'⟩ := t'
  obtain ⟨k'', n'', s'', l''⟩ := t''
  show Calls Tryd.prog 4 #[.agg #[.int .i64 k, .int .i64 n, .string s, .slice A l.length (capF l.length c)], .agg #[.int .i64 k', .int .i64 n', .string s', .slice A' l'.length (capF l'.length c')], .agg #[.int .i64 k'', .int .i64 n'', .string s'', .slice A'' l''.length (capF l''.length c'')]] w _
  have hXa := ((Bx6.new (c := c) hI hg (Below.refl _ w)).old (.cells #[.int .i64 k', .int .i64 n', .string s', .slice A' l'.length (capF l'.length c')] 24)).old (.cells #[.int .i64 k'', .int .i64 n'', .string s'', .slice A'' l''.length (capF l''.length c'')] 24)
  have hXb := (Bx6.new (c := c') hI' hg ((Below.refl _ w).alloc (Nat.le_refl _) (.cells #[.int .i64 k, .int .i64 n, .string s, .slice A l.length (capF l.length c)] 24))).old (.cells #[.int .i64 k'', .int .i64 n'', .string s'', .slice A'' l''.length (capF l''.length c'')] 24)
  have hXc := Bx6.new (c := c'') hI'' hg (((Below.refl _ w).alloc (Nat.le_refl _) (.cells #[.int .i64 k, .int .i64 n, .string s, .slice A l.length (capF l.length c)] 24)).alloc (by simp) (.cells #[.int .i64 k', .int .i64 n', .string s', .slice A' l'.length (capF l'.length c')] 24))
  rw [show (w.alloc (.cells #[.int .i64 k, .int .i64 n, .string s, .slice A l.length (capF l.length c)] 24)).heap.size = w.heap.size + 1 from by simp] at hXb
  rw [show ((w.alloc (.cells #[.int .i64 k, .int .i64 n, .string s, .slice A l.length (capF l.length c)] 24)).alloc (.cells #[.int .i64 k', .int .i64 n', .string s', .slice A' l'.length (capF l'.length c')] 24)).heap.size = w.heap.size + 1 + 1 from by simp] at hXc
  have HXa := Lib.hid hXa
  have HXb := Lib.hid hXb
  have HXc := Lib.hid hXc
  have HNA := Lib.hid hna
  clear hXa hXb hXc hI hI' hI'' hg hna
  go_enter Tryd.func4, Tryd.ntmps4
  go_wp2_with fail
  refine (fix6_any _ HXa.out.tb).mono ?_
  rintro e w1 ⟨rfl, hb1⟩
  have HXa := Lib.hid (HXa.out.step hb1)
  have HXb := Lib.hid (HXb.out.step hb1)
  have HXc := Lib.hid (HXc.out.step hb1)
  clear hb1
  obtain ⟨a0, a1, a2, a3⟩ := HXa.out.four
  obtain ⟨b0, b1, b2, b3⟩ := HXb.out.four
  obtain ⟨c0, c1, c2, c3⟩ := HXc.out.four
  have HC1 := Lib.hid (HXa.out.small 500 (by omega) (by omega))
  cases hcd : decide (0 ≤ fewE (.node k n s l) 500 600)
  · rw [hcd] at HC1
    clear hcd
    go_wp2_with fail
    refine HC1.out.mono ?_
    rintro e v1 ⟨rfl, hb1⟩
    have HXa := Lib.hid (HXa.out.step hb1)
    have HXb := Lib.hid (HXb.out.step hb1)
    have HXc := Lib.hid (HXc.out.step hb1)
    clear hb1 HC1
    clear a0 a1 a2 a3
    clear b0 b1 b2 b3
    clear c0 c1 c2 c3
    go_wp2_with fail
    refine (fix6_any _ HXa.out.tb).mono ?_
    rintro e wf ⟨rfl, hbf⟩
    go_wp2_with fail
    go_ret
    exact ⟨rfl, HXa.out.bw.trans (hbf.mono HXa.out.bw.size)⟩
  · rw [hcd] at HC1
    have HZa := Lib.hid (small6_size hcd (by omega))
    clear hcd
    go_wp2_with fail
    refine HC1.out.mono ?_
    rintro e v1 ⟨rfl, hb1⟩
    have HXa := Lib.hid (HXa.out.step hb1)
    have HXb := Lib.hid (HXb.out.step hb1)
    have HXc := Lib.hid (HXc.out.step hb1)
    clear hb1 HC1
    clear a0 a1 a2 a3
    clear b0 b1 b2 b3
    clear c0 c1 c2 c3
    obtain ⟨a0, a1, a2, a3⟩ := HXa.out.four
    obtain ⟨b0, b1, b2, b3⟩ := HXb.out.four
    obtain ⟨c0, c1, c2, c3⟩ := HXc.out.four
    have HC2 := Lib.hid (HXb.out.small 500 (by omega) (by omega))
    cases hcd : decide (0 ≤ fewE (.node k' n' s' l') 500 600)
    · rw [hcd] at HC2
      clear hcd
      go_wp2_with fail
      refine HC2.out.mono ?_
      rintro e v2 ⟨rfl, hb2⟩
      have HXa := Lib.hid (HXa.out.step hb2)
      have HXb := Lib.hid (HXb.out.step hb2)
      have HXc := Lib.hid (HXc.out.step hb2)
      clear hb2 HC2
      clear a0 a1 a2 a3
      clear b0 b1 b2 b3
      clear c0 c1 c2 c3
      go_wp2_with fail
      refine (fix6_any _ HXa.out.tb).mono ?_
      rintro e wf ⟨rfl, hbf⟩
      go_wp2_with fail
      go_ret
      exact ⟨rfl, HXa.out.bw.trans (hbf.mono HXa.out.bw.size)⟩
    · rw [hcd] at HC2
      have HZb := Lib.hid (small6_size hcd (by omega))
      clear hcd
      go_wp2_with fail
      refine HC2.out.mono ?_
      rintro e v2 ⟨rfl, hb2⟩
      have HXa := Lib.hid (HXa.out.step hb2)
      have HXb := Lib.hid (HXb.out.step hb2)
      have HXc := Lib.hid (HXc.out.step hb2)
      clear hb2 HC2
      clear a0 a1 a2 a3
      clear b0 b1 b2 b3
      clear c0 c1 c2 c3
      obtain ⟨a0, a1, a2, a3⟩ := HXa.out.four
      obtain ⟨b0, b1, b2, b3⟩ := HXb.out.four
      obtain ⟨c0, c1, c2, c3⟩ := HXc.out.four
      have HC3 := Lib.hid (HXc.out.small 500 (by omega) (by omega))
      cases hcd : decide (0 ≤ fewE (.node k'' n'' s'' l'') 500 600)
      · rw [hcd] at HC3
        clear hcd
        go_wp2_with fail
        refine HC3.out.mono ?_
        rintro e v3 ⟨rfl, hb3⟩
        have HXa := Lib.hid (HXa.out.step hb3)
        have HXb := Lib.hid (HXb.out.step hb3)
        have HXc := Lib.hid (HXc.out.step hb3)
        clear hb3 HC3
        clear a0 a1 a2 a3
        clear b0 b1 b2 b3
        clear c0 c1 c2 c3
        go_wp2_with fail
        refine (fix6_any _ HXa.out.tb).mono ?_
        rintro e wf ⟨rfl, hbf⟩
        go_wp2_with fail
        go_ret
        exact ⟨rfl, HXa.out.bw.trans (hbf.mono HXa.out.bw.size)⟩
      · rw [hcd] at HC3
        have HZc := Lib.hid (small6_size hcd (by omega))
        clear hcd
        go_wp2_with fail
        refine HC3.out.mono ?_
        rintro e v3 ⟨rfl, hb3⟩
        have HXa := Lib.hid (HXa.out.step hb3)
        have HXb := Lib.hid (HXb.out.step hb3)
        have HXc := Lib.hid (HXc.out.step hb3)
        clear hb3 HC3
        clear a0 a1 a2 a3
        clear b0 b1 b2 b3
        clear c0 c1 c2 c3
        go_upto_region 3 with fail
        have hd0 : Below v3.heap.size v3 v3.drew := (Below.refl _ v3).drew
        have HS := Lib.hid (fun (V' : World) (h : Below v3.heap.size v3 V') => (by have x := (HXa.out.step h).four; have y := (HXb.out.step h).four; have z := (HXc.out.step h).four; exact ⟨x.1, x.2.1, x.2.2.1, x.2.2.2, y.1, y.2.1, y.2.2.1, y.2.2.2, z.1, z.2.1, z.2.2.1, z.2.2.2⟩ : (fun V' => (V'.cell? ⟨w.heap.size, 0, none⟩ = some (.int .i64 k) ∧ V'.cell? ⟨w.heap.size, 1, none⟩ = some (.int .i64 n) ∧ V'.cell? ⟨w.heap.size, 2, none⟩ = some (.string s) ∧ V'.cell? ⟨w.heap.size, 3, none⟩ = some (.slice A l.length (capF l.length c)) ∧ V'.cell? ⟨w.heap.size + 1, 0, none⟩ = some (.int .i64 k') ∧ V'.cell? ⟨w.heap.size + 1, 1, none⟩ = some (.int .i64 n') ∧ V'.cell? ⟨w.heap.size + 1, 2, none⟩ = some (.string s') ∧ V'.cell? ⟨w.heap.size + 1, 3, none⟩ = some (.slice A' l'.length (capF l'.length c')) ∧ V'.cell? ⟨w.heap.size + 1 + 1, 0, none⟩ = some (.int .i64 k'') ∧ V'.cell? ⟨w.heap.size + 1 + 1, 1, none⟩ = some (.int .i64 n'') ∧ V'.cell? ⟨w.heap.size + 1 + 1, 2, none⟩ = some (.string s'') ∧ V'.cell? ⟨w.heap.size + 1 + 1, 3, none⟩ = some (.slice A'' l''.length (capF l''.length c'')))) V'))
        have hS0 := HS.out _ hd0
        have HAB := Lib.hid ((fun (V' : World) (h : Below v3.heap.size v3 V') => Calls.fromB h h.size ((HXa.out.step h).same (HXb.out.step h))))
        have HBC := Lib.hid ((fun (V' : World) (h : Below v3.heap.size v3 V') => Calls.fromB h h.size ((HXb.out.step h).same (HXc.out.step h))))
        cases hx : sameE (.node k n s l) (.node k' n' s' l')
        · rw [hx] at HAB
          have HSAB := Lib.hid hx
          clear hx
          cases hy : sameE (.node k' n' s' l') (.node k'' n'' s'' l'')
          · rw [hy] at HBC
            have HSBC := Lib.hid hy
            clear hy
            refine wp_region_held_drew (S := (fun V' => (V'.cell? ⟨w.heap.size, 0, none⟩ = some (.int .i64 k) ∧ V'.cell? ⟨w.heap.size, 1, none⟩ = some (.int .i64 n) ∧ V'.cell? ⟨w.heap.size, 2, none⟩ = some (.string s) ∧ V'.cell? ⟨w.heap.size, 3, none⟩ = some (.slice A l.length (capF l.length c)) ∧ V'.cell? ⟨w.heap.size + 1, 0, none⟩ = some (.int .i64 k') ∧ V'.cell? ⟨w.heap.size + 1, 1, none⟩ = some (.int .i64 n') ∧ V'.cell? ⟨w.heap.size + 1, 2, none⟩ = some (.string s') ∧ V'.cell? ⟨w.heap.size + 1, 3, none⟩ = some (.slice A' l'.length (capF l'.length c')) ∧ V'.cell? ⟨w.heap.size + 1 + 1, 0, none⟩ = some (.int .i64 k'') ∧ V'.cell? ⟨w.heap.size + 1 + 1, 1, none⟩ = some (.int .i64 n'') ∧ V'.cell? ⟨w.heap.size + 1 + 1, 2, none⟩ = some (.string s'') ∧ V'.cell? ⟨w.heap.size + 1 + 1, 3, none⟩ = some (.slice A'' l''.length (capF l''.length c''))))) rfl hS0 (fun hSs => ?_)
            change wpAnyH _ _ _ _ _ 8 (Array.replicate 8 false) _ _
            refine wpAnyH_take (i := 0) (oi := ⟨some 27, _, _, _, _, _⟩) (v := .agg #[.int .i64 k, .int .i64 n, .string s, .slice A l.length (capF l.length c)]) rfl (by kernel_rfl) (by kernel_rfl) (by kernel_rfl) (fun _ _ _ h => h) (.inl ⟨by kernel_rfl, fun W hW => by first | (obtain ⟨a0, a1, a2, a3, b0, b1, b2, b3, c0, c1, c2, c3⟩ := hW; go_simp; done) | (obtain ⟨a0, a1, a2, a3, b0, b1, b2, b3, c0, c1, c2, c3⟩ := hW; go_simp; omega) | (obtain ⟨a0, a1, a2, a3, b0, b1, b2, b3, c0, c1, c2, c3⟩ := hW; go_simp; simp [*]; done)⟩) hSs ?_
            try simp only [Act.put, List.setIfInBounds_toArray, List.set_cons_zero, List.set_cons_succ]
            refine wpAnyH_take (i := 1) (oi := ⟨some 28, _, _, _, _, _⟩) (v := .agg #[.int .i64 k', .int .i64 n', .string s', .slice A' l'.length (capF l'.length c')]) rfl (by kernel_rfl) (by kernel_rfl) (by kernel_rfl) (fun _ _ _ h => h) (.inl ⟨by kernel_rfl, fun W hW => by first | (obtain ⟨a0, a1, a2, a3, b0, b1, b2, b3, c0, c1, c2, c3⟩ := hW; go_simp; done) | (obtain ⟨a0, a1, a2, a3, b0, b1, b2, b3, c0, c1, c2, c3⟩ := hW; go_simp; omega) | (obtain ⟨a0, a1, a2, a3, b0, b1, b2, b3, c0, c1, c2, c3⟩ := hW; go_simp; simp [*]; done)⟩) hSs ?_
            try simp only [Act.put, List.setIfInBounds_toArray, List.set_cons_zero, List.set_cons_succ]
            refine wpAnyH_take (i := 3) (oi := ⟨some 30, _, _, _, _, _⟩) (v := .agg #[.int .i64 k', .int .i64 n', .string s', .slice A' l'.length (capF l'.length c')]) rfl (by kernel_rfl) (by kernel_rfl) (by kernel_rfl) (fun _ _ _ h => h) (.inl ⟨by kernel_rfl, fun W hW => by first | (obtain ⟨a0, a1, a2, a3, b0, b1, b2, b3, c0, c1, c2, c3⟩ := hW; go_simp; done) | (obtain ⟨a0, a1, a2, a3, b0, b1, b2, b3, c0, c1, c2, c3⟩ := hW; go_simp; omega) | (obtain ⟨a0, a1, a2, a3, b0, b1, b2, b3, c0, c1, c2, c3⟩ := hW; go_simp; simp [*]; done)⟩) hSs ?_
            try simp only [Act.put, List.setIfInBounds_toArray, List.set_cons_zero, List.set_cons_succ]
            refine wpAnyH_take (i := 4) (oi := ⟨some 31, _, _, _, _, _⟩) (v := .agg #[.int .i64 k'', .int .i64 n'', .string s'', .slice A'' l''.length (capF l''.length c'')]) rfl (by kernel_rfl) (by kernel_rfl) (by kernel_rfl) (fun _ _ _ h => h) (.inl ⟨by kernel_rfl, fun W hW => by first | (obtain ⟨a0, a1, a2, a3, b0, b1, b2, b3, c0, c1, c2, c3⟩ := hW; go_simp; done) | (obtain ⟨a0, a1, a2, a3, b0, b1, b2, b3, c0, c1, c2, c3⟩ := hW; go_simp; omega) | (obtain ⟨a0, a1, a2, a3, b0, b1, b2, b3, c0, c1, c2, c3⟩ := hW; go_simp; simp [*]; done)⟩) hSs ?_
            try simp only [Act.put, List.setIfInBounds_toArray, List.set_cons_zero, List.set_cons_succ]
            refine wpAnyH_ready (rs := [2]) (by kernel_rfl) (by simp) (AllReadyH.cons rfl (fun K hK => ?_) AllReadyH.nil)
            go_simp
            refine (HAB.out _ hd0).mono ?_
            rintro e u1 ⟨rfl, hd1⟩
            refine hK.out _ _ (HS.out _ hd1) (fun hS1 => ?_)
            clear hK K
            try simp only [Act.put, List.setIfInBounds_toArray, List.set_cons_zero, List.set_cons_succ]
            refine wpAnyH_ready (rs := [5]) (by kernel_rfl) (by simp) (AllReadyH.cons rfl (fun K hK => ?_) AllReadyH.nil)
            go_simp
            refine (HBC.out _ hd1).mono ?_
            rintro e u2 ⟨rfl, hd2⟩
            refine hK.out _ _ (HS.out _ hd2) (fun hS2 => ?_)
            clear hK K
            try simp only [Act.put, List.setIfInBounds_toArray, List.set_cons_zero, List.set_cons_succ]
            refine wpAnyH_take (i := 6) (oi := ⟨some 7, _, _, _, _, _⟩) (v := .bool false) rfl (by kernel_rfl) (by kernel_rfl) (by kernel_rfl) (fun _ _ _ h => h) (.inl ⟨by kernel_rfl, fun W hW => by kernel_rfl⟩) hS2 ?_
            try simp only [Act.put, List.setIfInBounds_toArray, List.set_cons_zero, List.set_cons_succ]
            refine wpAnyH_take (i := 7) (oi := ⟨some 8, _, _, _, _, _⟩) (v := .bool false) rfl (by kernel_rfl) (by kernel_rfl) (by kernel_rfl) (fun _ _ _ h => h) (.inl ⟨by kernel_rfl, fun W hW => by kernel_rfl⟩) hS2 ?_
            try simp only [Act.put, List.setIfInBounds_toArray, List.set_cons_zero, List.set_cons_succ]
            refine wpAnyH_done (by kernel_rfl) ?_ _
            have HXa := Lib.hid (HXa.out.step hd2)
            have HXb := Lib.hid (HXb.out.step hd2)
            have HXc := Lib.hid (HXc.out.step hd2)
            clear HS hS0 HAB HBC hSs hS1 hS2
            obtain ⟨a0, a1, a2, a3⟩ := HXa.out.four
            obtain ⟨b0, b1, b2, b3⟩ := HXb.out.four
            obtain ⟨c0, c1, c2, c3⟩ := HXc.out.four
            have HBA := (by have := HXb.out.same HXa.out; rw [sameE_comm, HSAB.out] at this; exact Lib.hid this)
            go_wp2_with fail
            refine HBA.out.mono ?_
            rintro e V4 ⟨rfl, hb4⟩
            have HXa := Lib.hid (HXa.out.step hb4)
            have HXb := Lib.hid (HXb.out.step hb4)
            have HXc := Lib.hid (HXc.out.step hb4)
            clear hb4 HBA
            clear a0 a1 a2 a3
            clear b0 b1 b2 b3
            clear c0 c1 c2 c3
            obtain ⟨a0, a1, a2, a3⟩ := HXa.out.four
            obtain ⟨b0, b1, b2, b3⟩ := HXb.out.four
            obtain ⟨c0, c1, c2, c3⟩ := HXc.out.four
            have HAA := (by have := HXa.out.same HXa.out; rw [sameE_refl] at this; exact Lib.hid this)
            go_wp2_with fail
            refine HAA.out.mono ?_
            rintro e V5 ⟨rfl, hb5⟩
            have HXa := Lib.hid (HXa.out.step hb5)
            have HXb := Lib.hid (HXb.out.step hb5)
            have HXc := Lib.hid (HXc.out.step hb5)
            clear hb5 HAA
            clear a0 a1 a2 a3
            clear b0 b1 b2 b3
            clear c0 c1 c2 c3
            obtain ⟨a0, a1, a2, a3⟩ := HXa.out.four
            obtain ⟨b0, b1, b2, b3⟩ := HXb.out.four
            obtain ⟨c0, c1, c2, c3⟩ := HXc.out.four
            go_upto_region 6 with fail
            clear a0 a1 a2 a3
            clear b0 b1 b2 b3
            clear c0 c1 c2 c3
            have hd0 : Below V5.heap.size V5 V5.drew := (Below.refl _ V5).drew
            have HS := Lib.hid (fun (V' : World) (h : Below V5.heap.size V5 V') => (by have x := (HXa.out.step h).four; have y := (HXb.out.step h).four; have z := (HXc.out.step h).four; exact ⟨x.1, x.2.1, x.2.2.1, x.2.2.2, y.1, y.2.1, y.2.2.1, y.2.2.2, z.1, z.2.1, z.2.2.1, z.2.2.2⟩ : (fun V' => (V'.cell? ⟨w.heap.size, 0, none⟩ = some (.int .i64 k) ∧ V'.cell? ⟨w.heap.size, 1, none⟩ = some (.int .i64 n) ∧ V'.cell? ⟨w.heap.size, 2, none⟩ = some (.string s) ∧ V'.cell? ⟨w.heap.size, 3, none⟩ = some (.slice A l.length (capF l.length c)) ∧ V'.cell? ⟨w.heap.size + 1, 0, none⟩ = some (.int .i64 k') ∧ V'.cell? ⟨w.heap.size + 1, 1, none⟩ = some (.int .i64 n') ∧ V'.cell? ⟨w.heap.size + 1, 2, none⟩ = some (.string s') ∧ V'.cell? ⟨w.heap.size + 1, 3, none⟩ = some (.slice A' l'.length (capF l'.length c')) ∧ V'.cell? ⟨w.heap.size + 1 + 1, 0, none⟩ = some (.int .i64 k'') ∧ V'.cell? ⟨w.heap.size + 1 + 1, 1, none⟩ = some (.int .i64 n'') ∧ V'.cell? ⟨w.heap.size + 1 + 1, 2, none⟩ = some (.string s'') ∧ V'.cell? ⟨w.heap.size + 1 + 1, 3, none⟩ = some (.slice A'' l''.length (capF l''.length c'')))) V'))
            have hS0 := HS.out _ hd0
            refine wp_region_held_drew (S := (fun V' => (V'.cell? ⟨w.heap.size, 0, none⟩ = some (.int .i64 k) ∧ V'.cell? ⟨w.heap.size, 1, none⟩ = some (.int .i64 n) ∧ V'.cell? ⟨w.heap.size, 2, none⟩ = some (.string s) ∧ V'.cell? ⟨w.heap.size, 3, none⟩ = some (.slice A l.length (capF l.length c)) ∧ V'.cell? ⟨w.heap.size + 1, 0, none⟩ = some (.int .i64 k') ∧ V'.cell? ⟨w.heap.size + 1, 1, none⟩ = some (.int .i64 n') ∧ V'.cell? ⟨w.heap.size + 1, 2, none⟩ = some (.string s') ∧ V'.cell? ⟨w.heap.size + 1, 3, none⟩ = some (.slice A' l'.length (capF l'.length c')) ∧ V'.cell? ⟨w.heap.size + 1 + 1, 0, none⟩ = some (.int .i64 k'') ∧ V'.cell? ⟨w.heap.size + 1 + 1, 1, none⟩ = some (.int .i64 n'') ∧ V'.cell? ⟨w.heap.size + 1 + 1, 2, none⟩ = some (.string s'') ∧ V'.cell? ⟨w.heap.size + 1 + 1, 3, none⟩ = some (.slice A'' l''.length (capF l''.length c''))))) rfl hS0 (fun hSs => ?_)
            change wpAnyH _ _ _ _ _ 31 (Array.replicate 31 false) _ _
            refine wpAnyH_take (i := 0) (oi := ⟨some 56, _, _, _, _, _⟩) (v := .bool false) rfl (by kernel_rfl) (by kernel_rfl) (by kernel_rfl) (fun _ _ _ h => h) (.inl ⟨by kernel_rfl, fun W hW => by kernel_rfl⟩) hSs ?_
            try simp only [Act.put, List.setIfInBounds_toArray, List.set_cons_zero, List.set_cons_succ]
            refine wpAnyH_take (i := 1) (oi := ⟨some 57, _, _, _, _, _⟩) (v := .bool true) rfl (by kernel_rfl) (by kernel_rfl) (by kernel_rfl) (fun _ _ _ h => h) (.inl ⟨by kernel_rfl, fun W hW => by kernel_rfl⟩) hSs ?_
            try simp only [Act.put, List.setIfInBounds_toArray, List.set_cons_zero, List.set_cons_succ]
            refine wpAnyH_take (i := 2) (oi := ⟨some 58, _, _, _, _, _⟩) (v := .bool true) rfl (by kernel_rfl) (by kernel_rfl) (by kernel_rfl) (fun _ _ _ h => h) (.inl ⟨by kernel_rfl, fun W hW => by kernel_rfl⟩) hSs ?_
            try simp only [Act.put, List.setIfInBounds_toArray, List.set_cons_zero, List.set_cons_succ]
            refine wpAnyH_take (i := 3) (oi := ⟨some 59, _, _, _, _, _⟩) (v := undef) rfl (by kernel_rfl) (by kernel_rfl) (by kernel_rfl) (fun _ _ _ h => h) (.inr ⟨by kernel_rfl, rfl⟩) hSs ?_
            try simp only [Act.put, List.setIfInBounds_toArray, List.set_cons_zero, List.set_cons_succ]
            refine wpAnyH_take (i := 4) (oi := ⟨some 60, _, _, _, _, _⟩) (v := undef) rfl (by kernel_rfl) (by kernel_rfl) (by kernel_rfl) (fun _ _ _ h => h) (.inr ⟨by kernel_rfl, rfl⟩) hSs ?_
            try simp only [Act.put, List.setIfInBounds_toArray, List.set_cons_zero, List.set_cons_succ]
            refine wpAnyH_take (i := 5) (oi := ⟨some 61, _, _, _, _, _⟩) (v := undef) rfl (by kernel_rfl) (by kernel_rfl) (by kernel_rfl) (fun _ _ _ h => h) (.inr ⟨by kernel_rfl, rfl⟩) hSs ?_
            try simp only [Act.put, List.setIfInBounds_toArray, List.set_cons_zero, List.set_cons_succ]
            refine wpAnyH_take (i := 6) (oi := ⟨some 62, _, _, _, _, _⟩) (v := undef) rfl (by kernel_rfl) (by kernel_rfl) (by kernel_rfl) (fun _ _ _ h => h) (.inr ⟨by kernel_rfl, rfl⟩) hSs ?_
            try simp only [Act.put, List.setIfInBounds_toArray, List.set_cons_zero, List.set_cons_succ]
            refine wpAnyH_take (i := 7) (oi := ⟨some 63, _, _, _, _, _⟩) (v := undef) rfl (by kernel_rfl) (by kernel_rfl) (by kernel_rfl) (fun _ _ _ h => h) (.inr ⟨by kernel_rfl, rfl⟩) hSs ?_
            try simp only [Act.put, List.setIfInBounds_toArray, List.set_cons_zero, List.set_cons_succ]
            refine wpAnyH_take (i := 8) (oi := ⟨some 64, _, _, _, _, _⟩) (v := undef) rfl (by kernel_rfl) (by kernel_rfl) (by kernel_rfl) (fun _ _ _ h => h) (.inr ⟨by kernel_rfl, rfl⟩) hSs ?_
            try simp only [Act.put, List.setIfInBounds_toArray, List.set_cons_zero, List.set_cons_succ]
            refine wpAnyH_take (i := 9) (oi := ⟨some 65, _, _, _, _, _⟩) (v := undef) rfl (by kernel_rfl) (by kernel_rfl) (by kernel_rfl) (fun _ _ _ h => h) (.inr ⟨by kernel_rfl, rfl⟩) hSs ?_
            try simp only [Act.put, List.setIfInBounds_toArray, List.set_cons_zero, List.set_cons_succ]
            refine wpAnyH_take (i := 10) (oi := ⟨some 66, _, _, _, _, _⟩) (v := undef) rfl (by kernel_rfl) (by kernel_rfl) (by kernel_rfl) (fun _ _ _ h => h) (.inr ⟨by kernel_rfl, rfl⟩) hSs ?_
            try simp only [Act.put, List.setIfInBounds_toArray, List.set_cons_zero, List.set_cons_succ]
            refine wpAnyH_take (i := 11) (oi := ⟨some 67, _, _, _, _, _⟩) (v := undef) rfl (by kernel_rfl) (by kernel_rfl) (by kernel_rfl) (fun _ _ _ h => h) (.inr ⟨by kernel_rfl, rfl⟩) hSs ?_
            try simp only [Act.put, List.setIfInBounds_toArray, List.set_cons_zero, List.set_cons_succ]
            refine wpAnyH_take (i := 12) (oi := ⟨some 68, _, _, _, _, _⟩) (v := undef) rfl (by kernel_rfl) (by kernel_rfl) (by kernel_rfl) (fun _ _ _ h => h) (.inr ⟨by kernel_rfl, rfl⟩) hSs ?_
            try simp only [Act.put, List.setIfInBounds_toArray, List.set_cons_zero, List.set_cons_succ]
            refine wpAnyH_take (i := 13) (oi := ⟨some 69, _, _, _, _, _⟩) (v := undef) rfl (by kernel_rfl) (by kernel_rfl) (by kernel_rfl) (fun _ _ _ h => h) (.inr ⟨by kernel_rfl, rfl⟩) hSs ?_
            try simp only [Act.put, List.setIfInBounds_toArray, List.set_cons_zero, List.set_cons_succ]
            refine wpAnyH_take (i := 14) (oi := ⟨some 70, _, _, _, _, _⟩) (v := undef) rfl (by kernel_rfl) (by kernel_rfl) (by kernel_rfl) (fun _ _ _ h => h) (.inr ⟨by kernel_rfl, rfl⟩) hSs ?_
            try simp only [Act.put, List.setIfInBounds_toArray, List.set_cons_zero, List.set_cons_succ]
            refine wpAnyH_take (i := 15) (oi := ⟨some 71, _, _, _, _, _⟩) (v := undef) rfl (by kernel_rfl) (by kernel_rfl) (by kernel_rfl) (fun _ _ _ h => h) (.inr ⟨by kernel_rfl, rfl⟩) hSs ?_
            try simp only [Act.put, List.setIfInBounds_toArray, List.set_cons_zero, List.set_cons_succ]
            refine wpAnyH_take (i := 16) (oi := ⟨some 72, _, _, _, _, _⟩) (v := undef) rfl (by kernel_rfl) (by kernel_rfl) (by kernel_rfl) (fun _ _ _ h => h) (.inr ⟨by kernel_rfl, rfl⟩) hSs ?_
            try simp only [Act.put, List.setIfInBounds_toArray, List.set_cons_zero, List.set_cons_succ]
            refine wpAnyH_take (i := 17) (oi := ⟨some 73, _, _, _, _, _⟩) (v := undef) rfl (by kernel_rfl) (by kernel_rfl) (by kernel_rfl) (fun _ _ _ h => h) (.inr ⟨by kernel_rfl, rfl⟩) hSs ?_
            try simp only [Act.put, List.setIfInBounds_toArray, List.set_cons_zero, List.set_cons_succ]
            refine wpAnyH_take (i := 18) (oi := ⟨some 74, _, _, _, _, _⟩) (v := undef) rfl (by kernel_rfl) (by kernel_rfl) (by kernel_rfl) (fun _ _ _ h => h) (.inr ⟨by kernel_rfl, rfl⟩) hSs ?_
            try simp only [Act.put, List.setIfInBounds_toArray, List.set_cons_zero, List.set_cons_succ]
            refine wpAnyH_take (i := 19) (oi := ⟨some 75, _, _, _, _, _⟩) (v := undef) rfl (by kernel_rfl) (by kernel_rfl) (by kernel_rfl) (fun _ _ _ h => h) (.inr ⟨by kernel_rfl, rfl⟩) hSs ?_
            try simp only [Act.put, List.setIfInBounds_toArray, List.set_cons_zero, List.set_cons_succ]
            refine wpAnyH_take (i := 20) (oi := ⟨some 76, _, _, _, _, _⟩) (v := undef) rfl (by kernel_rfl) (by kernel_rfl) (by kernel_rfl) (fun _ _ _ h => h) (.inr ⟨by kernel_rfl, rfl⟩) hSs ?_
            try simp only [Act.put, List.setIfInBounds_toArray, List.set_cons_zero, List.set_cons_succ]
            refine wpAnyH_take (i := 21) (oi := ⟨some 77, _, _, _, _, _⟩) (v := undef) rfl (by kernel_rfl) (by kernel_rfl) (by kernel_rfl) (fun _ _ _ h => h) (.inr ⟨by kernel_rfl, rfl⟩) hSs ?_
            try simp only [Act.put, List.setIfInBounds_toArray, List.set_cons_zero, List.set_cons_succ]
            refine wpAnyH_take (i := 22) (oi := ⟨some 78, _, _, _, _, _⟩) (v := undef) rfl (by kernel_rfl) (by kernel_rfl) (by kernel_rfl) (fun _ _ _ h => h) (.inr ⟨by kernel_rfl, rfl⟩) hSs ?_
            try simp only [Act.put, List.setIfInBounds_toArray, List.set_cons_zero, List.set_cons_succ]
            refine wpAnyH_take (i := 23) (oi := ⟨some 79, _, _, _, _, _⟩) (v := undef) rfl (by kernel_rfl) (by kernel_rfl) (by kernel_rfl) (fun _ _ _ h => h) (.inr ⟨by kernel_rfl, rfl⟩) hSs ?_
            try simp only [Act.put, List.setIfInBounds_toArray, List.set_cons_zero, List.set_cons_succ]
            refine wpAnyH_take (i := 24) (oi := ⟨some 80, _, _, _, _, _⟩) (v := undef) rfl (by kernel_rfl) (by kernel_rfl) (by kernel_rfl) (fun _ _ _ h => h) (.inr ⟨by kernel_rfl, rfl⟩) hSs ?_
            try simp only [Act.put, List.setIfInBounds_toArray, List.set_cons_zero, List.set_cons_succ]
            refine wpAnyH_take (i := 25) (oi := ⟨some 81, _, _, _, _, _⟩) (v := undef) rfl (by kernel_rfl) (by kernel_rfl) (by kernel_rfl) (fun _ _ _ h => h) (.inr ⟨by kernel_rfl, rfl⟩) hSs ?_
            try simp only [Act.put, List.setIfInBounds_toArray, List.set_cons_zero, List.set_cons_succ]
            refine wpAnyH_take (i := 26) (oi := ⟨some 82, _, _, _, _, _⟩) (v := undef) rfl (by kernel_rfl) (by kernel_rfl) (by kernel_rfl) (fun _ _ _ h => h) (.inr ⟨by kernel_rfl, rfl⟩) hSs ?_
            try simp only [Act.put, List.setIfInBounds_toArray, List.set_cons_zero, List.set_cons_succ]
            refine wpAnyH_take (i := 27) (oi := ⟨some 83, _, _, _, _, _⟩) (v := undef) rfl (by kernel_rfl) (by kernel_rfl) (by kernel_rfl) (fun _ _ _ h => h) (.inr ⟨by kernel_rfl, rfl⟩) hSs ?_
            try simp only [Act.put, List.setIfInBounds_toArray, List.set_cons_zero, List.set_cons_succ]
            refine wpAnyH_take (i := 28) (oi := ⟨some 84, _, _, _, _, _⟩) (v := undef) rfl (by kernel_rfl) (by kernel_rfl) (by kernel_rfl) (fun _ _ _ h => h) (.inr ⟨by kernel_rfl, rfl⟩) hSs ?_
            try simp only [Act.put, List.setIfInBounds_toArray, List.set_cons_zero, List.set_cons_succ]
            refine wpAnyH_take (i := 29) (oi := ⟨some 85, _, _, _, _, _⟩) (v := .bool true) rfl (by kernel_rfl) (by kernel_rfl) (by kernel_rfl) (fun _ _ _ h => h) (.inl ⟨by kernel_rfl, fun W hW => by kernel_rfl⟩) hSs ?_
            try simp only [Act.put, List.setIfInBounds_toArray, List.set_cons_zero, List.set_cons_succ]
            refine wpAnyH_take (i := 30) (oi := ⟨some 6, _, _, _, _, _⟩) (v := .bool true) rfl (by kernel_rfl) (by kernel_rfl) (by kernel_rfl) (fun _ _ _ h => h) (.inl ⟨by kernel_rfl, fun W hW => by kernel_rfl⟩) hSs ?_
            try simp only [Act.put, List.setIfInBounds_toArray, List.set_cons_zero, List.set_cons_succ]
            refine wpAnyH_done (by kernel_rfl) ?_ _
            go_wp2_with fail
            go_ret
            exact ⟨rfl, HXa.out.bw.trans (hd0.mono HXa.out.bw.size)⟩
          · rw [hy] at HBC
            have HSBC := Lib.hid hy
            clear hy
            refine wp_region_held_drew (S := (fun V' => (V'.cell? ⟨w.heap.size, 0, none⟩ = some (.int .i64 k) ∧ V'.cell? ⟨w.heap.size, 1, none⟩ = some (.int .i64 n) ∧ V'.cell? ⟨w.heap.size, 2, none⟩ = some (.string s) ∧ V'.cell? ⟨w.heap.size, 3, none⟩ = some (.slice A l.length (capF l.length c)) ∧ V'.cell? ⟨w.heap.size + 1, 0, none⟩ = some (.int .i64 k') ∧ V'.cell? ⟨w.heap.size + 1, 1, none⟩ = some (.int .i64 n') ∧ V'.cell? ⟨w.heap.size + 1, 2, none⟩ = some (.string s') ∧ V'.cell? ⟨w.heap.size + 1, 3, none⟩ = some (.slice A' l'.length (capF l'.length c')) ∧ V'.cell? ⟨w.heap.size + 1 + 1, 0, none⟩ = some (.int .i64 k'') ∧ V'.cell? ⟨w.heap.size + 1 + 1, 1, none⟩ = some (.int .i64 n'') ∧ V'.cell? ⟨w.heap.size + 1 + 1, 2, none⟩ = some (.string s'') ∧ V'.cell? ⟨w.heap.size + 1 + 1, 3, none⟩ = some (.slice A'' l''.length (capF l''.length c''))))) rfl hS0 (fun hSs => ?_)
            change wpAnyH _ _ _ _ _ 8 (Array.replicate 8 false) _ _
            refine wpAnyH_take (i := 0) (oi := ⟨some 27, _, _, _, _, _⟩) (v := .agg #[.int .i64 k, .int .i64 n, .string s, .slice A l.length (capF l.length c)]) rfl (by kernel_rfl) (by kernel_rfl) (by kernel_rfl) (fun _ _ _ h => h) (.inl ⟨by kernel_rfl, fun W hW => by first | (obtain ⟨a0, a1, a2, a3, b0, b1, b2, b3, c0, c1, c2, c3⟩ := hW; go_simp; done) | (obtain ⟨a0, a1, a2, a3, b0, b1, b2, b3, c0, c1, c2, c3⟩ := hW; go_simp; omega) | (obtain ⟨a0, a1, a2, a3, b0, b1, b2, b3, c0, c1, c2, c3⟩ := hW; go_simp; simp [*]; done)⟩) hSs ?_
            try simp only [Act.put, List.setIfInBounds_toArray, List.set_cons_zero, List.set_cons_succ]
            refine wpAnyH_take (i := 1) (oi := ⟨some 28, _, _, _, _, _⟩) (v := .agg #[.int .i64 k', .int .i64 n', .string s', .slice A' l'.length (capF l'.length c')]) rfl (by kernel_rfl) (by kernel_rfl) (by kernel_rfl) (fun _ _ _ h => h) (.inl ⟨by kernel_rfl, fun W hW => by first | (obtain ⟨a0, a1, a2, a3, b0, b1, b2, b3, c0, c1, c2, c3⟩ := hW; go_simp; done) | (obtain ⟨a0, a1, a2, a3, b0, b1, b2, b3, c0, c1, c2, c3⟩ := hW; go_simp; omega) | (obtain ⟨a0, a1, a2, a3, b0, b1, b2, b3, c0, c1, c2, c3⟩ := hW; go_simp; simp [*]; done)⟩) hSs ?_
            try simp only [Act.put, List.setIfInBounds_toArray, List.set_cons_zero, List.set_cons_succ]
            refine wpAnyH_take (i := 3) (oi := ⟨some 30, _, _, _, _, _⟩) (v := .agg #[.int .i64 k', .int .i64 n', .string s', .slice A' l'.length (capF l'.length c')]) rfl (by kernel_rfl) (by kernel_rfl) (by kernel_rfl) (fun _ _ _ h => h) (.inl ⟨by kernel_rfl, fun W hW => by first | (obtain ⟨a0, a1, a2, a3, b0, b1, b2, b3, c0, c1, c2, c3⟩ := hW; go_simp; done) | (obtain ⟨a0, a1, a2, a3, b0, b1, b2, b3, c0, c1, c2, c3⟩ := hW; go_simp; omega) | (obtain ⟨a0, a1, a2, a3, b0, b1, b2, b3, c0, c1, c2, c3⟩ := hW; go_simp; simp [*]; done)⟩) hSs ?_
            try simp only [Act.put, List.setIfInBounds_toArray, List.set_cons_zero, List.set_cons_succ]
            refine wpAnyH_take (i := 4) (oi := ⟨some 31, _, _, _, _, _⟩) (v := .agg #[.int .i64 k'', .int .i64 n'', .string s'', .slice A'' l''.length (capF l''.length c'')]) rfl (by kernel_rfl) (by kernel_rfl) (by kernel_rfl) (fun _ _ _ h => h) (.inl ⟨by kernel_rfl, fun W hW => by first | (obtain ⟨a0, a1, a2, a3, b0, b1, b2, b3, c0, c1, c2, c3⟩ := hW; go_simp; done) | (obtain ⟨a0, a1, a2, a3, b0, b1, b2, b3, c0, c1, c2, c3⟩ := hW; go_simp; omega) | (obtain ⟨a0, a1, a2, a3, b0, b1, b2, b3, c0, c1, c2, c3⟩ := hW; go_simp; simp [*]; done)⟩) hSs ?_
            try simp only [Act.put, List.setIfInBounds_toArray, List.set_cons_zero, List.set_cons_succ]
            refine wpAnyH_ready (rs := [2]) (by kernel_rfl) (by simp) (AllReadyH.cons rfl (fun K hK => ?_) AllReadyH.nil)
            go_simp
            refine (HAB.out _ hd0).mono ?_
            rintro e u1 ⟨rfl, hd1⟩
            refine hK.out _ _ (HS.out _ hd1) (fun hS1 => ?_)
            clear hK K
            try simp only [Act.put, List.setIfInBounds_toArray, List.set_cons_zero, List.set_cons_succ]
            refine wpAnyH_ready (rs := [5]) (by kernel_rfl) (by simp) (AllReadyH.cons rfl (fun K hK => ?_) AllReadyH.nil)
            go_simp
            refine (HBC.out _ hd1).mono ?_
            rintro e u2 ⟨rfl, hd2⟩
            refine hK.out _ _ (HS.out _ hd2) (fun hS2 => ?_)
            clear hK K
            try simp only [Act.put, List.setIfInBounds_toArray, List.set_cons_zero, List.set_cons_succ]
            refine wpAnyH_take (i := 6) (oi := ⟨some 7, _, _, _, _, _⟩) (v := .bool false) rfl (by kernel_rfl) (by kernel_rfl) (by kernel_rfl) (fun _ _ _ h => h) (.inl ⟨by kernel_rfl, fun W hW => by kernel_rfl⟩) hS2 ?_
            try simp only [Act.put, List.setIfInBounds_toArray, List.set_cons_zero, List.set_cons_succ]
            refine wpAnyH_take (i := 7) (oi := ⟨some 8, _, _, _, _, _⟩) (v := .bool true) rfl (by kernel_rfl) (by kernel_rfl) (by kernel_rfl) (fun _ _ _ h => h) (.inl ⟨by kernel_rfl, fun W hW => by kernel_rfl⟩) hS2 ?_
            try simp only [Act.put, List.setIfInBounds_toArray, List.set_cons_zero, List.set_cons_succ]
            refine wpAnyH_done (by kernel_rfl) ?_ _
            have HXa := Lib.hid (HXa.out.step hd2)
            have HXb := Lib.hid (HXb.out.step hd2)
            have HXc := Lib.hid (HXc.out.step hd2)
            clear HS hS0 HAB HBC hSs hS1 hS2
            obtain ⟨a0, a1, a2, a3⟩ := HXa.out.four
            obtain ⟨b0, b1, b2, b3⟩ := HXb.out.four
            obtain ⟨c0, c1, c2, c3⟩ := HXc.out.four
            have HBA := (by have := HXb.out.same HXa.out; rw [sameE_comm, HSAB.out] at this; exact Lib.hid this)
            go_wp2_with fail
            refine HBA.out.mono ?_
            rintro e V4 ⟨rfl, hb4⟩
            have HXa := Lib.hid (HXa.out.step hb4)
            have HXb := Lib.hid (HXb.out.step hb4)
            have HXc := Lib.hid (HXc.out.step hb4)
            clear hb4 HBA
            clear a0 a1 a2 a3
            clear b0 b1 b2 b3
            clear c0 c1 c2 c3
            obtain ⟨a0, a1, a2, a3⟩ := HXa.out.four
            obtain ⟨b0, b1, b2, b3⟩ := HXb.out.four
            obtain ⟨c0, c1, c2, c3⟩ := HXc.out.four
            have HAA := (by have := HXa.out.same HXa.out; rw [sameE_refl] at this; exact Lib.hid this)
            go_wp2_with fail
            refine HAA.out.mono ?_
            rintro e V5 ⟨rfl, hb5⟩
            have HXa := Lib.hid (HXa.out.step hb5)
            have HXb := Lib.hid (HXb.out.step hb5)
            have HXc := Lib.hid (HXc.out.step hb5)
            clear hb5 HAA
            clear a0 a1 a2 a3
            clear b0 b1 b2 b3
            clear c0 c1 c2 c3
            obtain ⟨a0, a1, a2, a3⟩ := HXa.out.four
            obtain ⟨b0, b1, b2, b3⟩ := HXb.out.four
            obtain ⟨c0, c1, c2, c3⟩ := HXc.out.four
            go_upto_region 6 with fail
            clear a0 a1 a2 a3
            clear b0 b1 b2 b3
            clear c0 c1 c2 c3
            have hd0 : Below V5.heap.size V5 V5.drew := (Below.refl _ V5).drew
            have HS := Lib.hid (fun (V' : World) (h : Below V5.heap.size V5 V') => (by have x := (HXa.out.step h).four; have y := (HXb.out.step h).four; have z := (HXc.out.step h).four; exact ⟨x.1, x.2.1, x.2.2.1, x.2.2.2, y.1, y.2.1, y.2.2.1, y.2.2.2, z.1, z.2.1, z.2.2.1, z.2.2.2⟩ : (fun V' => (V'.cell? ⟨w.heap.size, 0, none⟩ = some (.int .i64 k) ∧ V'.cell? ⟨w.heap.size, 1, none⟩ = some (.int .i64 n) ∧ V'.cell? ⟨w.heap.size, 2, none⟩ = some (.string s) ∧ V'.cell? ⟨w.heap.size, 3, none⟩ = some (.slice A l.length (capF l.length c)) ∧ V'.cell? ⟨w.heap.size + 1, 0, none⟩ = some (.int .i64 k') ∧ V'.cell? ⟨w.heap.size + 1, 1, none⟩ = some (.int .i64 n') ∧ V'.cell? ⟨w.heap.size + 1, 2, none⟩ = some (.string s') ∧ V'.cell? ⟨w.heap.size + 1, 3, none⟩ = some (.slice A' l'.length (capF l'.length c')) ∧ V'.cell? ⟨w.heap.size + 1 + 1, 0, none⟩ = some (.int .i64 k'') ∧ V'.cell? ⟨w.heap.size + 1 + 1, 1, none⟩ = some (.int .i64 n'') ∧ V'.cell? ⟨w.heap.size + 1 + 1, 2, none⟩ = some (.string s'') ∧ V'.cell? ⟨w.heap.size + 1 + 1, 3, none⟩ = some (.slice A'' l''.length (capF l''.length c'')))) V'))
            have hS0 := HS.out _ hd0
            refine wp_region_held_drew (S := (fun V' => (V'.cell? ⟨w.heap.size, 0, none⟩ = some (.int .i64 k) ∧ V'.cell? ⟨w.heap.size, 1, none⟩ = some (.int .i64 n) ∧ V'.cell? ⟨w.heap.size, 2, none⟩ = some (.string s) ∧ V'.cell? ⟨w.heap.size, 3, none⟩ = some (.slice A l.length (capF l.length c)) ∧ V'.cell? ⟨w.heap.size + 1, 0, none⟩ = some (.int .i64 k') ∧ V'.cell? ⟨w.heap.size + 1, 1, none⟩ = some (.int .i64 n') ∧ V'.cell? ⟨w.heap.size + 1, 2, none⟩ = some (.string s') ∧ V'.cell? ⟨w.heap.size + 1, 3, none⟩ = some (.slice A' l'.length (capF l'.length c')) ∧ V'.cell? ⟨w.heap.size + 1 + 1, 0, none⟩ = some (.int .i64 k'') ∧ V'.cell? ⟨w.heap.size + 1 + 1, 1, none⟩ = some (.int .i64 n'') ∧ V'.cell? ⟨w.heap.size + 1 + 1, 2, none⟩ = some (.string s'') ∧ V'.cell? ⟨w.heap.size + 1 + 1, 3, none⟩ = some (.slice A'' l''.length (capF l''.length c''))))) rfl hS0 (fun hSs => ?_)
            change wpAnyH _ _ _ _ _ 31 (Array.replicate 31 false) _ _
            refine wpAnyH_take (i := 0) (oi := ⟨some 56, _, _, _, _, _⟩) (v := .bool false) rfl (by kernel_rfl) (by kernel_rfl) (by kernel_rfl) (fun _ _ _ h => h) (.inl ⟨by kernel_rfl, fun W hW => by kernel_rfl⟩) hSs ?_
            try simp only [Act.put, List.setIfInBounds_toArray, List.set_cons_zero, List.set_cons_succ]
            refine wpAnyH_take (i := 1) (oi := ⟨some 57, _, _, _, _, _⟩) (v := .bool true) rfl (by kernel_rfl) (by kernel_rfl) (by kernel_rfl) (fun _ _ _ h => h) (.inl ⟨by kernel_rfl, fun W hW => by kernel_rfl⟩) hSs ?_
            try simp only [Act.put, List.setIfInBounds_toArray, List.set_cons_zero, List.set_cons_succ]
            refine wpAnyH_take (i := 2) (oi := ⟨some 58, _, _, _, _, _⟩) (v := .bool true) rfl (by kernel_rfl) (by kernel_rfl) (by kernel_rfl) (fun _ _ _ h => h) (.inl ⟨by kernel_rfl, fun W hW => by kernel_rfl⟩) hSs ?_
            try simp only [Act.put, List.setIfInBounds_toArray, List.set_cons_zero, List.set_cons_succ]
            refine wpAnyH_take (i := 3) (oi := ⟨some 59, _, _, _, _, _⟩) (v := undef) rfl (by kernel_rfl) (by kernel_rfl) (by kernel_rfl) (fun _ _ _ h => h) (.inr ⟨by kernel_rfl, rfl⟩) hSs ?_
            try simp only [Act.put, List.setIfInBounds_toArray, List.set_cons_zero, List.set_cons_succ]
            refine wpAnyH_take (i := 4) (oi := ⟨some 60, _, _, _, _, _⟩) (v := undef) rfl (by kernel_rfl) (by kernel_rfl) (by kernel_rfl) (fun _ _ _ h => h) (.inr ⟨by kernel_rfl, rfl⟩) hSs ?_
            try simp only [Act.put, List.setIfInBounds_toArray, List.set_cons_zero, List.set_cons_succ]
            refine wpAnyH_take (i := 5) (oi := ⟨some 61, _, _, _, _, _⟩) (v := undef) rfl (by kernel_rfl) (by kernel_rfl) (by kernel_rfl) (fun _ _ _ h => h) (.inr ⟨by kernel_rfl, rfl⟩) hSs ?_
            try simp only [Act.put, List.setIfInBounds_toArray, List.set_cons_zero, List.set_cons_succ]
            refine wpAnyH_take (i := 6) (oi := ⟨some 62, _, _, _, _, _⟩) (v := undef) rfl (by kernel_rfl) (by kernel_rfl) (by kernel_rfl) (fun _ _ _ h => h) (.inr ⟨by kernel_rfl, rfl⟩) hSs ?_
            try simp only [Act.put, List.setIfInBounds_toArray, List.set_cons_zero, List.set_cons_succ]
            refine wpAnyH_take (i := 7) (oi := ⟨some 63, _, _, _, _, _⟩) (v := undef) rfl (by kernel_rfl) (by kernel_rfl) (by kernel_rfl) (fun _ _ _ h => h) (.inr ⟨by kernel_rfl, rfl⟩) hSs ?_
            try simp only [Act.put, List.setIfInBounds_toArray, List.set_cons_zero, List.set_cons_succ]
            refine wpAnyH_take (i := 8) (oi := ⟨some 64, _, _, _, _, _⟩) (v := undef) rfl (by kernel_rfl) (by kernel_rfl) (by kernel_rfl) (fun _ _ _ h => h) (.inr ⟨by kernel_rfl, rfl⟩) hSs ?_
            try simp only [Act.put, List.setIfInBounds_toArray, List.set_cons_zero, List.set_cons_succ]
            refine wpAnyH_take (i := 9) (oi := ⟨some 65, _, _, _, _, _⟩) (v := undef) rfl (by kernel_rfl) (by kernel_rfl) (by kernel_rfl) (fun _ _ _ h => h) (.inr ⟨by kernel_rfl, rfl⟩) hSs ?_
            try simp only [Act.put, List.setIfInBounds_toArray, List.set_cons_zero, List.set_cons_succ]
            refine wpAnyH_take (i := 10) (oi := ⟨some 66, _, _, _, _, _⟩) (v := undef) rfl (by kernel_rfl) (by kernel_rfl) (by kernel_rfl) (fun _ _ _ h => h) (.inr ⟨by kernel_rfl, rfl⟩) hSs ?_
            try simp only [Act.put, List.setIfInBounds_toArray, List.set_cons_zero, List.set_cons_succ]
            refine wpAnyH_take (i := 11) (oi := ⟨some 67, _, _, _, _, _⟩) (v := undef) rfl (by kernel_rfl) (by kernel_rfl) (by kernel_rfl) (fun _ _ _ h => h) (.inr ⟨by kernel_rfl, rfl⟩) hSs ?_
            try simp only [Act.put, List.setIfInBounds_toArray, List.set_cons_zero, List.set_cons_succ]
            refine wpAnyH_take (i := 12) (oi := ⟨some 68, _, _, _, _, _⟩) (v := undef) rfl (by kernel_rfl) (by kernel_rfl) (by kernel_rfl) (fun _ _ _ h => h) (.inr ⟨by kernel_rfl, rfl⟩) hSs ?_
            try simp only [Act.put, List.setIfInBounds_toArray, List.set_cons_zero, List.set_cons_succ]
            refine wpAnyH_take (i := 13) (oi := ⟨some 69, _, _, _, _, _⟩) (v := undef) rfl (by kernel_rfl) (by kernel_rfl) (by kernel_rfl) (fun _ _ _ h => h) (.inr ⟨by kernel_rfl, rfl⟩) hSs ?_
            try simp only [Act.put, List.setIfInBounds_toArray, List.set_cons_zero, List.set_cons_succ]
            refine wpAnyH_take (i := 14) (oi := ⟨some 70, _, _, _, _, _⟩) (v := undef) rfl (by kernel_rfl) (by kernel_rfl) (by kernel_rfl) (fun _ _ _ h => h) (.inr ⟨by kernel_rfl, rfl⟩) hSs ?_
            try simp only [Act.put, List.setIfInBounds_toArray, List.set_cons_zero, List.set_cons_succ]
            refine wpAnyH_take (i := 15) (oi := ⟨some 71, _, _, _, _, _⟩) (v := undef) rfl (by kernel_rfl) (by kernel_rfl) (by kernel_rfl) (fun _ _ _ h => h) (.inr ⟨by kernel_rfl, rfl⟩) hSs ?_
            try simp only [Act.put, List.setIfInBounds_toArray, List.set_cons_zero, List.set_cons_succ]
            refine wpAnyH_take (i := 16) (oi := ⟨some 72, _, _, _, _, _⟩) (v := undef) rfl (by kernel_rfl) (by kernel_rfl) (by kernel_rfl) (fun _ _ _ h => h) (.inr ⟨by kernel_rfl, rfl⟩) hSs ?_
            try simp only [Act.put, List.setIfInBounds_toArray, List.set_cons_zero, List.set_cons_succ]
            refine wpAnyH_take (i := 17) (oi := ⟨some 73, _, _, _, _, _⟩) (v := undef) rfl (by kernel_rfl) (by kernel_rfl) (by kernel_rfl) (fun _ _ _ h => h) (.inr ⟨by kernel_rfl, rfl⟩) hSs ?_
            try simp only [Act.put, List.setIfInBounds_toArray, List.set_cons_zero, List.set_cons_succ]
            refine wpAnyH_take (i := 18) (oi := ⟨some 74, _, _, _, _, _⟩) (v := undef) rfl (by kernel_rfl) (by kernel_rfl) (by kernel_rfl) (fun _ _ _ h => h) (.inr ⟨by kernel_rfl, rfl⟩) hSs ?_
            try simp only [Act.put, List.setIfInBounds_toArray, List.set_cons_zero, List.set_cons_succ]
            refine wpAnyH_take (i := 19) (oi := ⟨some 75, _, _, _, _, _⟩) (v := undef) rfl (by kernel_rfl) (by kernel_rfl) (by kernel_rfl) (fun _ _ _ h => h) (.inr ⟨by kernel_rfl, rfl⟩) hSs ?_
            try simp only [Act.put, List.setIfInBounds_toArray, List.set_cons_zero, List.set_cons_succ]
            refine wpAnyH_take (i := 20) (oi := ⟨some 76, _, _, _, _, _⟩) (v := undef) rfl (by kernel_rfl) (by kernel_rfl) (by kernel_rfl) (fun _ _ _ h => h) (.inr ⟨by kernel_rfl, rfl⟩) hSs ?_
            try simp only [Act.put, List.setIfInBounds_toArray, List.set_cons_zero, List.set_cons_succ]
            refine wpAnyH_take (i := 21) (oi := ⟨some 77, _, _, _, _, _⟩) (v := undef) rfl (by kernel_rfl) (by kernel_rfl) (by kernel_rfl) (fun _ _ _ h => h) (.inr ⟨by kernel_rfl, rfl⟩) hSs ?_
            try simp only [Act.put, List.setIfInBounds_toArray, List.set_cons_zero, List.set_cons_succ]
            refine wpAnyH_take (i := 22) (oi := ⟨some 78, _, _, _, _, _⟩) (v := undef) rfl (by kernel_rfl) (by kernel_rfl) (by kernel_rfl) (fun _ _ _ h => h) (.inr ⟨by kernel_rfl, rfl⟩) hSs ?_
            try simp only [Act.put, List.setIfInBounds_toArray, List.set_cons_zero, List.set_cons_succ]
            refine wpAnyH_take (i := 23) (oi := ⟨some 79, _, _, _, _, _⟩) (v := undef) rfl (by kernel_rfl) (by kernel_rfl) (by kernel_rfl) (fun _ _ _ h => h) (.inr ⟨by kernel_rfl, rfl⟩) hSs ?_
            try simp only [Act.put, List.setIfInBounds_toArray, List.set_cons_zero, List.set_cons_succ]
            refine wpAnyH_take (i := 24) (oi := ⟨some 80, _, _, _, _, _⟩) (v := undef) rfl (by kernel_rfl) (by kernel_rfl) (by kernel_rfl) (fun _ _ _ h => h) (.inr ⟨by kernel_rfl, rfl⟩) hSs ?_
            try simp only [Act.put, List.setIfInBounds_toArray, List.set_cons_zero, List.set_cons_succ]
            refine wpAnyH_take (i := 25) (oi := ⟨some 81, _, _, _, _, _⟩) (v := undef) rfl (by kernel_rfl) (by kernel_rfl) (by kernel_rfl) (fun _ _ _ h => h) (.inr ⟨by kernel_rfl, rfl⟩) hSs ?_
            try simp only [Act.put, List.setIfInBounds_toArray, List.set_cons_zero, List.set_cons_succ]
            refine wpAnyH_take (i := 26) (oi := ⟨some 82, _, _, _, _, _⟩) (v := undef) rfl (by kernel_rfl) (by kernel_rfl) (by kernel_rfl) (fun _ _ _ h => h) (.inr ⟨by kernel_rfl, rfl⟩) hSs ?_
            try simp only [Act.put, List.setIfInBounds_toArray, List.set_cons_zero, List.set_cons_succ]
            refine wpAnyH_take (i := 27) (oi := ⟨some 83, _, _, _, _, _⟩) (v := undef) rfl (by kernel_rfl) (by kernel_rfl) (by kernel_rfl) (fun _ _ _ h => h) (.inr ⟨by kernel_rfl, rfl⟩) hSs ?_
            try simp only [Act.put, List.setIfInBounds_toArray, List.set_cons_zero, List.set_cons_succ]
            refine wpAnyH_take (i := 28) (oi := ⟨some 84, _, _, _, _, _⟩) (v := undef) rfl (by kernel_rfl) (by kernel_rfl) (by kernel_rfl) (fun _ _ _ h => h) (.inr ⟨by kernel_rfl, rfl⟩) hSs ?_
            try simp only [Act.put, List.setIfInBounds_toArray, List.set_cons_zero, List.set_cons_succ]
            refine wpAnyH_take (i := 29) (oi := ⟨some 85, _, _, _, _, _⟩) (v := .bool true) rfl (by kernel_rfl) (by kernel_rfl) (by kernel_rfl) (fun _ _ _ h => h) (.inl ⟨by kernel_rfl, fun W hW => by kernel_rfl⟩) hSs ?_
            try simp only [Act.put, List.setIfInBounds_toArray, List.set_cons_zero, List.set_cons_succ]
            refine wpAnyH_take (i := 30) (oi := ⟨some 6, _, _, _, _, _⟩) (v := .bool true) rfl (by kernel_rfl) (by kernel_rfl) (by kernel_rfl) (fun _ _ _ h => h) (.inl ⟨by kernel_rfl, fun W hW => by kernel_rfl⟩) hSs ?_
            try simp only [Act.put, List.setIfInBounds_toArray, List.set_cons_zero, List.set_cons_succ]
            refine wpAnyH_done (by kernel_rfl) ?_ _
            go_wp2_with fail
            go_ret
            exact ⟨rfl, HXa.out.bw.trans (hd0.mono HXa.out.bw.size)⟩
        · rw [hx] at HAB
          have HSAB := Lib.hid hx
          clear hx
          cases hy : sameE (.node k' n' s' l') (.node k'' n'' s'' l'')
          · rw [hy] at HBC
            have HSBC := Lib.hid hy
            clear hy
            refine wp_region_held_drew (S := (fun V' => (V'.cell? ⟨w.heap.size, 0, none⟩ = some (.int .i64 k) ∧ V'.cell? ⟨w.heap.size, 1, none⟩ = some (.int .i64 n) ∧ V'.cell? ⟨w.heap.size, 2, none⟩ = some (.string s) ∧ V'.cell? ⟨w.heap.size, 3, none⟩ = some (.slice A l.length (capF l.length c)) ∧ V'.cell? ⟨w.heap.size + 1, 0, none⟩ = some (.int .i64 k') ∧ V'.cell? ⟨w.heap.size + 1, 1, none⟩ = some (.int .i64 n') ∧ V'.cell? ⟨w.heap.size + 1, 2, none⟩ = some (.string s') ∧ V'.cell? ⟨w.heap.size + 1, 3, none⟩ = some (.slice A' l'.length (capF l'.length c')) ∧ V'.cell? ⟨w.heap.size + 1 + 1, 0, none⟩ = some (.int .i64 k'') ∧ V'.cell? ⟨w.heap.size + 1 + 1, 1, none⟩ = some (.int .i64 n'') ∧ V'.cell? ⟨w.heap.size + 1 + 1, 2, none⟩ = some (.string s'') ∧ V'.cell? ⟨w.heap.size + 1 + 1, 3, none⟩ = some (.slice A'' l''.length (capF l''.length c''))))) rfl hS0 (fun hSs => ?_)
            change wpAnyH _ _ _ _ _ 8 (Array.replicate 8 false) _ _
            refine wpAnyH_take (i := 0) (oi := ⟨some 27, _, _, _, _, _⟩) (v := .agg #[.int .i64 k, .int .i64 n, .string s, .slice A l.length (capF l.length c)]) rfl (by kernel_rfl) (by kernel_rfl) (by kernel_rfl) (fun _ _ _ h => h) (.inl ⟨by kernel_rfl, fun W hW => by first | (obtain ⟨a0, a1, a2, a3, b0, b1, b2, b3, c0, c1, c2, c3⟩ := hW; go_simp; done) | (obtain ⟨a0, a1, a2, a3, b0, b1, b2, b3, c0, c1, c2, c3⟩ := hW; go_simp; omega) | (obtain ⟨a0, a1, a2, a3, b0, b1, b2, b3, c0, c1, c2, c3⟩ := hW; go_simp; simp [*]; done)⟩) hSs ?_
            try simp only [Act.put, List.setIfInBounds_toArray, List.set_cons_zero, List.set_cons_succ]
            refine wpAnyH_take (i := 1) (oi := ⟨some 28, _, _, _, _, _⟩) (v := .agg #[.int .i64 k', .int .i64 n', .string s', .slice A' l'.length (capF l'.length c')]) rfl (by kernel_rfl) (by kernel_rfl) (by kernel_rfl) (fun _ _ _ h => h) (.inl ⟨by kernel_rfl, fun W hW => by first | (obtain ⟨a0, a1, a2, a3, b0, b1, b2, b3, c0, c1, c2, c3⟩ := hW; go_simp; done) | (obtain ⟨a0, a1, a2, a3, b0, b1, b2, b3, c0, c1, c2, c3⟩ := hW; go_simp; omega) | (obtain ⟨a0, a1, a2, a3, b0, b1, b2, b3, c0, c1, c2, c3⟩ := hW; go_simp; simp [*]; done)⟩) hSs ?_
            try simp only [Act.put, List.setIfInBounds_toArray, List.set_cons_zero, List.set_cons_succ]
            refine wpAnyH_take (i := 3) (oi := ⟨some 30, _, _, _, _, _⟩) (v := .agg #[.int .i64 k', .int .i64 n', .string s', .slice A' l'.length (capF l'.length c')]) rfl (by kernel_rfl) (by kernel_rfl) (by kernel_rfl) (fun _ _ _ h => h) (.inl ⟨by kernel_rfl, fun W hW => by first | (obtain ⟨a0, a1, a2, a3, b0, b1, b2, b3, c0, c1, c2, c3⟩ := hW; go_simp; done) | (obtain ⟨a0, a1, a2, a3, b0, b1, b2, b3, c0, c1, c2, c3⟩ := hW; go_simp; omega) | (obtain ⟨a0, a1, a2, a3, b0, b1, b2, b3, c0, c1, c2, c3⟩ := hW; go_simp; simp [*]; done)⟩) hSs ?_
            try simp only [Act.put, List.setIfInBounds_toArray, List.set_cons_zero, List.set_cons_succ]
            refine wpAnyH_take (i := 4) (oi := ⟨some 31, _, _, _, _, _⟩) (v := .agg #[.int .i64 k'', .int .i64 n'', .string s'', .slice A'' l''.length (capF l''.length c'')]) rfl (by kernel_rfl) (by kernel_rfl) (by kernel_rfl) (fun _ _ _ h => h) (.inl ⟨by kernel_rfl, fun W hW => by first | (obtain ⟨a0, a1, a2, a3, b0, b1, b2, b3, c0, c1, c2, c3⟩ := hW; go_simp; done) | (obtain ⟨a0, a1, a2, a3, b0, b1, b2, b3, c0, c1, c2, c3⟩ := hW; go_simp; omega) | (obtain ⟨a0, a1, a2, a3, b0, b1, b2, b3, c0, c1, c2, c3⟩ := hW; go_simp; simp [*]; done)⟩) hSs ?_
            try simp only [Act.put, List.setIfInBounds_toArray, List.set_cons_zero, List.set_cons_succ]
            refine wpAnyH_ready (rs := [2]) (by kernel_rfl) (by simp) (AllReadyH.cons rfl (fun K hK => ?_) AllReadyH.nil)
            go_simp
            refine (HAB.out _ hd0).mono ?_
            rintro e u1 ⟨rfl, hd1⟩
            refine hK.out _ _ (HS.out _ hd1) (fun hS1 => ?_)
            clear hK K
            try simp only [Act.put, List.setIfInBounds_toArray, List.set_cons_zero, List.set_cons_succ]
            refine wpAnyH_ready (rs := [5]) (by kernel_rfl) (by simp) (AllReadyH.cons rfl (fun K hK => ?_) AllReadyH.nil)
            go_simp
            refine (HBC.out _ hd1).mono ?_
            rintro e u2 ⟨rfl, hd2⟩
            refine hK.out _ _ (HS.out _ hd2) (fun hS2 => ?_)
            clear hK K
            try simp only [Act.put, List.setIfInBounds_toArray, List.set_cons_zero, List.set_cons_succ]
            refine wpAnyH_take (i := 6) (oi := ⟨some 7, _, _, _, _, _⟩) (v := .bool true) rfl (by kernel_rfl) (by kernel_rfl) (by kernel_rfl) (fun _ _ _ h => h) (.inl ⟨by kernel_rfl, fun W hW => by kernel_rfl⟩) hS2 ?_
            try simp only [Act.put, List.setIfInBounds_toArray, List.set_cons_zero, List.set_cons_succ]
            refine wpAnyH_take (i := 7) (oi := ⟨some 8, _, _, _, _, _⟩) (v := .bool false) rfl (by kernel_rfl) (by kernel_rfl) (by kernel_rfl) (fun _ _ _ h => h) (.inl ⟨by kernel_rfl, fun W hW => by kernel_rfl⟩) hS2 ?_
            try simp only [Act.put, List.setIfInBounds_toArray, List.set_cons_zero, List.set_cons_succ]
            refine wpAnyH_done (by kernel_rfl) ?_ _
            have HXa := Lib.hid (HXa.out.step hd2)
            have HXb := Lib.hid (HXb.out.step hd2)
            have HXc := Lib.hid (HXc.out.step hd2)
            clear HS hS0 HAB HBC hSs hS1 hS2
            obtain ⟨a0, a1, a2, a3⟩ := HXa.out.four
            obtain ⟨b0, b1, b2, b3⟩ := HXb.out.four
            obtain ⟨c0, c1, c2, c3⟩ := HXc.out.four
            have HBA := (by have := HXb.out.same HXa.out; rw [sameE_comm, HSAB.out] at this; exact Lib.hid this)
            go_wp2_with fail
            refine HBA.out.mono ?_
            rintro e V4 ⟨rfl, hb4⟩
            have HXa := Lib.hid (HXa.out.step hb4)
            have HXb := Lib.hid (HXb.out.step hb4)
            have HXc := Lib.hid (HXc.out.step hb4)
            clear hb4 HBA
            clear a0 a1 a2 a3
            clear b0 b1 b2 b3
            clear c0 c1 c2 c3
            obtain ⟨a0, a1, a2, a3⟩ := HXa.out.four
            obtain ⟨b0, b1, b2, b3⟩ := HXb.out.four
            obtain ⟨c0, c1, c2, c3⟩ := HXc.out.four
            have HAA := (by have := HXa.out.same HXa.out; rw [sameE_refl] at this; exact Lib.hid this)
            go_wp2_with fail
            refine HAA.out.mono ?_
            rintro e V5 ⟨rfl, hb5⟩
            have HXa := Lib.hid (HXa.out.step hb5)
            have HXb := Lib.hid (HXb.out.step hb5)
            have HXc := Lib.hid (HXc.out.step hb5)
            clear hb5 HAA
            clear a0 a1 a2 a3
            clear b0 b1 b2 b3
            clear c0 c1 c2 c3
            obtain ⟨a0, a1, a2, a3⟩ := HXa.out.four
            obtain ⟨b0, b1, b2, b3⟩ := HXb.out.four
            obtain ⟨c0, c1, c2, c3⟩ := HXc.out.four
            go_upto_region 6 with fail
            clear a0 a1 a2 a3
            clear b0 b1 b2 b3
            clear c0 c1 c2 c3
            have hd0 : Below V5.heap.size V5 V5.drew := (Below.refl _ V5).drew
            have HS := Lib.hid (fun (V' : World) (h : Below V5.heap.size V5 V') => (by have x := (HXa.out.step h).four; have y := (HXb.out.step h).four; have z := (HXc.out.step h).four; exact ⟨x.1, x.2.1, x.2.2.1, x.2.2.2, y.1, y.2.1, y.2.2.1, y.2.2.2, z.1, z.2.1, z.2.2.1, z.2.2.2⟩ : (fun V' => (V'.cell? ⟨w.heap.size, 0, none⟩ = some (.int .i64 k) ∧ V'.cell? ⟨w.heap.size, 1, none⟩ = some (.int .i64 n) ∧ V'.cell? ⟨w.heap.size, 2, none⟩ = some (.string s) ∧ V'.cell? ⟨w.heap.size, 3, none⟩ = some (.slice A l.length (capF l.length c)) ∧ V'.cell? ⟨w.heap.size + 1, 0, none⟩ = some (.int .i64 k') ∧ V'.cell? ⟨w.heap.size + 1, 1, none⟩ = some (.int .i64 n') ∧ V'.cell? ⟨w.heap.size + 1, 2, none⟩ = some (.string s') ∧ V'.cell? ⟨w.heap.size + 1, 3, none⟩ = some (.slice A' l'.length (capF l'.length c')) ∧ V'.cell? ⟨w.heap.size + 1 + 1, 0, none⟩ = some (.int .i64 k'') ∧ V'.cell? ⟨w.heap.size + 1 + 1, 1, none⟩ = some (.int .i64 n'') ∧ V'.cell? ⟨w.heap.size + 1 + 1, 2, none⟩ = some (.string s'') ∧ V'.cell? ⟨w.heap.size + 1 + 1, 3, none⟩ = some (.slice A'' l''.length (capF l''.length c'')))) V'))
            have hS0 := HS.out _ hd0
            have hab := sameE_eq _ _ HSAB.out
            have hta : (textE (.node k n s l)).length ≤ 99999990 := by
              have h1 := text_short _ (ein_rng _ HXa.out.tin)
              have h3 := HZa.out.1
              have h4 := HNA.out
              omega
            have hza : sizeE (.node k n s l) ≤ 100000 := by have := HZa.out; omega
            have hda : depthE (.node k n s l) ≤ 1000 := by have := HZa.out; omega
            have HZA := Lib.hid ((fun (V' : World) (h : Below V5.heap.size V5 V') => Calls.fromB h h.size ((HXa.out.step h).size hza)))
            have HZB := Lib.hid ((fun (V' : World) (h : Below V5.heap.size V5 V') => Calls.fromB h h.size (by have := (HXb.out.step h).size (by rw [← hab]; exact hza); rw [← hab] at this; exact this)))
            have HDA := Lib.hid ((fun (V' : World) (h : Below V5.heap.size V5 V') => Calls.fromB h h.size ((HXa.out.step h).depth hza)))
            have HDB := Lib.hid ((fun (V' : World) (h : Below V5.heap.size V5 V') => Calls.fromB h h.size (by have := (HXb.out.step h).depth (by rw [← hab]; exact hza); rw [← hab] at this; exact this)))
            have HMA := Lib.hid ((fun (V' : World) (h : Below V5.heap.size V5 V') => Calls.fromB h h.size ((HXa.out.step h).may hda 3)))
            have HMB := Lib.hid ((fun (V' : World) (h : Below V5.heap.size V5 V') => Calls.fromB h h.size (by have := (HXb.out.step h).may (by rw [← hab]; exact hda) 3; rw [← hab] at this; exact this)))
            have HTA := Lib.hid ((fun (V' : World) (h : Below V5.heap.size V5 V') => Calls.fromB h h.size ((HXa.out.step h).text hta)))
            have HTB := Lib.hid ((fun (V' : World) (h : Below V5.heap.size V5 V') => Calls.fromB h h.size (by have := (HXb.out.step h).text (by rw [← hab]; exact hta); rw [← hab] at this; exact this)))
            obtain ⟨SZ, hSZ⟩ : ∃ SZ, SZ = sizeE (.node k n s l) := ⟨_, rfl⟩
            obtain ⟨DZ, hDZ⟩ : ∃ DZ, DZ = depthE (.node k n s l) := ⟨_, rfl⟩
            obtain ⟨MB, hMB⟩ : ∃ MB, MB = mayV6 (.node k n s l) 3 := ⟨_, rfl⟩
            obtain ⟨TA, hTA⟩ : ∃ TA, TA = textE (.node k n s l) := ⟨_, rfl⟩
            rw [← hSZ] at HZA HZB
            rw [← hDZ] at HDA HDB
            rw [← hMB] at HMA HMB
            rw [← hTA] at HTA HTB
            clear hab hta hza hda hSZ hDZ hMB hTA
            refine wp_region_held_drew (S := (fun V' => (V'.cell? ⟨w.heap.size, 0, none⟩ = some (.int .i64 k) ∧ V'.cell? ⟨w.heap.size, 1, none⟩ = some (.int .i64 n) ∧ V'.cell? ⟨w.heap.size, 2, none⟩ = some (.string s) ∧ V'.cell? ⟨w.heap.size, 3, none⟩ = some (.slice A l.length (capF l.length c)) ∧ V'.cell? ⟨w.heap.size + 1, 0, none⟩ = some (.int .i64 k') ∧ V'.cell? ⟨w.heap.size + 1, 1, none⟩ = some (.int .i64 n') ∧ V'.cell? ⟨w.heap.size + 1, 2, none⟩ = some (.string s') ∧ V'.cell? ⟨w.heap.size + 1, 3, none⟩ = some (.slice A' l'.length (capF l'.length c')) ∧ V'.cell? ⟨w.heap.size + 1 + 1, 0, none⟩ = some (.int .i64 k'') ∧ V'.cell? ⟨w.heap.size + 1 + 1, 1, none⟩ = some (.int .i64 n'') ∧ V'.cell? ⟨w.heap.size + 1 + 1, 2, none⟩ = some (.string s'') ∧ V'.cell? ⟨w.heap.size + 1 + 1, 3, none⟩ = some (.slice A'' l''.length (capF l''.length c''))))) rfl hS0 (fun hSs => ?_)
            change wpAnyH _ _ _ _ _ 31 (Array.replicate 31 false) _ _
            refine wpAnyH_take (i := 0) (oi := ⟨some 56, _, _, _, _, _⟩) (v := .bool true) rfl (by kernel_rfl) (by kernel_rfl) (by kernel_rfl) (fun _ _ _ h => h) (.inl ⟨by kernel_rfl, fun W hW => by kernel_rfl⟩) hSs ?_
            try simp only [Act.put, List.setIfInBounds_toArray, List.set_cons_zero, List.set_cons_succ]
            refine wpAnyH_take (i := 1) (oi := ⟨some 57, _, _, _, _, _⟩) (v := .bool false) rfl (by kernel_rfl) (by kernel_rfl) (by kernel_rfl) (fun _ _ _ h => h) (.inl ⟨by kernel_rfl, fun W hW => by kernel_rfl⟩) hSs ?_
            try simp only [Act.put, List.setIfInBounds_toArray, List.set_cons_zero, List.set_cons_succ]
            refine wpAnyH_take (i := 2) (oi := ⟨some 58, _, _, _, _, _⟩) (v := .bool false) rfl (by kernel_rfl) (by kernel_rfl) (by kernel_rfl) (fun _ _ _ h => h) (.inl ⟨by kernel_rfl, fun W hW => by kernel_rfl⟩) hSs ?_
            try simp only [Act.put, List.setIfInBounds_toArray, List.set_cons_zero, List.set_cons_succ]
            refine wpAnyH_take (i := 3) (oi := ⟨some 59, _, _, _, _, _⟩) (v := .agg #[.int .i64 k, .int .i64 n, .string s, .slice A l.length (capF l.length c)]) rfl (by kernel_rfl) (by kernel_rfl) (by kernel_rfl) (fun _ _ _ h => h) (.inl ⟨by kernel_rfl, fun W hW => by first | (obtain ⟨a0, a1, a2, a3, b0, b1, b2, b3, c0, c1, c2, c3⟩ := hW; go_simp; done) | (obtain ⟨a0, a1, a2, a3, b0, b1, b2, b3, c0, c1, c2, c3⟩ := hW; go_simp; omega) | (obtain ⟨a0, a1, a2, a3, b0, b1, b2, b3, c0, c1, c2, c3⟩ := hW; go_simp; simp [*]; done)⟩) hSs ?_
            try simp only [Act.put, List.setIfInBounds_toArray, List.set_cons_zero, List.set_cons_succ]
            refine wpAnyH_take (i := 5) (oi := ⟨some 61, _, _, _, _, _⟩) (v := .agg #[.int .i64 k', .int .i64 n', .string s', .slice A' l'.length (capF l'.length c')]) rfl (by kernel_rfl) (by kernel_rfl) (by kernel_rfl) (fun _ _ _ h => h) (.inl ⟨by kernel_rfl, fun W hW => by first | (obtain ⟨a0, a1, a2, a3, b0, b1, b2, b3, c0, c1, c2, c3⟩ := hW; go_simp; done) | (obtain ⟨a0, a1, a2, a3, b0, b1, b2, b3, c0, c1, c2, c3⟩ := hW; go_simp; omega) | (obtain ⟨a0, a1, a2, a3, b0, b1, b2, b3, c0, c1, c2, c3⟩ := hW; go_simp; simp [*]; done)⟩) hSs ?_
            try simp only [Act.put, List.setIfInBounds_toArray, List.set_cons_zero, List.set_cons_succ]
            refine wpAnyH_ready (rs := [4]) (by kernel_rfl) (by simp) (AllReadyH.cons rfl (fun K hK => ?_) AllReadyH.nil)
            go_simp
            refine (HZA.out _ hd0).mono ?_
            rintro e u1 ⟨rfl, hd1⟩
            refine hK.out _ _ (HS.out _ hd1) (fun hS1 => ?_)
            clear hK K
            try simp only [Act.put, List.setIfInBounds_toArray, List.set_cons_zero, List.set_cons_succ]
            refine wpAnyH_ready (rs := [6]) (by kernel_rfl) (by simp) (AllReadyH.cons rfl (fun K hK => ?_) AllReadyH.nil)
            go_simp
            refine (HZB.out _ hd1).mono ?_
            rintro e u2 ⟨rfl, hd2⟩
            refine hK.out _ _ (HS.out _ hd2) (fun hS2 => ?_)
            clear hK K
            try simp only [Act.put, List.setIfInBounds_toArray, List.set_cons_zero, List.set_cons_succ]
            refine wpAnyH_take (i := 7) (oi := ⟨some 63, _, _, _, _, _⟩) (v := .bool true) rfl (by kernel_rfl) (by kernel_rfl) (by kernel_rfl) (fun _ _ _ h => h) (.inl ⟨by kernel_rfl, fun W hW => by first | (obtain ⟨a0, a1, a2, a3, b0, b1, b2, b3, c0, c1, c2, c3⟩ := hW; go_simp; done) | (obtain ⟨a0, a1, a2, a3, b0, b1, b2, b3, c0, c1, c2, c3⟩ := hW; go_simp; omega) | (obtain ⟨a0, a1, a2, a3, b0, b1, b2, b3, c0, c1, c2, c3⟩ := hW; go_simp; simp [*]; done)⟩) hS2 ?_
            try simp only [Act.put, List.setIfInBounds_toArray, List.set_cons_zero, List.set_cons_succ]
            refine wpAnyH_take (i := 8) (oi := ⟨some 64, _, _, _, _, _⟩) (v := .bool true) rfl (by kernel_rfl) (by kernel_rfl) (by kernel_rfl) (fun _ _ _ h => h) (.inl ⟨by kernel_rfl, fun W hW => by kernel_rfl⟩) hS2 ?_
            try simp only [Act.put, List.setIfInBounds_toArray, List.set_cons_zero, List.set_cons_succ]
            refine wpAnyH_take (i := 9) (oi := ⟨some 65, _, _, _, _, _⟩) (v := .agg #[.int .i64 k, .int .i64 n, .string s, .slice A l.length (capF l.length c)]) rfl (by kernel_rfl) (by kernel_rfl) (by kernel_rfl) (fun _ _ _ h => h) (.inl ⟨by kernel_rfl, fun W hW => by first | (obtain ⟨a0, a1, a2, a3, b0, b1, b2, b3, c0, c1, c2, c3⟩ := hW; go_simp; done) | (obtain ⟨a0, a1, a2, a3, b0, b1, b2, b3, c0, c1, c2, c3⟩ := hW; go_simp; omega) | (obtain ⟨a0, a1, a2, a3, b0, b1, b2, b3, c0, c1, c2, c3⟩ := hW; go_simp; simp [*]; done)⟩) hS2 ?_
            try simp only [Act.put, List.setIfInBounds_toArray, List.set_cons_zero, List.set_cons_succ]
            refine wpAnyH_take (i := 11) (oi := ⟨some 67, _, _, _, _, _⟩) (v := .agg #[.int .i64 k', .int .i64 n', .string s', .slice A' l'.length (capF l'.length c')]) rfl (by kernel_rfl) (by kernel_rfl) (by kernel_rfl) (fun _ _ _ h => h) (.inl ⟨by kernel_rfl, fun W hW => by first | (obtain ⟨a0, a1, a2, a3, b0, b1, b2, b3, c0, c1, c2, c3⟩ := hW; go_simp; done) | (obtain ⟨a0, a1, a2, a3, b0, b1, b2, b3, c0, c1, c2, c3⟩ := hW; go_simp; omega) | (obtain ⟨a0, a1, a2, a3, b0, b1, b2, b3, c0, c1, c2, c3⟩ := hW; go_simp; simp [*]; done)⟩) hS2 ?_
            try simp only [Act.put, List.setIfInBounds_toArray, List.set_cons_zero, List.set_cons_succ]
            refine wpAnyH_ready (rs := [10]) (by kernel_rfl) (by simp) (AllReadyH.cons rfl (fun K hK => ?_) AllReadyH.nil)
            go_simp
            refine (HDA.out _ hd2).mono ?_
            rintro e u3 ⟨rfl, hd3⟩
            refine hK.out _ _ (HS.out _ hd3) (fun hS3 => ?_)
            clear hK K
            try simp only [Act.put, List.setIfInBounds_toArray, List.set_cons_zero, List.set_cons_succ]
            refine wpAnyH_ready (rs := [12]) (by kernel_rfl) (by simp) (AllReadyH.cons rfl (fun K hK => ?_) AllReadyH.nil)
            go_simp
            refine (HDB.out _ hd3).mono ?_
            rintro e u4 ⟨rfl, hd4⟩
            refine hK.out _ _ (HS.out _ hd4) (fun hS4 => ?_)
            clear hK K
            try simp only [Act.put, List.setIfInBounds_toArray, List.set_cons_zero, List.set_cons_succ]
            refine wpAnyH_take (i := 13) (oi := ⟨some 69, _, _, _, _, _⟩) (v := .bool true) rfl (by kernel_rfl) (by kernel_rfl) (by kernel_rfl) (fun _ _ _ h => h) (.inl ⟨by kernel_rfl, fun W hW => by first | (obtain ⟨a0, a1, a2, a3, b0, b1, b2, b3, c0, c1, c2, c3⟩ := hW; go_simp; done) | (obtain ⟨a0, a1, a2, a3, b0, b1, b2, b3, c0, c1, c2, c3⟩ := hW; go_simp; omega) | (obtain ⟨a0, a1, a2, a3, b0, b1, b2, b3, c0, c1, c2, c3⟩ := hW; go_simp; simp [*]; done)⟩) hS4 ?_
            try simp only [Act.put, List.setIfInBounds_toArray, List.set_cons_zero, List.set_cons_succ]
            refine wpAnyH_take (i := 14) (oi := ⟨some 70, _, _, _, _, _⟩) (v := .bool true) rfl (by kernel_rfl) (by kernel_rfl) (by kernel_rfl) (fun _ _ _ h => h) (.inl ⟨by kernel_rfl, fun W hW => by kernel_rfl⟩) hS4 ?_
            try simp only [Act.put, List.setIfInBounds_toArray, List.set_cons_zero, List.set_cons_succ]
            refine wpAnyH_take (i := 15) (oi := ⟨some 71, _, _, _, _, _⟩) (v := .bool true) rfl (by kernel_rfl) (by kernel_rfl) (by kernel_rfl) (fun _ _ _ h => h) (.inl ⟨by kernel_rfl, fun W hW => by kernel_rfl⟩) hS4 ?_
            try simp only [Act.put, List.setIfInBounds_toArray, List.set_cons_zero, List.set_cons_succ]
            refine wpAnyH_take (i := 16) (oi := ⟨some 72, _, _, _, _, _⟩) (v := .agg #[.int .i64 k, .int .i64 n, .string s, .slice A l.length (capF l.length c)]) rfl (by kernel_rfl) (by kernel_rfl) (by kernel_rfl) (fun _ _ _ h => h) (.inl ⟨by kernel_rfl, fun W hW => by first | (obtain ⟨a0, a1, a2, a3, b0, b1, b2, b3, c0, c1, c2, c3⟩ := hW; go_simp; done) | (obtain ⟨a0, a1, a2, a3, b0, b1, b2, b3, c0, c1, c2, c3⟩ := hW; go_simp; omega) | (obtain ⟨a0, a1, a2, a3, b0, b1, b2, b3, c0, c1, c2, c3⟩ := hW; go_simp; simp [*]; done)⟩) hS4 ?_
            try simp only [Act.put, List.setIfInBounds_toArray, List.set_cons_zero, List.set_cons_succ]
            refine wpAnyH_take (i := 18) (oi := ⟨some 74, _, _, _, _, _⟩) (v := .agg #[.int .i64 k', .int .i64 n', .string s', .slice A' l'.length (capF l'.length c')]) rfl (by kernel_rfl) (by kernel_rfl) (by kernel_rfl) (fun _ _ _ h => h) (.inl ⟨by kernel_rfl, fun W hW => by first | (obtain ⟨a0, a1, a2, a3, b0, b1, b2, b3, c0, c1, c2, c3⟩ := hW; go_simp; done) | (obtain ⟨a0, a1, a2, a3, b0, b1, b2, b3, c0, c1, c2, c3⟩ := hW; go_simp; omega) | (obtain ⟨a0, a1, a2, a3, b0, b1, b2, b3, c0, c1, c2, c3⟩ := hW; go_simp; simp [*]; done)⟩) hS4 ?_
            try simp only [Act.put, List.setIfInBounds_toArray, List.set_cons_zero, List.set_cons_succ]
            refine wpAnyH_ready (rs := [17]) (by kernel_rfl) (by simp) (AllReadyH.cons rfl (fun K hK => ?_) AllReadyH.nil)
            go_simp
            refine (HMA.out _ hd4).mono ?_
            rintro e u5 ⟨rfl, hd5⟩
            refine hK.out _ _ (HS.out _ hd5) (fun hS5 => ?_)
            clear hK K
            try simp only [Act.put, List.setIfInBounds_toArray, List.set_cons_zero, List.set_cons_succ]
            refine wpAnyH_ready (rs := [19]) (by kernel_rfl) (by simp) (AllReadyH.cons rfl (fun K hK => ?_) AllReadyH.nil)
            go_simp
            refine (HMB.out _ hd5).mono ?_
            rintro e u6 ⟨rfl, hd6⟩
            refine hK.out _ _ (HS.out _ hd6) (fun hS6 => ?_)
            clear hK K
            try simp only [Act.put, List.setIfInBounds_toArray, List.set_cons_zero, List.set_cons_succ]
            refine wpAnyH_take (i := 20) (oi := ⟨some 76, _, _, _, _, _⟩) (v := .bool true) rfl (by kernel_rfl) (by kernel_rfl) (by kernel_rfl) (fun _ _ _ h => h) (.inl ⟨by kernel_rfl, fun W hW => by first | (obtain ⟨a0, a1, a2, a3, b0, b1, b2, b3, c0, c1, c2, c3⟩ := hW; go_simp; done) | (obtain ⟨a0, a1, a2, a3, b0, b1, b2, b3, c0, c1, c2, c3⟩ := hW; go_simp; omega) | (obtain ⟨a0, a1, a2, a3, b0, b1, b2, b3, c0, c1, c2, c3⟩ := hW; go_simp; simp [*]; done)⟩) hS6 ?_
            try simp only [Act.put, List.setIfInBounds_toArray, List.set_cons_zero, List.set_cons_succ]
            refine wpAnyH_take (i := 21) (oi := ⟨some 77, _, _, _, _, _⟩) (v := .bool true) rfl (by kernel_rfl) (by kernel_rfl) (by kernel_rfl) (fun _ _ _ h => h) (.inl ⟨by kernel_rfl, fun W hW => by kernel_rfl⟩) hS6 ?_
            try simp only [Act.put, List.setIfInBounds_toArray, List.set_cons_zero, List.set_cons_succ]
            refine wpAnyH_take (i := 22) (oi := ⟨some 78, _, _, _, _, _⟩) (v := .bool true) rfl (by kernel_rfl) (by kernel_rfl) (by kernel_rfl) (fun _ _ _ h => h) (.inl ⟨by kernel_rfl, fun W hW => by kernel_rfl⟩) hS6 ?_
            try simp only [Act.put, List.setIfInBounds_toArray, List.set_cons_zero, List.set_cons_succ]
            refine wpAnyH_take (i := 23) (oi := ⟨some 79, _, _, _, _, _⟩) (v := .agg #[.int .i64 k, .int .i64 n, .string s, .slice A l.length (capF l.length c)]) rfl (by kernel_rfl) (by kernel_rfl) (by kernel_rfl) (fun _ _ _ h => h) (.inl ⟨by kernel_rfl, fun W hW => by first | (obtain ⟨a0, a1, a2, a3, b0, b1, b2, b3, c0, c1, c2, c3⟩ := hW; go_simp; done) | (obtain ⟨a0, a1, a2, a3, b0, b1, b2, b3, c0, c1, c2, c3⟩ := hW; go_simp; omega) | (obtain ⟨a0, a1, a2, a3, b0, b1, b2, b3, c0, c1, c2, c3⟩ := hW; go_simp; simp [*]; done)⟩) hS6 ?_
            try simp only [Act.put, List.setIfInBounds_toArray, List.set_cons_zero, List.set_cons_succ]
            refine wpAnyH_take (i := 25) (oi := ⟨some 81, _, _, _, _, _⟩) (v := .agg #[.int .i64 k', .int .i64 n', .string s', .slice A' l'.length (capF l'.length c')]) rfl (by kernel_rfl) (by kernel_rfl) (by kernel_rfl) (fun _ _ _ h => h) (.inl ⟨by kernel_rfl, fun W hW => by first | (obtain ⟨a0, a1, a2, a3, b0, b1, b2, b3, c0, c1, c2, c3⟩ := hW; go_simp; done) | (obtain ⟨a0, a1, a2, a3, b0, b1, b2, b3, c0, c1, c2, c3⟩ := hW; go_simp; omega) | (obtain ⟨a0, a1, a2, a3, b0, b1, b2, b3, c0, c1, c2, c3⟩ := hW; go_simp; simp [*]; done)⟩) hS6 ?_
            try simp only [Act.put, List.setIfInBounds_toArray, List.set_cons_zero, List.set_cons_succ]
            refine wpAnyH_ready (rs := [24]) (by kernel_rfl) (by simp) (AllReadyH.cons rfl (fun K hK => ?_) AllReadyH.nil)
            go_simp
            refine (HTA.out _ hd6).mono ?_
            rintro e u7 ⟨rfl, hd7⟩
            refine hK.out _ _ (HS.out _ hd7) (fun hS7 => ?_)
            clear hK K
            try simp only [Act.put, List.setIfInBounds_toArray, List.set_cons_zero, List.set_cons_succ]
            refine wpAnyH_ready (rs := [26]) (by kernel_rfl) (by simp) (AllReadyH.cons rfl (fun K hK => ?_) AllReadyH.nil)
            go_simp
            refine (HTB.out _ hd7).mono ?_
            rintro e u8 ⟨rfl, hd8⟩
            refine hK.out _ _ (HS.out _ hd8) (fun hS8 => ?_)
            clear hK K
            try simp only [Act.put, List.setIfInBounds_toArray, List.set_cons_zero, List.set_cons_succ]
            refine wpAnyH_take (i := 27) (oi := ⟨some 83, _, _, _, _, _⟩) (v := .bool true) rfl (by kernel_rfl) (by kernel_rfl) (by kernel_rfl) (fun _ _ _ h => h) (.inl ⟨by kernel_rfl, fun W hW => by first | (obtain ⟨a0, a1, a2, a3, b0, b1, b2, b3, c0, c1, c2, c3⟩ := hW; go_simp; done) | (obtain ⟨a0, a1, a2, a3, b0, b1, b2, b3, c0, c1, c2, c3⟩ := hW; go_simp; omega) | (obtain ⟨a0, a1, a2, a3, b0, b1, b2, b3, c0, c1, c2, c3⟩ := hW; go_simp; simp [*]; done)⟩) hS8 ?_
            try simp only [Act.put, List.setIfInBounds_toArray, List.set_cons_zero, List.set_cons_succ]
            refine wpAnyH_take (i := 28) (oi := ⟨some 84, _, _, _, _, _⟩) (v := .bool true) rfl (by kernel_rfl) (by kernel_rfl) (by kernel_rfl) (fun _ _ _ h => h) (.inl ⟨by kernel_rfl, fun W hW => by kernel_rfl⟩) hS8 ?_
            try simp only [Act.put, List.setIfInBounds_toArray, List.set_cons_zero, List.set_cons_succ]
            refine wpAnyH_take (i := 29) (oi := ⟨some 85, _, _, _, _, _⟩) (v := .bool true) rfl (by kernel_rfl) (by kernel_rfl) (by kernel_rfl) (fun _ _ _ h => h) (.inl ⟨by kernel_rfl, fun W hW => by kernel_rfl⟩) hS8 ?_
            try simp only [Act.put, List.setIfInBounds_toArray, List.set_cons_zero, List.set_cons_succ]
            refine wpAnyH_take (i := 30) (oi := ⟨some 6, _, _, _, _, _⟩) (v := .bool true) rfl (by kernel_rfl) (by kernel_rfl) (by kernel_rfl) (fun _ _ _ h => h) (.inl ⟨by kernel_rfl, fun W hW => by kernel_rfl⟩) hS8 ?_
            try simp only [Act.put, List.setIfInBounds_toArray, List.set_cons_zero, List.set_cons_succ]
            refine wpAnyH_done (by kernel_rfl) ?_ _
            go_wp2_with fail
            go_ret
            exact ⟨rfl, HXa.out.bw.trans (hd8.mono HXa.out.bw.size)⟩
          · rw [hy] at HBC
            have HSBC := Lib.hid hy
            clear hy
            refine wp_region_held_drew (S := (fun V' => (V'.cell? ⟨w.heap.size, 0, none⟩ = some (.int .i64 k) ∧ V'.cell? ⟨w.heap.size, 1, none⟩ = some (.int .i64 n) ∧ V'.cell? ⟨w.heap.size, 2, none⟩ = some (.string s) ∧ V'.cell? ⟨w.heap.size, 3, none⟩ = some (.slice A l.length (capF l.length c)) ∧ V'.cell? ⟨w.heap.size + 1, 0, none⟩ = some (.int .i64 k') ∧ V'.cell? ⟨w.heap.size + 1, 1, none⟩ = some (.int .i64 n') ∧ V'.cell? ⟨w.heap.size + 1, 2, none⟩ = some (.string s') ∧ V'.cell? ⟨w.heap.size + 1, 3, none⟩ = some (.slice A' l'.length (capF l'.length c')) ∧ V'.cell? ⟨w.heap.size + 1 + 1, 0, none⟩ = some (.int .i64 k'') ∧ V'.cell? ⟨w.heap.size + 1 + 1, 1, none⟩ = some (.int .i64 n'') ∧ V'.cell? ⟨w.heap.size + 1 + 1, 2, none⟩ = some (.string s'') ∧ V'.cell? ⟨w.heap.size + 1 + 1, 3, none⟩ = some (.slice A'' l''.length (capF l''.length c''))))) rfl hS0 (fun hSs => ?_)
            change wpAnyH _ _ _ _ _ 8 (Array.replicate 8 false) _ _
            refine wpAnyH_take (i := 0) (oi := ⟨some 27, _, _, _, _, _⟩) (v := .agg #[.int .i64 k, .int .i64 n, .string s, .slice A l.length (capF l.length c)]) rfl (by kernel_rfl) (by kernel_rfl) (by kernel_rfl) (fun _ _ _ h => h) (.inl ⟨by kernel_rfl, fun W hW => by first | (obtain ⟨a0, a1, a2, a3, b0, b1, b2, b3, c0, c1, c2, c3⟩ := hW; go_simp; done) | (obtain ⟨a0, a1, a2, a3, b0, b1, b2, b3, c0, c1, c2, c3⟩ := hW; go_simp; omega) | (obtain ⟨a0, a1, a2, a3, b0, b1, b2, b3, c0, c1, c2, c3⟩ := hW; go_simp; simp [*]; done)⟩) hSs ?_
            try simp only [Act.put, List.setIfInBounds_toArray, List.set_cons_zero, List.set_cons_succ]
            refine wpAnyH_take (i := 1) (oi := ⟨some 28, _, _, _, _, _⟩) (v := .agg #[.int .i64 k', .int .i64 n', .string s', .slice A' l'.length (capF l'.length c')]) rfl (by kernel_rfl) (by kernel_rfl) (by kernel_rfl) (fun _ _ _ h => h) (.inl ⟨by kernel_rfl, fun W hW => by first | (obtain ⟨a0, a1, a2, a3, b0, b1, b2, b3, c0, c1, c2, c3⟩ := hW; go_simp; done) | (obtain ⟨a0, a1, a2, a3, b0, b1, b2, b3, c0, c1, c2, c3⟩ := hW; go_simp; omega) | (obtain ⟨a0, a1, a2, a3, b0, b1, b2, b3, c0, c1, c2, c3⟩ := hW; go_simp; simp [*]; done)⟩) hSs ?_
            try simp only [Act.put, List.setIfInBounds_toArray, List.set_cons_zero, List.set_cons_succ]
            refine wpAnyH_take (i := 3) (oi := ⟨some 30, _, _, _, _, _⟩) (v := .agg #[.int .i64 k', .int .i64 n', .string s', .slice A' l'.length (capF l'.length c')]) rfl (by kernel_rfl) (by kernel_rfl) (by kernel_rfl) (fun _ _ _ h => h) (.inl ⟨by kernel_rfl, fun W hW => by first | (obtain ⟨a0, a1, a2, a3, b0, b1, b2, b3, c0, c1, c2, c3⟩ := hW; go_simp; done) | (obtain ⟨a0, a1, a2, a3, b0, b1, b2, b3, c0, c1, c2, c3⟩ := hW; go_simp; omega) | (obtain ⟨a0, a1, a2, a3, b0, b1, b2, b3, c0, c1, c2, c3⟩ := hW; go_simp; simp [*]; done)⟩) hSs ?_
            try simp only [Act.put, List.setIfInBounds_toArray, List.set_cons_zero, List.set_cons_succ]
            refine wpAnyH_take (i := 4) (oi := ⟨some 31, _, _, _, _, _⟩) (v := .agg #[.int .i64 k'', .int .i64 n'', .string s'', .slice A'' l''.length (capF l''.length c'')]) rfl (by kernel_rfl) (by kernel_rfl) (by kernel_rfl) (fun _ _ _ h => h) (.inl ⟨by kernel_rfl, fun W hW => by first | (obtain ⟨a0, a1, a2, a3, b0, b1, b2, b3, c0, c1, c2, c3⟩ := hW; go_simp; done) | (obtain ⟨a0, a1, a2, a3, b0, b1, b2, b3, c0, c1, c2, c3⟩ := hW; go_simp; omega) | (obtain ⟨a0, a1, a2, a3, b0, b1, b2, b3, c0, c1, c2, c3⟩ := hW; go_simp; simp [*]; done)⟩) hSs ?_
            try simp only [Act.put, List.setIfInBounds_toArray, List.set_cons_zero, List.set_cons_succ]
            refine wpAnyH_ready (rs := [2]) (by kernel_rfl) (by simp) (AllReadyH.cons rfl (fun K hK => ?_) AllReadyH.nil)
            go_simp
            refine (HAB.out _ hd0).mono ?_
            rintro e u1 ⟨rfl, hd1⟩
            refine hK.out _ _ (HS.out _ hd1) (fun hS1 => ?_)
            clear hK K
            try simp only [Act.put, List.setIfInBounds_toArray, List.set_cons_zero, List.set_cons_succ]
            refine wpAnyH_ready (rs := [5]) (by kernel_rfl) (by simp) (AllReadyH.cons rfl (fun K hK => ?_) AllReadyH.nil)
            go_simp
            refine (HBC.out _ hd1).mono ?_
            rintro e u2 ⟨rfl, hd2⟩
            refine hK.out _ _ (HS.out _ hd2) (fun hS2 => ?_)
            clear hK K
            try simp only [Act.put, List.setIfInBounds_toArray, List.set_cons_zero, List.set_cons_succ]
            refine wpAnyH_take (i := 6) (oi := ⟨some 7, _, _, _, _, _⟩) (v := .bool true) rfl (by kernel_rfl) (by kernel_rfl) (by kernel_rfl) (fun _ _ _ h => h) (.inl ⟨by kernel_rfl, fun W hW => by kernel_rfl⟩) hS2 ?_
            try simp only [Act.put, List.setIfInBounds_toArray, List.set_cons_zero, List.set_cons_succ]
            refine wpAnyH_take (i := 7) (oi := ⟨some 8, _, _, _, _, _⟩) (v := .bool true) rfl (by kernel_rfl) (by kernel_rfl) (by kernel_rfl) (fun _ _ _ h => h) (.inl ⟨by kernel_rfl, fun W hW => by kernel_rfl⟩) hS2 ?_
            try simp only [Act.put, List.setIfInBounds_toArray, List.set_cons_zero, List.set_cons_succ]
            refine wpAnyH_done (by kernel_rfl) ?_ _
            have HXa := Lib.hid (HXa.out.step hd2)
            have HXb := Lib.hid (HXb.out.step hd2)
            have HXc := Lib.hid (HXc.out.step hd2)
            clear HS hS0 HAB HBC hSs hS1 hS2
            obtain ⟨a0, a1, a2, a3⟩ := HXa.out.four
            obtain ⟨b0, b1, b2, b3⟩ := HXb.out.four
            obtain ⟨c0, c1, c2, c3⟩ := HXc.out.four
            have HBA := (by have := HXb.out.same HXa.out; rw [sameE_comm, HSAB.out] at this; exact Lib.hid this)
            go_wp2_with fail
            refine HBA.out.mono ?_
            rintro e V4 ⟨rfl, hb4⟩
            have HXa := Lib.hid (HXa.out.step hb4)
            have HXb := Lib.hid (HXb.out.step hb4)
            have HXc := Lib.hid (HXc.out.step hb4)
            clear hb4 HBA
            clear a0 a1 a2 a3
            clear b0 b1 b2 b3
            clear c0 c1 c2 c3
            obtain ⟨a0, a1, a2, a3⟩ := HXa.out.four
            obtain ⟨b0, b1, b2, b3⟩ := HXb.out.four
            obtain ⟨c0, c1, c2, c3⟩ := HXc.out.four
            have HAA := (by have := HXa.out.same HXa.out; rw [sameE_refl] at this; exact Lib.hid this)
            go_wp2_with fail
            refine HAA.out.mono ?_
            rintro e V5 ⟨rfl, hb5⟩
            have HXa := Lib.hid (HXa.out.step hb5)
            have HXb := Lib.hid (HXb.out.step hb5)
            have HXc := Lib.hid (HXc.out.step hb5)
            clear hb5 HAA
            clear a0 a1 a2 a3
            clear b0 b1 b2 b3
            clear c0 c1 c2 c3
            obtain ⟨a0, a1, a2, a3⟩ := HXa.out.four
            obtain ⟨b0, b1, b2, b3⟩ := HXb.out.four
            obtain ⟨c0, c1, c2, c3⟩ := HXc.out.four
            have HAC := (by have := HXa.out.same HXc.out; rw [sameE_trans HSAB.out HSBC.out] at this; exact Lib.hid this)
            go_wp2_with fail
            refine HAC.out.mono ?_
            rintro e V6 ⟨rfl, hb6⟩
            have HXa := Lib.hid (HXa.out.step hb6)
            have HXb := Lib.hid (HXb.out.step hb6)
            have HXc := Lib.hid (HXc.out.step hb6)
            clear hb6 HAC
            clear a0 a1 a2 a3
            clear b0 b1 b2 b3
            clear c0 c1 c2 c3
            obtain ⟨a0, a1, a2, a3⟩ := HXa.out.four
            obtain ⟨b0, b1, b2, b3⟩ := HXb.out.four
            obtain ⟨c0, c1, c2, c3⟩ := HXc.out.four
            go_upto_region 6 with fail
            clear a0 a1 a2 a3
            clear b0 b1 b2 b3
            clear c0 c1 c2 c3
            have hd0 : Below V6.heap.size V6 V6.drew := (Below.refl _ V6).drew
            have HS := Lib.hid (fun (V' : World) (h : Below V6.heap.size V6 V') => (by have x := (HXa.out.step h).four; have y := (HXb.out.step h).four; have z := (HXc.out.step h).four; exact ⟨x.1, x.2.1, x.2.2.1, x.2.2.2, y.1, y.2.1, y.2.2.1, y.2.2.2, z.1, z.2.1, z.2.2.1, z.2.2.2⟩ : (fun V' => (V'.cell? ⟨w.heap.size, 0, none⟩ = some (.int .i64 k) ∧ V'.cell? ⟨w.heap.size, 1, none⟩ = some (.int .i64 n) ∧ V'.cell? ⟨w.heap.size, 2, none⟩ = some (.string s) ∧ V'.cell? ⟨w.heap.size, 3, none⟩ = some (.slice A l.length (capF l.length c)) ∧ V'.cell? ⟨w.heap.size + 1, 0, none⟩ = some (.int .i64 k') ∧ V'.cell? ⟨w.heap.size + 1, 1, none⟩ = some (.int .i64 n') ∧ V'.cell? ⟨w.heap.size + 1, 2, none⟩ = some (.string s') ∧ V'.cell? ⟨w.heap.size + 1, 3, none⟩ = some (.slice A' l'.length (capF l'.length c')) ∧ V'.cell? ⟨w.heap.size + 1 + 1, 0, none⟩ = some (.int .i64 k'') ∧ V'.cell? ⟨w.heap.size + 1 + 1, 1, none⟩ = some (.int .i64 n'') ∧ V'.cell? ⟨w.heap.size + 1 + 1, 2, none⟩ = some (.string s'') ∧ V'.cell? ⟨w.heap.size + 1 + 1, 3, none⟩ = some (.slice A'' l''.length (capF l''.length c'')))) V'))
            have hS0 := HS.out _ hd0
            have hab := sameE_eq _ _ HSAB.out
            have hta : (textE (.node k n s l)).length ≤ 99999990 := by
              have h1 := text_short _ (ein_rng _ HXa.out.tin)
              have h3 := HZa.out.1
              have h4 := HNA.out
              omega
            have hza : sizeE (.node k n s l) ≤ 100000 := by have := HZa.out; omega
            have hda : depthE (.node k n s l) ≤ 1000 := by have := HZa.out; omega
            have HZA := Lib.hid ((fun (V' : World) (h : Below V6.heap.size V6 V') => Calls.fromB h h.size ((HXa.out.step h).size hza)))
            have HZB := Lib.hid ((fun (V' : World) (h : Below V6.heap.size V6 V') => Calls.fromB h h.size (by have := (HXb.out.step h).size (by rw [← hab]; exact hza); rw [← hab] at this; exact this)))
            have HDA := Lib.hid ((fun (V' : World) (h : Below V6.heap.size V6 V') => Calls.fromB h h.size ((HXa.out.step h).depth hza)))
            have HDB := Lib.hid ((fun (V' : World) (h : Below V6.heap.size V6 V') => Calls.fromB h h.size (by have := (HXb.out.step h).depth (by rw [← hab]; exact hza); rw [← hab] at this; exact this)))
            have HMA := Lib.hid ((fun (V' : World) (h : Below V6.heap.size V6 V') => Calls.fromB h h.size ((HXa.out.step h).may hda 3)))
            have HMB := Lib.hid ((fun (V' : World) (h : Below V6.heap.size V6 V') => Calls.fromB h h.size (by have := (HXb.out.step h).may (by rw [← hab]; exact hda) 3; rw [← hab] at this; exact this)))
            have HTA := Lib.hid ((fun (V' : World) (h : Below V6.heap.size V6 V') => Calls.fromB h h.size ((HXa.out.step h).text hta)))
            have HTB := Lib.hid ((fun (V' : World) (h : Below V6.heap.size V6 V') => Calls.fromB h h.size (by have := (HXb.out.step h).text (by rw [← hab]; exact hta); rw [← hab] at this; exact this)))
            obtain ⟨SZ, hSZ⟩ : ∃ SZ, SZ = sizeE (.node k n s l) := ⟨_, rfl⟩
            obtain ⟨DZ, hDZ⟩ : ∃ DZ, DZ = depthE (.node k n s l) := ⟨_, rfl⟩
            obtain ⟨MB, hMB⟩ : ∃ MB, MB = mayV6 (.node k n s l) 3 := ⟨_, rfl⟩
            obtain ⟨TA, hTA⟩ : ∃ TA, TA = textE (.node k n s l) := ⟨_, rfl⟩
            rw [← hSZ] at HZA HZB
            rw [← hDZ] at HDA HDB
            rw [← hMB] at HMA HMB
            rw [← hTA] at HTA HTB
            clear hab hta hza hda hSZ hDZ hMB hTA
            refine wp_region_held_drew (S := (fun V' => (V'.cell? ⟨w.heap.size, 0, none⟩ = some (.int .i64 k) ∧ V'.cell? ⟨w.heap.size, 1, none⟩ = some (.int .i64 n) ∧ V'.cell? ⟨w.heap.size, 2, none⟩ = some (.string s) ∧ V'.cell? ⟨w.heap.size, 3, none⟩ = some (.slice A l.length (capF l.length c)) ∧ V'.cell? ⟨w.heap.size + 1, 0, none⟩ = some (.int .i64 k') ∧ V'.cell? ⟨w.heap.size + 1, 1, none⟩ = some (.int .i64 n') ∧ V'.cell? ⟨w.heap.size + 1, 2, none⟩ = some (.string s') ∧ V'.cell? ⟨w.heap.size + 1, 3, none⟩ = some (.slice A' l'.length (capF l'.length c')) ∧ V'.cell? ⟨w.heap.size + 1 + 1, 0, none⟩ = some (.int .i64 k'') ∧ V'.cell? ⟨w.heap.size + 1 + 1, 1, none⟩ = some (.int .i64 n'') ∧ V'.cell? ⟨w.heap.size + 1 + 1, 2, none⟩ = some (.string s'') ∧ V'.cell? ⟨w.heap.size + 1 + 1, 3, none⟩ = some (.slice A'' l''.length (capF l''.length c''))))) rfl hS0 (fun hSs => ?_)
            change wpAnyH _ _ _ _ _ 31 (Array.replicate 31 false) _ _
            refine wpAnyH_take (i := 0) (oi := ⟨some 56, _, _, _, _, _⟩) (v := .bool true) rfl (by kernel_rfl) (by kernel_rfl) (by kernel_rfl) (fun _ _ _ h => h) (.inl ⟨by kernel_rfl, fun W hW => by kernel_rfl⟩) hSs ?_
            try simp only [Act.put, List.setIfInBounds_toArray, List.set_cons_zero, List.set_cons_succ]
            refine wpAnyH_take (i := 1) (oi := ⟨some 57, _, _, _, _, _⟩) (v := .bool false) rfl (by kernel_rfl) (by kernel_rfl) (by kernel_rfl) (fun _ _ _ h => h) (.inl ⟨by kernel_rfl, fun W hW => by kernel_rfl⟩) hSs ?_
            try simp only [Act.put, List.setIfInBounds_toArray, List.set_cons_zero, List.set_cons_succ]
            refine wpAnyH_take (i := 2) (oi := ⟨some 58, _, _, _, _, _⟩) (v := .bool false) rfl (by kernel_rfl) (by kernel_rfl) (by kernel_rfl) (fun _ _ _ h => h) (.inl ⟨by kernel_rfl, fun W hW => by kernel_rfl⟩) hSs ?_
            try simp only [Act.put, List.setIfInBounds_toArray, List.set_cons_zero, List.set_cons_succ]
            refine wpAnyH_take (i := 3) (oi := ⟨some 59, _, _, _, _, _⟩) (v := .agg #[.int .i64 k, .int .i64 n, .string s, .slice A l.length (capF l.length c)]) rfl (by kernel_rfl) (by kernel_rfl) (by kernel_rfl) (fun _ _ _ h => h) (.inl ⟨by kernel_rfl, fun W hW => by first | (obtain ⟨a0, a1, a2, a3, b0, b1, b2, b3, c0, c1, c2, c3⟩ := hW; go_simp; done) | (obtain ⟨a0, a1, a2, a3, b0, b1, b2, b3, c0, c1, c2, c3⟩ := hW; go_simp; omega) | (obtain ⟨a0, a1, a2, a3, b0, b1, b2, b3, c0, c1, c2, c3⟩ := hW; go_simp; simp [*]; done)⟩) hSs ?_
            try simp only [Act.put, List.setIfInBounds_toArray, List.set_cons_zero, List.set_cons_succ]
            refine wpAnyH_take (i := 5) (oi := ⟨some 61, _, _, _, _, _⟩) (v := .agg #[.int .i64 k', .int .i64 n', .string s', .slice A' l'.length (capF l'.length c')]) rfl (by kernel_rfl) (by kernel_rfl) (by kernel_rfl) (fun _ _ _ h => h) (.inl ⟨by kernel_rfl, fun W hW => by first | (obtain ⟨a0, a1, a2, a3, b0, b1, b2, b3, c0, c1, c2, c3⟩ := hW; go_simp; done) | (obtain ⟨a0, a1, a2, a3, b0, b1, b2, b3, c0, c1, c2, c3⟩ := hW; go_simp; omega) | (obtain ⟨a0, a1, a2, a3, b0, b1, b2, b3, c0, c1, c2, c3⟩ := hW; go_simp; simp [*]; done)⟩) hSs ?_
            try simp only [Act.put, List.setIfInBounds_toArray, List.set_cons_zero, List.set_cons_succ]
            refine wpAnyH_ready (rs := [4]) (by kernel_rfl) (by simp) (AllReadyH.cons rfl (fun K hK => ?_) AllReadyH.nil)
            go_simp
            refine (HZA.out _ hd0).mono ?_
            rintro e u1 ⟨rfl, hd1⟩
            refine hK.out _ _ (HS.out _ hd1) (fun hS1 => ?_)
            clear hK K
            try simp only [Act.put, List.setIfInBounds_toArray, List.set_cons_zero, List.set_cons_succ]
            refine wpAnyH_ready (rs := [6]) (by kernel_rfl) (by simp) (AllReadyH.cons rfl (fun K hK => ?_) AllReadyH.nil)
            go_simp
            refine (HZB.out _ hd1).mono ?_
            rintro e u2 ⟨rfl, hd2⟩
            refine hK.out _ _ (HS.out _ hd2) (fun hS2 => ?_)
            clear hK K
            try simp only [Act.put, List.setIfInBounds_toArray, List.set_cons_zero, List.set_cons_succ]
            refine wpAnyH_take (i := 7) (oi := ⟨some 63, _, _, _, _, _⟩) (v := .bool true) rfl (by kernel_rfl) (by kernel_rfl) (by kernel_rfl) (fun _ _ _ h => h) (.inl ⟨by kernel_rfl, fun W hW => by first | (obtain ⟨a0, a1, a2, a3, b0, b1, b2, b3, c0, c1, c2, c3⟩ := hW; go_simp; done) | (obtain ⟨a0, a1, a2, a3, b0, b1, b2, b3, c0, c1, c2, c3⟩ := hW; go_simp; omega) | (obtain ⟨a0, a1, a2, a3, b0, b1, b2, b3, c0, c1, c2, c3⟩ := hW; go_simp; simp [*]; done)⟩) hS2 ?_
            try simp only [Act.put, List.setIfInBounds_toArray, List.set_cons_zero, List.set_cons_succ]
            refine wpAnyH_take (i := 8) (oi := ⟨some 64, _, _, _, _, _⟩) (v := .bool true) rfl (by kernel_rfl) (by kernel_rfl) (by kernel_rfl) (fun _ _ _ h => h) (.inl ⟨by kernel_rfl, fun W hW => by kernel_rfl⟩) hS2 ?_
            try simp only [Act.put, List.setIfInBounds_toArray, List.set_cons_zero, List.set_cons_succ]
            refine wpAnyH_take (i := 9) (oi := ⟨some 65, _, _, _, _, _⟩) (v := .agg #[.int .i64 k, .int .i64 n, .string s, .slice A l.length (capF l.length c)]) rfl (by kernel_rfl) (by kernel_rfl) (by kernel_rfl) (fun _ _ _ h => h) (.inl ⟨by kernel_rfl, fun W hW => by first | (obtain ⟨a0, a1, a2, a3, b0, b1, b2, b3, c0, c1, c2, c3⟩ := hW; go_simp; done) | (obtain ⟨a0, a1, a2, a3, b0, b1, b2, b3, c0, c1, c2, c3⟩ := hW; go_simp; omega) | (obtain ⟨a0, a1, a2, a3, b0, b1, b2, b3, c0, c1, c2, c3⟩ := hW; go_simp; simp [*]; done)⟩) hS2 ?_
            try simp only [Act.put, List.setIfInBounds_toArray, List.set_cons_zero, List.set_cons_succ]
            refine wpAnyH_take (i := 11) (oi := ⟨some 67, _, _, _, _, _⟩) (v := .agg #[.int .i64 k', .int .i64 n', .string s', .slice A' l'.length (capF l'.length c')]) rfl (by kernel_rfl) (by kernel_rfl) (by kernel_rfl) (fun _ _ _ h => h) (.inl ⟨by kernel_rfl, fun W hW => by first | (obtain ⟨a0, a1, a2, a3, b0, b1, b2, b3, c0, c1, c2, c3⟩ := hW; go_simp; done) | (obtain ⟨a0, a1, a2, a3, b0, b1, b2, b3, c0, c1, c2, c3⟩ := hW; go_simp; omega) | (obtain ⟨a0, a1, a2, a3, b0, b1, b2, b3, c0, c1, c2, c3⟩ := hW; go_simp; simp [*]; done)⟩) hS2 ?_
            try simp only [Act.put, List.setIfInBounds_toArray, List.set_cons_zero, List.set_cons_succ]
            refine wpAnyH_ready (rs := [10]) (by kernel_rfl) (by simp) (AllReadyH.cons rfl (fun K hK => ?_) AllReadyH.nil)
            go_simp
            refine (HDA.out _ hd2).mono ?_
            rintro e u3 ⟨rfl, hd3⟩
            refine hK.out _ _ (HS.out _ hd3) (fun hS3 => ?_)
            clear hK K
            try simp only [Act.put, List.setIfInBounds_toArray, List.set_cons_zero, List.set_cons_succ]
            refine wpAnyH_ready (rs := [12]) (by kernel_rfl) (by simp) (AllReadyH.cons rfl (fun K hK => ?_) AllReadyH.nil)
            go_simp
            refine (HDB.out _ hd3).mono ?_
            rintro e u4 ⟨rfl, hd4⟩
            refine hK.out _ _ (HS.out _ hd4) (fun hS4 => ?_)
            clear hK K
            try simp only [Act.put, List.setIfInBounds_toArray, List.set_cons_zero, List.set_cons_succ]
            refine wpAnyH_take (i := 13) (oi := ⟨some 69, _, _, _, _, _⟩) (v := .bool true) rfl (by kernel_rfl) (by kernel_rfl) (by kernel_rfl) (fun _ _ _ h => h) (.inl ⟨by kernel_rfl, fun W hW => by first | (obtain ⟨a0, a1, a2, a3, b0, b1, b2, b3, c0, c1, c2, c3⟩ := hW; go_simp; done) | (obtain ⟨a0, a1, a2, a3, b0, b1, b2, b3, c0, c1, c2, c3⟩ := hW; go_simp; omega) | (obtain ⟨a0, a1, a2, a3, b0, b1, b2, b3, c0, c1, c2, c3⟩ := hW; go_simp; simp [*]; done)⟩) hS4 ?_
            try simp only [Act.put, List.setIfInBounds_toArray, List.set_cons_zero, List.set_cons_succ]
            refine wpAnyH_take (i := 14) (oi := ⟨some 70, _, _, _, _, _⟩) (v := .bool true) rfl (by kernel_rfl) (by kernel_rfl) (by kernel_rfl) (fun _ _ _ h => h) (.inl ⟨by kernel_rfl, fun W hW => by kernel_rfl⟩) hS4 ?_
            try simp only [Act.put, List.setIfInBounds_toArray, List.set_cons_zero, List.set_cons_succ]
            refine wpAnyH_take (i := 15) (oi := ⟨some 71, _, _, _, _, _⟩) (v := .bool true) rfl (by kernel_rfl) (by kernel_rfl) (by kernel_rfl) (fun _ _ _ h => h) (.inl ⟨by kernel_rfl, fun W hW => by kernel_rfl⟩) hS4 ?_
            try simp only [Act.put, List.setIfInBounds_toArray, List.set_cons_zero, List.set_cons_succ]
            refine wpAnyH_take (i := 16) (oi := ⟨some 72, _, _, _, _, _⟩) (v := .agg #[.int .i64 k, .int .i64 n, .string s, .slice A l.length (capF l.length c)]) rfl (by kernel_rfl) (by kernel_rfl) (by kernel_rfl) (fun _ _ _ h => h) (.inl ⟨by kernel_rfl, fun W hW => by first | (obtain ⟨a0, a1, a2, a3, b0, b1, b2, b3, c0, c1, c2, c3⟩ := hW; go_simp; done) | (obtain ⟨a0, a1, a2, a3, b0, b1, b2, b3, c0, c1, c2, c3⟩ := hW; go_simp; omega) | (obtain ⟨a0, a1, a2, a3, b0, b1, b2, b3, c0, c1, c2, c3⟩ := hW; go_simp; simp [*]; done)⟩) hS4 ?_
            try simp only [Act.put, List.setIfInBounds_toArray, List.set_cons_zero, List.set_cons_succ]
            refine wpAnyH_take (i := 18) (oi := ⟨some 74, _, _, _, _, _⟩) (v := .agg #[.int .i64 k', .int .i64 n', .string s', .slice A' l'.length (capF l'.length c')]) rfl (by kernel_rfl) (by kernel_rfl) (by kernel_rfl) (fun _ _ _ h => h) (.inl ⟨by kernel_rfl, fun W hW => by first | (obtain ⟨a0, a1, a2, a3, b0, b1, b2, b3, c0, c1, c2, c3⟩ := hW; go_simp; done) | (obtain ⟨a0, a1, a2, a3, b0, b1, b2, b3, c0, c1, c2, c3⟩ := hW; go_simp; omega) | (obtain ⟨a0, a1, a2, a3, b0, b1, b2, b3, c0, c1, c2, c3⟩ := hW; go_simp; simp [*]; done)⟩) hS4 ?_
            try simp only [Act.put, List.setIfInBounds_toArray, List.set_cons_zero, List.set_cons_succ]
            refine wpAnyH_ready (rs := [17]) (by kernel_rfl) (by simp) (AllReadyH.cons rfl (fun K hK => ?_) AllReadyH.nil)
            go_simp
            refine (HMA.out _ hd4).mono ?_
            rintro e u5 ⟨rfl, hd5⟩
            refine hK.out _ _ (HS.out _ hd5) (fun hS5 => ?_)
            clear hK K
            try simp only [Act.put, List.setIfInBounds_toArray, List.set_cons_zero, List.set_cons_succ]
            refine wpAnyH_ready (rs := [19]) (by kernel_rfl) (by simp) (AllReadyH.cons rfl (fun K hK => ?_) AllReadyH.nil)
            go_simp
            refine (HMB.out _ hd5).mono ?_
            rintro e u6 ⟨rfl, hd6⟩
            refine hK.out _ _ (HS.out _ hd6) (fun hS6 => ?_)
            clear hK K
            try simp only [Act.put, List.setIfInBounds_toArray, List.set_cons_zero, List.set_cons_succ]
            refine wpAnyH_take (i := 20) (oi := ⟨some 76, _, _, _, _, _⟩) (v := .bool true) rfl (by kernel_rfl) (by kernel_rfl) (by kernel_rfl) (fun _ _ _ h => h) (.inl ⟨by kernel_rfl, fun W hW => by first | (obtain ⟨a0, a1, a2, a3, b0, b1, b2, b3, c0, c1, c2, c3⟩ := hW; go_simp; done) | (obtain ⟨a0, a1, a2, a3, b0, b1, b2, b3, c0, c1, c2, c3⟩ := hW; go_simp; omega) | (obtain ⟨a0, a1, a2, a3, b0, b1, b2, b3, c0, c1, c2, c3⟩ := hW; go_simp; simp [*]; done)⟩) hS6 ?_
            try simp only [Act.put, List.setIfInBounds_toArray, List.set_cons_zero, List.set_cons_succ]
            refine wpAnyH_take (i := 21) (oi := ⟨some 77, _, _, _, _, _⟩) (v := .bool true) rfl (by kernel_rfl) (by kernel_rfl) (by kernel_rfl) (fun _ _ _ h => h) (.inl ⟨by kernel_rfl, fun W hW => by kernel_rfl⟩) hS6 ?_
            try simp only [Act.put, List.setIfInBounds_toArray, List.set_cons_zero, List.set_cons_succ]
            refine wpAnyH_take (i := 22) (oi := ⟨some 78, _, _, _, _, _⟩) (v := .bool true) rfl (by kernel_rfl) (by kernel_rfl) (by kernel_rfl) (fun _ _ _ h => h) (.inl ⟨by kernel_rfl, fun W hW => by kernel_rfl⟩) hS6 ?_
            try simp only [Act.put, List.setIfInBounds_toArray, List.set_cons_zero, List.set_cons_succ]
            refine wpAnyH_take (i := 23) (oi := ⟨some 79, _, _, _, _, _⟩) (v := .agg #[.int .i64 k, .int .i64 n, .string s, .slice A l.length (capF l.length c)]) rfl (by kernel_rfl) (by kernel_rfl) (by kernel_rfl) (fun _ _ _ h => h) (.inl ⟨by kernel_rfl, fun W hW => by first | (obtain ⟨a0, a1, a2, a3, b0, b1, b2, b3, c0, c1, c2, c3⟩ := hW; go_simp; done) | (obtain ⟨a0, a1, a2, a3, b0, b1, b2, b3, c0, c1, c2, c3⟩ := hW; go_simp; omega) | (obtain ⟨a0, a1, a2, a3, b0, b1, b2, b3, c0, c1, c2, c3⟩ := hW; go_simp; simp [*]; done)⟩) hS6 ?_
            try simp only [Act.put, List.setIfInBounds_toArray, List.set_cons_zero, List.set_cons_succ]
            refine wpAnyH_take (i := 25) (oi := ⟨some 81, _, _, _, _, _⟩) (v := .agg #[.int .i64 k', .int .i64 n', .string s', .slice A' l'.length (capF l'.length c')]) rfl (by kernel_rfl) (by kernel_rfl) (by kernel_rfl) (fun _ _ _ h => h) (.inl ⟨by kernel_rfl, fun W hW => by first | (obtain ⟨a0, a1, a2, a3, b0, b1, b2, b3, c0, c1, c2, c3⟩ := hW; go_simp; done) | (obtain ⟨a0, a1, a2, a3, b0, b1, b2, b3, c0, c1, c2, c3⟩ := hW; go_simp; omega) | (obtain ⟨a0, a1, a2, a3, b0, b1, b2, b3, c0, c1, c2, c3⟩ := hW; go_simp; simp [*]; done)⟩) hS6 ?_
            try simp only [Act.put, List.setIfInBounds_toArray, List.set_cons_zero, List.set_cons_succ]
            refine wpAnyH_ready (rs := [24]) (by kernel_rfl) (by simp) (AllReadyH.cons rfl (fun K hK => ?_) AllReadyH.nil)
            go_simp
            refine (HTA.out _ hd6).mono ?_
            rintro e u7 ⟨rfl, hd7⟩
            refine hK.out _ _ (HS.out _ hd7) (fun hS7 => ?_)
            clear hK K
            try simp only [Act.put, List.setIfInBounds_toArray, List.set_cons_zero, List.set_cons_succ]
            refine wpAnyH_ready (rs := [26]) (by kernel_rfl) (by simp) (AllReadyH.cons rfl (fun K hK => ?_) AllReadyH.nil)
            go_simp
            refine (HTB.out _ hd7).mono ?_
            rintro e u8 ⟨rfl, hd8⟩
            refine hK.out _ _ (HS.out _ hd8) (fun hS8 => ?_)
            clear hK K
            try simp only [Act.put, List.setIfInBounds_toArray, List.set_cons_zero, List.set_cons_succ]
            refine wpAnyH_take (i := 27) (oi := ⟨some 83, _, _, _, _, _⟩) (v := .bool true) rfl (by kernel_rfl) (by kernel_rfl) (by kernel_rfl) (fun _ _ _ h => h) (.inl ⟨by kernel_rfl, fun W hW => by first | (obtain ⟨a0, a1, a2, a3, b0, b1, b2, b3, c0, c1, c2, c3⟩ := hW; go_simp; done) | (obtain ⟨a0, a1, a2, a3, b0, b1, b2, b3, c0, c1, c2, c3⟩ := hW; go_simp; omega) | (obtain ⟨a0, a1, a2, a3, b0, b1, b2, b3, c0, c1, c2, c3⟩ := hW; go_simp; simp [*]; done)⟩) hS8 ?_
            try simp only [Act.put, List.setIfInBounds_toArray, List.set_cons_zero, List.set_cons_succ]
            refine wpAnyH_take (i := 28) (oi := ⟨some 84, _, _, _, _, _⟩) (v := .bool true) rfl (by kernel_rfl) (by kernel_rfl) (by kernel_rfl) (fun _ _ _ h => h) (.inl ⟨by kernel_rfl, fun W hW => by kernel_rfl⟩) hS8 ?_
            try simp only [Act.put, List.setIfInBounds_toArray, List.set_cons_zero, List.set_cons_succ]
            refine wpAnyH_take (i := 29) (oi := ⟨some 85, _, _, _, _, _⟩) (v := .bool true) rfl (by kernel_rfl) (by kernel_rfl) (by kernel_rfl) (fun _ _ _ h => h) (.inl ⟨by kernel_rfl, fun W hW => by kernel_rfl⟩) hS8 ?_
            try simp only [Act.put, List.setIfInBounds_toArray, List.set_cons_zero, List.set_cons_succ]
            refine wpAnyH_take (i := 30) (oi := ⟨some 6, _, _, _, _, _⟩) (v := .bool true) rfl (by kernel_rfl) (by kernel_rfl) (by kernel_rfl) (fun _ _ _ h => h) (.inl ⟨by kernel_rfl, fun W hW => by kernel_rfl⟩) hS8 ?_
            try simp only [Act.put, List.setIfInBounds_toArray, List.set_cons_zero, List.set_cons_succ]
            refine wpAnyH_done (by kernel_rfl) ?_ _
            go_wp2_with fail
            go_ret
            exact ⟨rfl, HXa.out.bw.trans (hd8.mono HXa.out.bw.size)⟩
end Lx
end Go.Proofs.YteagbndjoklogaaDoor
