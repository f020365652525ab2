/-
  The law UseAffine, walked.
-/
import Derived.Test.YtcefopaphaeejaaC10
import Derived.Deep.RegionHeld3
import Derived.Deep.DrawnRows
namespace Go.Proofs.Ytcefopaphaeejaa
open Go Go.RowKit
namespace Lx
set_option maxRecDepth 100000
set_option maxHeartbeats 16000000 in
theorem useAffine_law (t : Te) (A0 : Option Addr) (c0 : Nat) (s : Te) (A1 : Option Addr) (c1 : Nat) (w : World) (hI : EIn w Any t A0) (hJ : EIn w Any s A1) :
    Calls Try.prog 7 #[ev t A0 c0, ev s A1 c1] w fun e w' => e = .returned (.bool true) ∧ Below w.heap.size w w' := by
  obtain ⟨tk, tn, tz, tl⟩ := t
  obtain ⟨sk, sn, sz, sl⟩ := s
  show Calls Try.prog 7 #[.agg #[.int .i64 tk, .int .i64 tn, .string tz, .slice A0 tl.length (capF tl.length c0)], .agg #[.int .i64 sk, .int .i64 sn, .string sz, .slice A1 sl.length (capF sl.length c1)]] w _
  have HX0 := Lib.hid ((Bx8.new (c := c0) hI (Below.refl _ w) rfl).old (.cells #[.int .i64 sk, .int .i64 sn, .string sz, .slice A1 sl.length (capF sl.length c1)] 24))
  have HX1 := Lib.hid (Bx8.new (c := c1) (g := w.heap.size + 1) hJ ((Below.refl _ w).alloc (Nat.le_refl _) (.cells #[.int .i64 tk, .int .i64 tn, .string tz, .slice A0 tl.length (capF tl.length c0)] 24)) (by simp))
  clear hI hJ
  go_enter Try.func7, Try.ntmps7
  go_wp2_with fail
  refine (fixed11_any _).mono ?_
  rintro e w2 ⟨rfl, hb2⟩
  replace HX0 := Lib.hid (HX0.out.step hb2)
  replace HX1 := Lib.hid (HX1.out.step hb2)
  clear hb2
  obtain ⟨d0, d1, d2, d3⟩ := HX0.out.four
  have HG := Lib.hid (HX0.out.small 100 (by omega) (by omega))
  cases hv : decide (0 ≤ fewE (.node tk tn tz tl) 100 600)
  · rw [hv] at HG
    clear hv
    go_wp2_with fail
    refine HG.out.mono ?_
    rintro e w3 ⟨rfl, hb3⟩
    clear HG d0 d1 d2 d3
    replace HX0 := Lib.hid (HX0.out.step hb3)
    replace HX1 := Lib.hid (HX1.out.step hb3)
    clear hb3
    go_wp2_with fail
    refine (fixed11_any w3).mono ?_
    rintro e w4 ⟨rfl, hb4⟩
    have hbw := HX0.out.bw.trans (hb4.mono HX0.out.bw.size)
    go_wp2_with fail
    go_ret
    exact ⟨rfl, hbw⟩
  · rw [hv] at HG
    have hm0 := small8 hv (by omega)
    clear hv
    go_wp2_with fail
    refine HG.out.mono ?_
    rintro e w3 ⟨rfl, hb3⟩
    clear HG d0 d1 d2 d3
    replace HX0 := Lib.hid (HX0.out.step hb3)
    replace HX1 := Lib.hid (HX1.out.step hb3)
    clear hb3
    obtain ⟨d0, d1, d2, d3⟩ := HX0.out.four
    obtain ⟨dd, hdd⟩ : ∃ d : Int, d = (depthE (.node tk tn tz tl) : Int) := ⟨_, rfl⟩
    have HG := Lib.hid (HX0.out.depth (by omega))
    rw [← hdd] at HG
    have hdd0 : 0 ≤ dd := by omega
    by_cases hc : 200 < dd
    · clear hdd
      go_wp2_with fail
      refine HG.out.mono ?_
      rintro e w5 ⟨rfl, hb5⟩
      clear HG d0 d1 d2 d3
      replace HX0 := Lib.hid (HX0.out.step hb5)
      replace HX1 := Lib.hid (HX1.out.step hb5)
      clear hb5
      go_wp2_with fail
      refine (fixed11_any w5).mono ?_
      rintro e w6 ⟨rfl, hb6⟩
      have hbw := HX0.out.bw.trans (hb6.mono HX0.out.bw.size)
      go_wp2_with fail
      go_ret
      exact ⟨rfl, hbw⟩
    · have HDD := Lib.hid hdd
      clear hdd
      go_wp2_with fail
      refine HG.out.mono ?_
      rintro e w5 ⟨rfl, hb5⟩
      clear HG d0 d1 d2 d3
      replace HX0 := Lib.hid (HX0.out.step hb5)
      replace HX1 := Lib.hid (HX1.out.step hb5)
      clear hb5
      obtain ⟨d0, d1, d2, d3⟩ := HX1.out.four
      have HG := Lib.hid (HX1.out.small 100 (by omega) (by omega))
      cases hv : decide (0 ≤ fewE (.node sk sn sz sl) 100 600)
      · rw [hv] at HG
        clear hv
        go_wp2_with fail
        refine HG.out.mono ?_
        rintro e w7 ⟨rfl, hb7⟩
        clear HG d0 d1 d2 d3
        replace HX0 := Lib.hid (HX0.out.step hb7)
        replace HX1 := Lib.hid (HX1.out.step hb7)
        clear hb7
        go_wp2_with fail
        refine (fixed11_any w7).mono ?_
        rintro e w8 ⟨rfl, hb8⟩
        have hbw := HX0.out.bw.trans (hb8.mono HX0.out.bw.size)
        go_wp2_with fail
        go_ret
        exact ⟨rfl, hbw⟩
      · rw [hv] at HG
        have hm1 := small8 hv (by omega)
        clear hv
        go_wp2_with fail
        refine HG.out.mono ?_
        rintro e w7 ⟨rfl, hb7⟩
        clear HG d0 d1 d2 d3
        replace HX0 := Lib.hid (HX0.out.step hb7)
        replace HX1 := Lib.hid (HX1.out.step hb7)
        clear hb7
        obtain ⟨d0, d1, d2, d3⟩ := HX1.out.four
        obtain ⟨dd, hdd⟩ : ∃ d : Int, d = (depthE (.node sk sn sz sl) : Int) := ⟨_, rfl⟩
        have HG := Lib.hid (HX1.out.depth (by omega))
        rw [← hdd] at HG
        have hdd0 : 0 ≤ dd := by omega
        by_cases hc : 200 < dd
        · clear hdd
          go_wp2_with fail
          refine HG.out.mono ?_
          rintro e w9 ⟨rfl, hb9⟩
          clear HG d0 d1 d2 d3
          replace HX0 := Lib.hid (HX0.out.step hb9)
          replace HX1 := Lib.hid (HX1.out.step hb9)
          clear hb9
          go_wp2_with fail
          refine (fixed11_any w9).mono ?_
          rintro e w10 ⟨rfl, hb10⟩
          have hbw := HX0.out.bw.trans (hb10.mono HX0.out.bw.size)
          go_wp2_with fail
          go_ret
          exact ⟨rfl, hbw⟩
        · have HDD := Lib.hid hdd
          clear hdd
          go_wp2_with fail
          refine HG.out.mono ?_
          rintro e w9 ⟨rfl, hb9⟩
          clear HG d0 d1 d2 d3
          replace HX0 := Lib.hid (HX0.out.step hb9)
          replace HX1 := Lib.hid (HX1.out.step hb9)
          clear hb9
          obtain ⟨d0, d1, d2, d3⟩ := HX0.out.four
          have HG := Lib.hid (rMay6_any (.node tk tn tz tl) A0 c0 4 _ HX0.out.tin (by omega) (by omega) (by omega))
          cases hv : mayQ (.node tk tn tz tl) 4 false
          · rw [hv] at HG
            clear hv
            go_wp2_with fail
            refine HG.out.mono ?_
            rintro e w11 ⟨rfl, hb11⟩
            clear HG d0 d1 d2 d3
            replace HX0 := Lib.hid (HX0.out.step hb11)
            replace HX1 := Lib.hid (HX1.out.step hb11)
            clear hb11
            go_wp2_with fail
            refine (fixed11_any w11).mono ?_
            rintro e w12 ⟨rfl, hb12⟩
            have hbw := HX0.out.bw.trans (hb12.mono HX0.out.bw.size)
            go_wp2_with fail
            go_ret
            exact ⟨rfl, hbw⟩
          · rw [hv] at HG
            have hmt := hv
            clear hv
            go_wp2_with fail
            refine HG.out.mono ?_
            rintro e w11 ⟨rfl, hb11⟩
            clear HG d0 d1 d2 d3
            replace HX0 := Lib.hid (HX0.out.step hb11)
            replace HX1 := Lib.hid (HX1.out.step hb11)
            clear hb11
            obtain ⟨d0, d1, d2, d3⟩ := HX1.out.four
            have HG := Lib.hid (rMay6_any (.node sk sn sz sl) A1 c1 4 _ HX1.out.tin (by omega) (by omega) (by omega))
            cases hv : mayQ (.node sk sn sz sl) 4 false
            · rw [hv] at HG
              clear hv
              go_wp2_with fail
              refine HG.out.mono ?_
              rintro e w13 ⟨rfl, hb13⟩
              clear HG d0 d1 d2 d3
              replace HX0 := Lib.hid (HX0.out.step hb13)
              replace HX1 := Lib.hid (HX1.out.step hb13)
              clear hb13
              go_wp2_with fail
              refine (fixed11_any w13).mono ?_
              rintro e w14 ⟨rfl, hb14⟩
              have hbw := HX0.out.bw.trans (hb14.mono HX0.out.bw.size)
              go_wp2_with fail
              go_ret
              exact ⟨rfl, hbw⟩
            · rw [hv] at HG
              have hms := hv
              clear hv
              go_wp2_with fail
              refine HG.out.mono ?_
              rintro e w13 ⟨rfl, hb13⟩
              clear HG d0 d1 d2 d3
              replace HX0 := Lib.hid (HX0.out.step hb13)
              replace HX1 := Lib.hid (HX1.out.step hb13)
              clear hb13
              have htt := may_tame hmt (by omega) (by omega)
              have hts := may_tame hms (by omega) (by omega)
              have HAV := Lib.hid (fun (i : Nat) (hi : i < tl.length) h => affB_part tk tn tz tl h i hi)
              have hlen : tl.length ≤ 100 := by have := sizeEL_len tl; have h9 := hm0.1; rw [sizeE] at h9; omega
              cases hav : affB (ofE (.node tk tn tz tl))
              · obtain ⟨W9, hW9⟩ : ∃ V, V = w13 := ⟨_, rfl⟩
                rw [← hW9] at HX0 HX1 ⊢
                clear hW9
                go_upto_region 4 with fail
                go_loopw [5] (fun x wr => ∃ i : Nat, i ≤ tl.length ∧ x = .int .i64 i ∧ Below W9.heap.size W9 wr) (fun x _ => tl.length - (intOf x).toNat)
                case atStart => exact ⟨0, Nat.zero_le _, rfl, Below.refl _ _⟩
                case round =>
                  obtain ⟨i, hi, rfl, hbr⟩ := hrel
                  replace HX0 := Lib.hid (HX0.out.step hbr)
                  replace HX1 := Lib.hid (HX1.out.step hbr)
                  obtain ⟨d0, d1, d2, d3⟩ := HX0.out.four
                  have HFT := Lib.hid (affine_any (.node tk tn tz tl) A0 c0 wr (by omega) (by omega) htt HX0.out.tin)
                  rw [hav] at HFT
                  by_cases hlt : i < tl.length
                  · go_wp2_with fail
                    refine HFT.out.mono ?_
                    rintro e w2 ⟨rfl, hb2⟩
                    go_wp2_with fail
                    go_roundw
                    case rel => exact ⟨i + 1, by omega, by go_num, hbr.trans (hb2.mono hbr.size)⟩
                    case measure => simp [intOf]; omega
                  · have hi9 : i = tl.length := by omega
                    obtain ⟨V9, hV9⟩ : ∃ V, V = wr := ⟨_, rfl⟩
                    rw [← hV9] at HX0 HX1 d0 d1 d2 d3 ⊢
                    clear hV9 hbr HFT
                    have hab : affB (ofE (appE (.node tk tn tz tl) (.node sk sn sz sl))) = false := by rw [ofE_app, affB_app, hav]; rfl
                    have hau : affB (ofE (lamE (.node tk tn tz tl))) = false := by rw [ofE_lam, affB_cons, hav]; simp
                    obtain ⟨fn, hfn⟩ : ∃ n, n = fansL (ofE (.node tk tn tz tl)) := ⟨_, rfl⟩
                    have hf0 : fn ≠ 0 := by rw [hfn]; have := affB_fans (ofE (.node tk tn tz tl)); rw [hav] at this; exact of_decide_eq_false this.symm
                    have hf1 : (fn == 0) = false := by simp [hf0]
                    have HFN0 := Lib.hid hfn
                    clear hfn
                    go_upto_region 8 with fail
                    obtain ⟨g0, hg0⟩ : ∃ g, g = w.heap.size := ⟨_, rfl⟩
                    obtain ⟨g1, hg1⟩ : ∃ g, g = w.heap.size + 1 := ⟨_, rfl⟩
                    have hx0 := HX0.out
                    have hx1 := HX1.out
                    rw [← hg0] at hx0
                    rw [← hg1] at hx1
                    rw [← hg1, ← hg0]
                    clear hg0 hg1 HX0 HX1
                    generalize V9 = V at hx0 hx1 ⊢
                    have ht0 := hx0.tin
                    have ht1 := hx1.tin
                    have HB := Lib.hid hx0.bw
                    have HSS : Hid (∀ V', Below V.heap.size V V' → (fun V' : World => (V'.cell? ⟨g0, 0, none⟩ = some (.int .i64 tk) ∧ V'.cell? ⟨g0, 1, none⟩ = some (.int .i64 tn) ∧ V'.cell? ⟨g0, 2, none⟩ = some (.string tz) ∧ V'.cell? ⟨g0, 3, none⟩ = some (.slice A0 tl.length (capF tl.length c0)) ∧ V'.cell? ⟨g1, 0, none⟩ = some (.int .i64 sk) ∧ V'.cell? ⟨g1, 1, none⟩ = some (.int .i64 sn) ∧ V'.cell? ⟨g1, 2, none⟩ = some (.string sz) ∧ V'.cell? ⟨g1, 3, none⟩ = some (.slice A1 sl.length (capF sl.length c1)))) V') := Lib.hid fun V' h =>
                      ⟨(h.cell (p := ⟨g0, 0, none⟩) hx0.box.lt).trans (hx0.box.cell 0), (h.cell (p := ⟨g0, 1, none⟩) hx0.box.lt).trans (hx0.box.cell 1), (h.cell (p := ⟨g0, 2, none⟩) hx0.box.lt).trans (hx0.box.cell 2), (h.cell (p := ⟨g0, 3, none⟩) hx0.box.lt).trans (hx0.box.cell 3), (h.cell (p := ⟨g1, 0, none⟩) hx1.box.lt).trans (hx1.box.cell 0), (h.cell (p := ⟨g1, 1, none⟩) hx1.box.lt).trans (hx1.box.cell 1), (h.cell (p := ⟨g1, 2, none⟩) hx1.box.lt).trans (hx1.box.cell 2), (h.cell (p := ⟨g1, 3, none⟩) hx1.box.lt).trans (hx1.box.cell 3)⟩
                    have HAP : Hid (∀ X, Below V.heap.size V X → ∀ (A : Option Addr) (c : Nat) (hA : EIn X Any (.node tk tn tz tl) A) (B : Option Addr) (d : Nat) (hB : EIn X Any (.node sk sn sz sl) B), Calls Try.prog 26 #[.agg #[.int .i64 tk, .int .i64 tn, .string tz, .slice A tl.length (capF tl.length c)], .agg #[.int .i64 sk, .int .i64 sn, .string sz, .slice B sl.length (capF sl.length d)]] X fun e w' => ∃ A c, e = .returned (.agg #[.int .i64 3, .int .i64 0, .string n0B, .slice A 2 (capF 2 c)]) ∧ EIn w' Any (appE (.node tk tn tz tl) (.node sk sn sz sl)) A ∧ Below X.heap.size X w') := Lib.hid fun X hX A c hA B d hB => appq_any (.node tk tn tz tl) (.node sk sn sz sl) A B c d X hA hB
                    have HLA : Hid (∀ X, Below V.heap.size V X → ∀ (A : Option Addr) (c : Nat) (hA : EIn X Any (.node tk tn tz tl) A), Calls Try.prog 25 #[.agg #[.int .i64 tk, .int .i64 tn, .string tz, .slice A tl.length (capF tl.length c)]] X fun e w' => ∃ A c, e = .returned (.agg #[.int .i64 2, .int .i64 0, .string n0B, .slice A 1 (capF 1 c)]) ∧ EIn w' Any (lamE (.node tk tn tz tl)) A ∧ Below X.heap.size X w') := Lib.hid fun X hX A c hA => lamq_any (.node tk tn tz tl) A c X hA
                    have HFT : Hid (∀ X, Below V.heap.size V X → ∀ (A : Option Addr) (c : Nat) (hA : EIn X Any (.node tk tn tz tl) A), Calls Try.prog 18 #[.agg #[.int .i64 tk, .int .i64 tn, .string tz, .slice A tl.length (capF tl.length c)]] X fun e w' => e = .returned (.bool false) ∧ Below X.heap.size X w') := Lib.hid fun X hX A c hA => by
                      have h := affine_any (.node tk tn tz tl) A c X (by omega) (by omega) htt hA
                      rw [hav] at h
                      exact h
                    have HFA : Hid (∀ X, Below V.heap.size V X → ∀ (A : Option Addr) (c : Nat) (hA : EIn X Any (appE (.node tk tn tz tl) (.node sk sn sz sl)) A), Calls Try.prog 18 #[.agg #[.int .i64 3, .int .i64 0, .string n0B, .slice A 2 (capF 2 c)]] X fun e w' => e = .returned (.bool false) ∧ Below X.heap.size X w') := Lib.hid fun X hX A c hA => by
                      have h := affine_any (appE (.node tk tn tz tl) (.node sk sn sz sl)) A c X (by have := depth_app (.node tk tn tz tl) (.node sk sn sz sl); omega) (by have := size_app (.node tk tn tz tl) (.node sk sn sz sl); omega) (tame_app htt hts) hA
                      rw [hab] at h
                      exact h
                    have HFL : Hid (∀ X, Below V.heap.size V X → ∀ (A : Option Addr) (c : Nat) (hA : EIn X Any (lamE (.node tk tn tz tl)) A), Calls Try.prog 18 #[.agg #[.int .i64 2, .int .i64 0, .string n0B, .slice A 1 (capF 1 c)]] X fun e w' => e = .returned (.bool false) ∧ Below X.heap.size X w') := Lib.hid fun X hX A c hA => by
                      have h := affine_any (lamE (.node tk tn tz tl)) A c X (by have := depth_lam (.node tk tn tz tl); omega) (by have := size_lam (.node tk tn tz tl); omega) (tame_lam htt) hA
                      rw [hau] at h
                      exact h
                    have HFN : Hid (∀ X, Below V.heap.size V X → ∀ (A : Option Addr) (c : Nat) (hA : EIn X Any (.node tk tn tz tl) A), Calls Try.prog 20 #[.agg #[.int .i64 tk, .int .i64 tn, .string tz, .slice A tl.length (capF tl.length c)]] X fun e w' => e = .returned (.int .i64 fn) ∧ Below X.heap.size X w') := Lib.hid fun X hX A c hA => by
                      have h := fans_any (.node tk tn tz tl) A c X (by omega) (by omega) htt hA
                      rw [← HFN0.out] at h
                      exact h
                    clear hx0 hx1
                    have hb_1 : Below V.heap.size V V := Below.refl _ _
                    refine wp_region_held_drew (S := (fun V' : World => (V'.cell? ⟨g0, 0, none⟩ = some (.int .i64 tk) ∧ V'.cell? ⟨g0, 1, none⟩ = some (.int .i64 tn) ∧ V'.cell? ⟨g0, 2, none⟩ = some (.string tz) ∧ V'.cell? ⟨g0, 3, none⟩ = some (.slice A0 tl.length (capF tl.length c0)) ∧ V'.cell? ⟨g1, 0, none⟩ = some (.int .i64 sk) ∧ V'.cell? ⟨g1, 1, none⟩ = some (.int .i64 sn) ∧ V'.cell? ⟨g1, 2, none⟩ = some (.string sz) ∧ V'.cell? ⟨g1, 3, none⟩ = some (.slice A1 sl.length (capF sl.length c1))))) rfl (HSS.out _ hb_1.drew) (fun hSs => ?_)
                    change wpAnyH _ _ _ _ _ 33 (Array.replicate 33 false) _ _
                    refine wpAnyH_take (i := 0) (oi := ⟨some 57, _, _, _, _, _⟩) (v := .agg #[.int .i64 tk, .int .i64 tn, .string tz, .slice A0 tl.length (capF tl.length c0)]) rfl (by kernel_rfl) (by kernel_rfl) (by kernel_rfl) (fun _ _ _ h => h) (.inl ⟨by kernel_rfl, fun W hW => by first | (obtain ⟨z0, z1, z2, z3, z4, z5, z6, z7⟩ := hW; go_simp; done) | (obtain ⟨z0, z1, z2, z3, z4, z5, z6, z7⟩ := hW; go_simp; omega) | (obtain ⟨z0, z1, z2, z3, z4, z5, z6, z7⟩ := hW; go_simp; exact IntWalk.i64_in _ (by omega)) | (obtain ⟨z0, z1, z2, z3, z4, z5, z6, z7⟩ := hW; go_simp; simp [*]; done)⟩) hSs ?_
                    try simp only [Act.put, List.setIfInBounds_toArray, List.set_cons_zero, List.set_cons_succ]
                    refine wpAnyH_take (i := 1) (oi := ⟨some 58, _, _, _, _, _⟩) (v := .agg #[.int .i64 sk, .int .i64 sn, .string sz, .slice A1 sl.length (capF sl.length c1)]) rfl (by kernel_rfl) (by kernel_rfl) (by kernel_rfl) (fun _ _ _ h => h) (.inl ⟨by kernel_rfl, fun W hW => by first | (obtain ⟨z0, z1, z2, z3, z4, z5, z6, z7⟩ := hW; go_simp; done) | (obtain ⟨z0, z1, z2, z3, z4, z5, z6, z7⟩ := hW; go_simp; omega) | (obtain ⟨z0, z1, z2, z3, z4, z5, z6, z7⟩ := hW; go_simp; exact IntWalk.i64_in _ (by omega)) | (obtain ⟨z0, z1, z2, z3, z4, z5, z6, z7⟩ := hW; go_simp; simp [*]; done)⟩) hSs ?_
                    try simp only [Act.put, List.setIfInBounds_toArray, List.set_cons_zero, List.set_cons_succ]
                    refine wpAnyH_take (i := 4) (oi := ⟨some 61, _, _, _, _, _⟩) (v := .agg #[.int .i64 tk, .int .i64 tn, .string tz, .slice A0 tl.length (capF tl.length c0)]) rfl (by kernel_rfl) (by kernel_rfl) (by kernel_rfl) (fun _ _ _ h => h) (.inl ⟨by kernel_rfl, fun W hW => by first | (obtain ⟨z0, z1, z2, z3, z4, z5, z6, z7⟩ := hW; go_simp; done) | (obtain ⟨z0, z1, z2, z3, z4, z5, z6, z7⟩ := hW; go_simp; omega) | (obtain ⟨z0, z1, z2, z3, z4, z5, z6, z7⟩ := hW; go_simp; exact IntWalk.i64_in _ (by omega)) | (obtain ⟨z0, z1, z2, z3, z4, z5, z6, z7⟩ := hW; go_simp; simp [*]; done)⟩) hSs ?_
                    try simp only [Act.put, List.setIfInBounds_toArray, List.set_cons_zero, List.set_cons_succ]
                    refine wpAnyH_ready (rs := [2]) (by kernel_rfl) (by simp) (AllReadyH.cons rfl (fun K hK => ?_) AllReadyH.nil)
                    go_simp
                    refine (HAP.out _ (hb_1.drew) A0 c0 (EIn.below _ ht0 (Below.refl _ _).drew (Nat.le_refl _)) A1 c1 (EIn.below _ ht1 (Below.refl _ _).drew (Nat.le_refl _))).mono ?_
                    rintro e u_2 ⟨A_2, c_2, rfl, hT_2, hq_2⟩
                    have hb_2 := (hb_1.drew).trans (hq_2.mono (hb_1.drew).size)
                    have ht0_2 := EIn.below _ (EIn.below _ ht0 (Below.refl _ _).drew (Nat.le_refl _)) hq_2 (Nat.le_refl _)
                    have ht1_2 := EIn.below _ (EIn.below _ ht1 (Below.refl _ _).drew (Nat.le_refl _)) hq_2 (Nat.le_refl _)
                    clear ht0 ht1
                    refine hK.out _ _ (HSS.out _ hb_2) (fun hS_2 => ?_)
                    clear hK K
                    try simp only [Act.put, List.setIfInBounds_toArray, List.set_cons_zero, List.set_cons_succ]
                    refine wpAnyH_ready (rs := [3]) (by kernel_rfl) (by simp) (AllReadyH.cons rfl (fun K hK => ?_) AllReadyH.nil)
                    go_simp
                    refine (HFA.out _ hb_2 A_2 c_2 hT_2).mono ?_
                    rintro e u_3 ⟨rfl, hq_3⟩
                    have hb_3 := hb_2.trans (hq_3.mono hb_2.size)
                    have ht0_2_3 := EIn.below _ ht0_2 hq_3 (Nat.le_refl _)
                    have ht1_2_3 := EIn.below _ ht1_2 hq_3 (Nat.le_refl _)
                    have hT_2_3 := EIn.below _ hT_2 hq_3 (Nat.le_refl _)
                    clear ht0_2 ht1_2 hT_2
                    refine hK.out _ _ (HSS.out _ hb_3) (fun hS_3 => ?_)
                    clear hK K
                    try simp only [Act.put, List.setIfInBounds_toArray, List.set_cons_zero, List.set_cons_succ]
                    refine wpAnyH_ready (rs := [5]) (by kernel_rfl) (by simp) (AllReadyH.cons rfl (fun K hK => ?_) AllReadyH.nil)
                    go_simp
                    refine (HFT.out _ hb_3 A0 c0 ht0_2_3).mono ?_
                    rintro e u_4 ⟨rfl, hq_4⟩
                    have hb_4 := hb_3.trans (hq_4.mono hb_3.size)
                    have ht0_2_3_4 := EIn.below _ ht0_2_3 hq_4 (Nat.le_refl _)
                    have ht1_2_3_4 := EIn.below _ ht1_2_3 hq_4 (Nat.le_refl _)
                    have hT_2_3_4 := EIn.below _ hT_2_3 hq_4 (Nat.le_refl _)
                    clear ht0_2_3 ht1_2_3 hT_2_3
                    refine hK.out _ _ (HSS.out _ hb_4) (fun hS_4 => ?_)
                    clear hK K
                    try simp only [Act.put, List.setIfInBounds_toArray, List.set_cons_zero, List.set_cons_succ]
                    refine wpAnyH_take (i := 6) (oi := ⟨some 63, _, _, _, _, _⟩) (v := .bool false) rfl (by kernel_rfl) (by kernel_rfl) (by kernel_rfl) (fun _ _ _ h => h) (.inl ⟨by kernel_rfl, fun W hW => by kernel_rfl⟩) hS_4 ?_
                    try simp only [Act.put, List.setIfInBounds_toArray, List.set_cons_zero, List.set_cons_succ]
                    refine wpAnyH_take (i := 7) (oi := ⟨some 64, _, _, _, _, _⟩) (v := undef) rfl (by kernel_rfl) (by kernel_rfl) (by kernel_rfl) (fun _ _ _ h => h) (.inr ⟨by kernel_rfl, rfl⟩) hS_4 ?_
                    try simp only [Act.put, List.setIfInBounds_toArray, List.set_cons_zero, List.set_cons_succ]
                    refine wpAnyH_take (i := 8) (oi := ⟨some 65, _, _, _, _, _⟩) (v := undef) rfl (by kernel_rfl) (by kernel_rfl) (by kernel_rfl) (fun _ _ _ h => h) (.inr ⟨by kernel_rfl, rfl⟩) hS_4 ?_
                    try simp only [Act.put, List.setIfInBounds_toArray, List.set_cons_zero, List.set_cons_succ]
                    refine wpAnyH_take (i := 9) (oi := ⟨some 66, _, _, _, _, _⟩) (v := .bool false) rfl (by kernel_rfl) (by kernel_rfl) (by kernel_rfl) (fun _ _ _ h => h) (.inl ⟨by kernel_rfl, fun W hW => by kernel_rfl⟩) hS_4 ?_
                    try simp only [Act.put, List.setIfInBounds_toArray, List.set_cons_zero, List.set_cons_succ]
                    refine wpAnyH_take (i := 10) (oi := ⟨some 67, _, _, _, _, _⟩) (v := .bool true) rfl (by kernel_rfl) (by kernel_rfl) (by kernel_rfl) (fun _ _ _ h => h) (.inl ⟨by kernel_rfl, fun W hW => by first | (obtain ⟨z0, z1, z2, z3, z4, z5, z6, z7⟩ := hW; go_simp; done) | (obtain ⟨z0, z1, z2, z3, z4, z5, z6, z7⟩ := hW; go_simp; omega) | (obtain ⟨z0, z1, z2, z3, z4, z5, z6, z7⟩ := hW; go_simp; exact IntWalk.i64_in _ (by omega)) | (obtain ⟨z0, z1, z2, z3, z4, z5, z6, z7⟩ := hW; go_simp; simp [*]; done)⟩) hS_4 ?_
                    try simp only [Act.put, List.setIfInBounds_toArray, List.set_cons_zero, List.set_cons_succ]
                    refine wpAnyH_take (i := 11) (oi := ⟨some 68, _, _, _, _, _⟩) (v := .bool true) rfl (by kernel_rfl) (by kernel_rfl) (by kernel_rfl) (fun _ _ _ h => h) (.inl ⟨by kernel_rfl, fun W hW => by kernel_rfl⟩) hS_4 ?_
                    try simp only [Act.put, List.setIfInBounds_toArray, List.set_cons_zero, List.set_cons_succ]
                    refine wpAnyH_take (i := 12) (oi := ⟨some 69, _, _, _, _, _⟩) (v := .agg #[.int .i64 tk, .int .i64 tn, .string tz, .slice A0 tl.length (capF tl.length c0)]) rfl (by kernel_rfl) (by kernel_rfl) (by kernel_rfl) (fun _ _ _ h => h) (.inl ⟨by kernel_rfl, fun W hW => by first | (obtain ⟨z0, z1, z2, z3, z4, z5, z6, z7⟩ := hW; go_simp; done) | (obtain ⟨z0, z1, z2, z3, z4, z5, z6, z7⟩ := hW; go_simp; omega) | (obtain ⟨z0, z1, z2, z3, z4, z5, z6, z7⟩ := hW; go_simp; exact IntWalk.i64_in _ (by omega)) | (obtain ⟨z0, z1, z2, z3, z4, z5, z6, z7⟩ := hW; go_simp; simp [*]; done)⟩) hS_4 ?_
                    try simp only [Act.put, List.setIfInBounds_toArray, List.set_cons_zero, List.set_cons_succ]
                    refine wpAnyH_take (i := 15) (oi := ⟨some 72, _, _, _, _, _⟩) (v := .agg #[.int .i64 tk, .int .i64 tn, .string tz, .slice A0 tl.length (capF tl.length c0)]) rfl (by kernel_rfl) (by kernel_rfl) (by kernel_rfl) (fun _ _ _ h => h) (.inl ⟨by kernel_rfl, fun W hW => by first | (obtain ⟨z0, z1, z2, z3, z4, z5, z6, z7⟩ := hW; go_simp; done) | (obtain ⟨z0, z1, z2, z3, z4, z5, z6, z7⟩ := hW; go_simp; omega) | (obtain ⟨z0, z1, z2, z3, z4, z5, z6, z7⟩ := hW; go_simp; exact IntWalk.i64_in _ (by omega)) | (obtain ⟨z0, z1, z2, z3, z4, z5, z6, z7⟩ := hW; go_simp; simp [*]; done)⟩) hS_4 ?_
                    try simp only [Act.put, List.setIfInBounds_toArray, List.set_cons_zero, List.set_cons_succ]
                    refine wpAnyH_ready (rs := [13]) (by kernel_rfl) (by simp) (AllReadyH.cons rfl (fun K hK => ?_) AllReadyH.nil)
                    rw [if_pos (by kernel_rfl)]
                    go_simp
                    refine (HLA.out _ hb_4 A0 c0 ht0_2_3_4).mono ?_
                    rintro e u_5 ⟨A_5, c_5, rfl, hT_5, hq_5⟩
                    have hb_5 := hb_4.trans (hq_5.mono hb_4.size)
                    have ht0_2_3_4_5 := EIn.below _ ht0_2_3_4 hq_5 (Nat.le_refl _)
                    have ht1_2_3_4_5 := EIn.below _ ht1_2_3_4 hq_5 (Nat.le_refl _)
                    have hT_2_3_4_5 := EIn.below _ hT_2_3_4 hq_5 (Nat.le_refl _)
                    clear ht0_2_3_4 ht1_2_3_4 hT_2_3_4
                    refine hK.out _ _ (HSS.out _ hb_5) (fun hS_5 => ?_)
                    clear hK K
                    try simp only [Act.put, List.setIfInBounds_toArray, List.set_cons_zero, List.set_cons_succ]
                    refine wpAnyH_ready (rs := [14]) (by kernel_rfl) (by simp) (AllReadyH.cons rfl (fun K hK => ?_) AllReadyH.nil)
                    rw [if_pos (by kernel_rfl)]
                    go_simp
                    refine (HFL.out _ hb_5 A_5 c_5 hT_5).mono ?_
                    rintro e u_6 ⟨rfl, hq_6⟩
                    have hb_6 := hb_5.trans (hq_6.mono hb_5.size)
                    have ht0_2_3_4_5_6 := EIn.below _ ht0_2_3_4_5 hq_6 (Nat.le_refl _)
                    have ht1_2_3_4_5_6 := EIn.below _ ht1_2_3_4_5 hq_6 (Nat.le_refl _)
                    have hT_2_3_4_5_6 := EIn.below _ hT_2_3_4_5 hq_6 (Nat.le_refl _)
                    have hT_5_6 := EIn.below _ hT_5 hq_6 (Nat.le_refl _)
                    clear ht0_2_3_4_5 ht1_2_3_4_5 hT_2_3_4_5 hT_5
                    refine hK.out _ _ (HSS.out _ hb_6) (fun hS_6 => ?_)
                    clear hK K
                    try simp only [Act.put, List.setIfInBounds_toArray, List.set_cons_zero, List.set_cons_succ]
                    refine wpAnyH_ready (rs := [16]) (by kernel_rfl) (by simp) (AllReadyH.cons rfl (fun K hK => ?_) AllReadyH.nil)
                    rw [if_pos (by kernel_rfl)]
                    go_simp
                    refine (HFT.out _ hb_6 A0 c0 ht0_2_3_4_5_6).mono ?_
                    rintro e u_7 ⟨rfl, hq_7⟩
                    have hb_7 := hb_6.trans (hq_7.mono hb_6.size)
                    have ht0_2_3_4_5_6_7 := EIn.below _ ht0_2_3_4_5_6 hq_7 (Nat.le_refl _)
                    have ht1_2_3_4_5_6_7 := EIn.below _ ht1_2_3_4_5_6 hq_7 (Nat.le_refl _)
                    have hT_2_3_4_5_6_7 := EIn.below _ hT_2_3_4_5_6 hq_7 (Nat.le_refl _)
                    have hT_5_6_7 := EIn.below _ hT_5_6 hq_7 (Nat.le_refl _)
                    clear ht0_2_3_4_5_6 ht1_2_3_4_5_6 hT_2_3_4_5_6 hT_5_6
                    refine hK.out _ _ (HSS.out _ hb_7) (fun hS_7 => ?_)
                    clear hK K
                    try simp only [Act.put, List.setIfInBounds_toArray, List.set_cons_zero, List.set_cons_succ]
                    refine wpAnyH_take (i := 17) (oi := ⟨some 74, _, _, _, _, _⟩) (v := .bool false) rfl (by kernel_rfl) (by kernel_rfl) (by kernel_rfl) (fun _ _ _ h => h) (.inl ⟨by kernel_rfl, fun W hW => by kernel_rfl⟩) hS_7 ?_
                    try simp only [Act.put, List.setIfInBounds_toArray, List.set_cons_zero, List.set_cons_succ]
                    refine wpAnyH_take (i := 18) (oi := ⟨some 75, _, _, _, _, _⟩) (v := undef) rfl (by kernel_rfl) (by kernel_rfl) (by kernel_rfl) (fun _ _ _ h => h) (.inr ⟨by kernel_rfl, rfl⟩) hS_7 ?_
                    try simp only [Act.put, List.setIfInBounds_toArray, List.set_cons_zero, List.set_cons_succ]
                    refine wpAnyH_take (i := 19) (oi := ⟨some 76, _, _, _, _, _⟩) (v := undef) rfl (by kernel_rfl) (by kernel_rfl) (by kernel_rfl) (fun _ _ _ h => h) (.inr ⟨by kernel_rfl, rfl⟩) hS_7 ?_
                    try simp only [Act.put, List.setIfInBounds_toArray, List.set_cons_zero, List.set_cons_succ]
                    refine wpAnyH_take (i := 20) (oi := ⟨some 77, _, _, _, _, _⟩) (v := undef) rfl (by kernel_rfl) (by kernel_rfl) (by kernel_rfl) (fun _ _ _ h => h) (.inr ⟨by kernel_rfl, rfl⟩) hS_7 ?_
                    try simp only [Act.put, List.setIfInBounds_toArray, List.set_cons_zero, List.set_cons_succ]
                    refine wpAnyH_take (i := 21) (oi := ⟨some 78, _, _, _, _, _⟩) (v := .bool false) rfl (by kernel_rfl) (by kernel_rfl) (by kernel_rfl) (fun _ _ _ h => h) (.inl ⟨by kernel_rfl, fun W hW => by kernel_rfl⟩) hS_7 ?_
                    try simp only [Act.put, List.setIfInBounds_toArray, List.set_cons_zero, List.set_cons_succ]
                    refine wpAnyH_take (i := 22) (oi := ⟨some 79, _, _, _, _, _⟩) (v := .bool true) rfl (by kernel_rfl) (by kernel_rfl) (by kernel_rfl) (fun _ _ _ h => h) (.inl ⟨by kernel_rfl, fun W hW => by first | (obtain ⟨z0, z1, z2, z3, z4, z5, z6, z7⟩ := hW; go_simp; done) | (obtain ⟨z0, z1, z2, z3, z4, z5, z6, z7⟩ := hW; go_simp; omega) | (obtain ⟨z0, z1, z2, z3, z4, z5, z6, z7⟩ := hW; go_simp; exact IntWalk.i64_in _ (by omega)) | (obtain ⟨z0, z1, z2, z3, z4, z5, z6, z7⟩ := hW; go_simp; simp [*]; done)⟩) hS_7 ?_
                    try simp only [Act.put, List.setIfInBounds_toArray, List.set_cons_zero, List.set_cons_succ]
                    refine wpAnyH_take (i := 23) (oi := ⟨some 80, _, _, _, _, _⟩) (v := .bool true) rfl (by kernel_rfl) (by kernel_rfl) (by kernel_rfl) (fun _ _ _ h => h) (.inl ⟨by kernel_rfl, fun W hW => by kernel_rfl⟩) hS_7 ?_
                    try simp only [Act.put, List.setIfInBounds_toArray, List.set_cons_zero, List.set_cons_succ]
                    refine wpAnyH_take (i := 24) (oi := ⟨some 81, _, _, _, _, _⟩) (v := .bool true) rfl (by kernel_rfl) (by kernel_rfl) (by kernel_rfl) (fun _ _ _ h => h) (.inl ⟨by kernel_rfl, fun W hW => by kernel_rfl⟩) hS_7 ?_
                    try simp only [Act.put, List.setIfInBounds_toArray, List.set_cons_zero, List.set_cons_succ]
                    refine wpAnyH_take (i := 25) (oi := ⟨some 82, _, _, _, _, _⟩) (v := .agg #[.int .i64 tk, .int .i64 tn, .string tz, .slice A0 tl.length (capF tl.length c0)]) rfl (by kernel_rfl) (by kernel_rfl) (by kernel_rfl) (fun _ _ _ h => h) (.inl ⟨by kernel_rfl, fun W hW => by first | (obtain ⟨z0, z1, z2, z3, z4, z5, z6, z7⟩ := hW; go_simp; done) | (obtain ⟨z0, z1, z2, z3, z4, z5, z6, z7⟩ := hW; go_simp; omega) | (obtain ⟨z0, z1, z2, z3, z4, z5, z6, z7⟩ := hW; go_simp; exact IntWalk.i64_in _ (by omega)) | (obtain ⟨z0, z1, z2, z3, z4, z5, z6, z7⟩ := hW; go_simp; simp [*]; done)⟩) hS_7 ?_
                    try simp only [Act.put, List.setIfInBounds_toArray, List.set_cons_zero, List.set_cons_succ]
                    refine wpAnyH_take (i := 27) (oi := ⟨some 84, _, _, _, _, _⟩) (v := .agg #[.int .i64 tk, .int .i64 tn, .string tz, .slice A0 tl.length (capF tl.length c0)]) rfl (by kernel_rfl) (by kernel_rfl) (by kernel_rfl) (fun _ _ _ h => h) (.inl ⟨by kernel_rfl, fun W hW => by first | (obtain ⟨z0, z1, z2, z3, z4, z5, z6, z7⟩ := hW; go_simp; done) | (obtain ⟨z0, z1, z2, z3, z4, z5, z6, z7⟩ := hW; go_simp; omega) | (obtain ⟨z0, z1, z2, z3, z4, z5, z6, z7⟩ := hW; go_simp; exact IntWalk.i64_in _ (by omega)) | (obtain ⟨z0, z1, z2, z3, z4, z5, z6, z7⟩ := hW; go_simp; simp [*]; done)⟩) hS_7 ?_
                    try simp only [Act.put, List.setIfInBounds_toArray, List.set_cons_zero, List.set_cons_succ]
                    refine wpAnyH_ready (rs := [26]) (by kernel_rfl) (by simp) (AllReadyH.cons rfl (fun K hK => ?_) AllReadyH.nil)
                    rw [if_pos (by kernel_rfl)]
                    go_simp
                    refine (HFT.out _ hb_7 A0 c0 ht0_2_3_4_5_6_7).mono ?_
                    rintro e u_8 ⟨rfl, hq_8⟩
                    have hb_8 := hb_7.trans (hq_8.mono hb_7.size)
                    have ht0_2_3_4_5_6_7_8 := EIn.below _ ht0_2_3_4_5_6_7 hq_8 (Nat.le_refl _)
                    have ht1_2_3_4_5_6_7_8 := EIn.below _ ht1_2_3_4_5_6_7 hq_8 (Nat.le_refl _)
                    have hT_2_3_4_5_6_7_8 := EIn.below _ hT_2_3_4_5_6_7 hq_8 (Nat.le_refl _)
                    have hT_5_6_7_8 := EIn.below _ hT_5_6_7 hq_8 (Nat.le_refl _)
                    clear ht0_2_3_4_5_6_7 ht1_2_3_4_5_6_7 hT_2_3_4_5_6_7 hT_5_6_7
                    refine hK.out _ _ (HSS.out _ hb_8) (fun hS_8 => ?_)
                    clear hK K
                    try simp only [Act.put, List.setIfInBounds_toArray, List.set_cons_zero, List.set_cons_succ]
                    refine wpAnyH_ready (rs := [28]) (by kernel_rfl) (by simp) (AllReadyH.cons rfl (fun K hK => ?_) AllReadyH.nil)
                    rw [if_pos (by kernel_rfl)]
                    go_simp
                    refine (HFN.out _ hb_8 A0 c0 ht0_2_3_4_5_6_7_8).mono ?_
                    rintro e u_9 ⟨rfl, hq_9⟩
                    have hb_9 := hb_8.trans (hq_9.mono hb_8.size)
                    have ht0_2_3_4_5_6_7_8_9 := EIn.below _ ht0_2_3_4_5_6_7_8 hq_9 (Nat.le_refl _)
                    have ht1_2_3_4_5_6_7_8_9 := EIn.below _ ht1_2_3_4_5_6_7_8 hq_9 (Nat.le_refl _)
                    have hT_2_3_4_5_6_7_8_9 := EIn.below _ hT_2_3_4_5_6_7_8 hq_9 (Nat.le_refl _)
                    have hT_5_6_7_8_9 := EIn.below _ hT_5_6_7_8 hq_9 (Nat.le_refl _)
                    clear ht0_2_3_4_5_6_7_8 ht1_2_3_4_5_6_7_8 hT_2_3_4_5_6_7_8 hT_5_6_7_8
                    refine hK.out _ _ (HSS.out _ hb_9) (fun hS_9 => ?_)
                    clear hK K
                    try simp only [Act.put, List.setIfInBounds_toArray, List.set_cons_zero, List.set_cons_succ]
                    refine wpAnyH_take (i := 29) (oi := ⟨some 86, _, _, _, _, _⟩) (v := .bool false) rfl (by kernel_rfl) (by kernel_rfl) (by kernel_rfl) (fun _ _ _ h => h) (.inl ⟨by kernel_rfl, fun W hW => by first | (obtain ⟨z0, z1, z2, z3, z4, z5, z6, z7⟩ := hW; go_simp; done) | (obtain ⟨z0, z1, z2, z3, z4, z5, z6, z7⟩ := hW; go_simp; omega) | (obtain ⟨z0, z1, z2, z3, z4, z5, z6, z7⟩ := hW; go_simp; exact IntWalk.i64_in _ (by omega)) | (obtain ⟨z0, z1, z2, z3, z4, z5, z6, z7⟩ := hW; go_simp; simp [*]; done)⟩) hS_9 ?_
                    try simp only [Act.put, List.setIfInBounds_toArray, List.set_cons_zero, List.set_cons_succ]
                    refine wpAnyH_take (i := 30) (oi := ⟨some 87, _, _, _, _, _⟩) (v := .bool true) rfl (by kernel_rfl) (by kernel_rfl) (by kernel_rfl) (fun _ _ _ h => h) (.inl ⟨by kernel_rfl, fun W hW => by first | (obtain ⟨z0, z1, z2, z3, z4, z5, z6, z7⟩ := hW; go_simp; done) | (obtain ⟨z0, z1, z2, z3, z4, z5, z6, z7⟩ := hW; go_simp; omega) | (obtain ⟨z0, z1, z2, z3, z4, z5, z6, z7⟩ := hW; go_simp; exact IntWalk.i64_in _ (by omega)) | (obtain ⟨z0, z1, z2, z3, z4, z5, z6, z7⟩ := hW; go_simp; simp [*]; done)⟩) hS_9 ?_
                    try simp only [Act.put, List.setIfInBounds_toArray, List.set_cons_zero, List.set_cons_succ]
                    refine wpAnyH_take (i := 31) (oi := ⟨some 88, _, _, _, _, _⟩) (v := .bool true) rfl (by kernel_rfl) (by kernel_rfl) (by kernel_rfl) (fun _ _ _ h => h) (.inl ⟨by kernel_rfl, fun W hW => by kernel_rfl⟩) hS_9 ?_
                    try simp only [Act.put, List.setIfInBounds_toArray, List.set_cons_zero, List.set_cons_succ]
                    refine wpAnyH_take (i := 32) (oi := ⟨some 4, _, _, _, _, _⟩) (v := .bool true) rfl (by kernel_rfl) (by kernel_rfl) (by kernel_rfl) (fun _ _ _ h => h) (.inl ⟨by kernel_rfl, fun W hW => by kernel_rfl⟩) hS_9 ?_
                    try simp only [Act.put, List.setIfInBounds_toArray, List.set_cons_zero, List.set_cons_succ]
                    refine wpAnyH_done (by kernel_rfl) ?_ _
                    go_wp2_with fail
                    go_ret
                    exact ⟨rfl, HB.out.trans (hb_9.mono HB.out.size)⟩
              · obtain ⟨W9, hW9⟩ : ∃ V, V = w13 := ⟨_, rfl⟩
                rw [← hW9] at HX0 HX1 ⊢
                clear hW9
                go_upto_region 4 with fail
                go_loopw [5] (fun x wr => ∃ i : Nat, i ≤ tl.length ∧ x = .int .i64 i ∧ Below W9.heap.size W9 wr) (fun x _ => tl.length - (intOf x).toNat)
                case atStart => exact ⟨0, Nat.zero_le _, rfl, Below.refl _ _⟩
                case round =>
                  obtain ⟨i, hi, rfl, hbr⟩ := hrel
                  replace HX0 := Lib.hid (HX0.out.step hbr)
                  replace HX1 := Lib.hid (HX1.out.step hbr)
                  obtain ⟨d0, d1, d2, d3⟩ := HX0.out.four
                  have HFT := Lib.hid (affine_any (.node tk tn tz tl) A0 c0 wr (by omega) (by omega) htt HX0.out.tin)
                  rw [hav] at HFT
                  by_cases hlt : i < tl.length
                  · have hsz := sizeEL_mem tl (tl[i]'hlt) (List.getElem_mem hlt)
                    have hdp := depthEL_mem tl (tl[i]'hlt) (List.getElem_mem hlt)
                    have htm := tameEL_mem tl (tl[i]'hlt) (List.getElem_mem hlt) (by rw [tameE] at htt; exact htt.2.2)
                    have hpa := HAV.out i hlt hav
                    have hsz2 : sizeE (.node tk tn tz tl) = sizeEL tl + 1 := by rw [sizeE]
                    have hdp2 : depthE (.node tk tn tz tl) = depthEL tl + 1 := by rw [depthE]
                    go_wp2_with fail
                    refine HFT.out.mono ?_
                    rintro e w2 ⟨rfl, hb2⟩
                    replace HX0 := Lib.hid (HX0.out.step hb2)
                    clear d0 d1 d2 d3
                    obtain ⟨d0, d1, d2, d3⟩ := HX0.out.four
                    obtain ⟨g, o, A', c', ⟨hA, _⟩, q0, q1, q2, q3, hIn⟩ := EIn.part HX0.out.tin i hlt
                    subst hA
                    simp only [Te.parts] at q0 q1 q2 q3 hIn
                    obtain ⟨tr, hu⟩ : ∃ tr, tr = tl[i]'hlt := ⟨_, rfl⟩
                    rw [← hu] at q0 q1 q2 q3 hIn hsz hdp htm hpa
                    clear hu
                    obtain ⟨uk, un, uz, ul⟩ := tr
                    simp only [Te.kind, Te.n, Te.name] at q0 q1 q2 q3
                    have HFP := Lib.hid (affine_any (.node uk un uz ul) A' c' w2 (by omega) (by omega) htm hIn)
                    rw [hpa] at HFP
                    clear hIn
                    go_wp2_with fail
                    refine HFP.out.mono ?_
                    rintro e w3 ⟨rfl, hb3⟩
                    go_wp2_with fail
                    go_roundw
                    case rel => exact ⟨i + 1, by omega, by go_num, (hbr.trans (hb2.mono hbr.size)).trans (hb3.mono (hbr.trans (hb2.mono hbr.size)).size)⟩
                    case measure => simp [intOf]; omega
                  · have hi9 : i = tl.length := by omega
                    obtain ⟨V9, hV9⟩ : ∃ V, V = wr := ⟨_, rfl⟩
                    rw [← hV9] at HX0 HX1 d0 d1 d2 d3 ⊢
                    clear hV9 hbr HFT
                    obtain ⟨fn, hfn⟩ : ∃ n, n = fansL (ofE (.node tk tn tz tl)) := ⟨_, rfl⟩
                    have hf0 : fn = 0 := by rw [hfn]; have := affB_fans (ofE (.node tk tn tz tl)); rw [hav] at this; exact of_decide_eq_true this.symm
                    have HFN0 := Lib.hid hfn
                    clear hfn
                    have hf1 : (fn == 0) = true := by simp [hf0]
                    obtain ⟨nu, hnu⟩ : ∃ n, n = usesE (.node tk tn tz tl) 0 := ⟨_, rfl⟩
                    have hnz : nu ≤ sizeE (.node tk tn tz tl) := by rw [hnu]; exact usesE_le _ _
                    have HNU := Lib.hid hnu
                    clear hnu
                    cases hbv : affB (ofE (.node sk sn sz sl))
                    · have hab : affB (ofE (appE (.node tk tn tz tl) (.node sk sn sz sl))) = false := by rw [ofE_app, affB_app, hav, hbv]; rfl
                      by_cases hu : nu < 2
                      · have hau : affB (ofE (lamE (.node tk tn tz tl))) = true := by rw [ofE_lam, affB_cons, hav, Bool.and_true, ← HNU.out]; exact decide_eq_true (by omega)
                        have huv : (nu : Int) < 2 := by omega
                        go_upto_region 8 with fail
                        obtain ⟨g0, hg0⟩ : ∃ g, g = w.heap.size := ⟨_, rfl⟩
                        obtain ⟨g1, hg1⟩ : ∃ g, g = w.heap.size + 1 := ⟨_, rfl⟩
                        have hx0 := HX0.out
                        have hx1 := HX1.out
                        rw [← hg0] at hx0
                        rw [← hg1] at hx1
                        rw [← hg1, ← hg0]
                        clear hg0 hg1 HX0 HX1
                        generalize V9 = V at hx0 hx1 ⊢
                        have ht0 := hx0.tin
                        have ht1 := hx1.tin
                        have HB := Lib.hid hx0.bw
                        have HSS : Hid (∀ V', Below V.heap.size V V' → (fun V' : World => (V'.cell? ⟨g0, 0, none⟩ = some (.int .i64 tk) ∧ V'.cell? ⟨g0, 1, none⟩ = some (.int .i64 tn) ∧ V'.cell? ⟨g0, 2, none⟩ = some (.string tz) ∧ V'.cell? ⟨g0, 3, none⟩ = some (.slice A0 tl.length (capF tl.length c0)) ∧ V'.cell? ⟨g1, 0, none⟩ = some (.int .i64 sk) ∧ V'.cell? ⟨g1, 1, none⟩ = some (.int .i64 sn) ∧ V'.cell? ⟨g1, 2, none⟩ = some (.string sz) ∧ V'.cell? ⟨g1, 3, none⟩ = some (.slice A1 sl.length (capF sl.length c1)))) V') := Lib.hid fun V' h =>
                          ⟨(h.cell (p := ⟨g0, 0, none⟩) hx0.box.lt).trans (hx0.box.cell 0), (h.cell (p := ⟨g0, 1, none⟩) hx0.box.lt).trans (hx0.box.cell 1), (h.cell (p := ⟨g0, 2, none⟩) hx0.box.lt).trans (hx0.box.cell 2), (h.cell (p := ⟨g0, 3, none⟩) hx0.box.lt).trans (hx0.box.cell 3), (h.cell (p := ⟨g1, 0, none⟩) hx1.box.lt).trans (hx1.box.cell 0), (h.cell (p := ⟨g1, 1, none⟩) hx1.box.lt).trans (hx1.box.cell 1), (h.cell (p := ⟨g1, 2, none⟩) hx1.box.lt).trans (hx1.box.cell 2), (h.cell (p := ⟨g1, 3, none⟩) hx1.box.lt).trans (hx1.box.cell 3)⟩
                        have HAP : Hid (∀ X, Below V.heap.size V X → ∀ (A : Option Addr) (c : Nat) (hA : EIn X Any (.node tk tn tz tl) A) (B : Option Addr) (d : Nat) (hB : EIn X Any (.node sk sn sz sl) B), Calls Try.prog 26 #[.agg #[.int .i64 tk, .int .i64 tn, .string tz, .slice A tl.length (capF tl.length c)], .agg #[.int .i64 sk, .int .i64 sn, .string sz, .slice B sl.length (capF sl.length d)]] X fun e w' => ∃ A c, e = .returned (.agg #[.int .i64 3, .int .i64 0, .string n0B, .slice A 2 (capF 2 c)]) ∧ EIn w' Any (appE (.node tk tn tz tl) (.node sk sn sz sl)) A ∧ Below X.heap.size X w') := Lib.hid fun X hX A c hA B d hB => appq_any (.node tk tn tz tl) (.node sk sn sz sl) A B c d X hA hB
                        have HLA : Hid (∀ X, Below V.heap.size V X → ∀ (A : Option Addr) (c : Nat) (hA : EIn X Any (.node tk tn tz tl) A), Calls Try.prog 25 #[.agg #[.int .i64 tk, .int .i64 tn, .string tz, .slice A tl.length (capF tl.length c)]] X fun e w' => ∃ A c, e = .returned (.agg #[.int .i64 2, .int .i64 0, .string n0B, .slice A 1 (capF 1 c)]) ∧ EIn w' Any (lamE (.node tk tn tz tl)) A ∧ Below X.heap.size X w') := Lib.hid fun X hX A c hA => lamq_any (.node tk tn tz tl) A c X hA
                        have HFT : Hid (∀ X, Below V.heap.size V X → ∀ (A : Option Addr) (c : Nat) (hA : EIn X Any (.node tk tn tz tl) A), Calls Try.prog 18 #[.agg #[.int .i64 tk, .int .i64 tn, .string tz, .slice A tl.length (capF tl.length c)]] X fun e w' => e = .returned (.bool true) ∧ Below X.heap.size X w') := Lib.hid fun X hX A c hA => by
                          have h := affine_any (.node tk tn tz tl) A c X (by omega) (by omega) htt hA
                          rw [hav] at h
                          exact h
                        have HFS : Hid (∀ X, Below V.heap.size V X → ∀ (A : Option Addr) (c : Nat) (hA : EIn X Any (.node sk sn sz sl) A), Calls Try.prog 18 #[.agg #[.int .i64 sk, .int .i64 sn, .string sz, .slice A sl.length (capF sl.length c)]] X fun e w' => e = .returned (.bool false) ∧ Below X.heap.size X w') := Lib.hid fun X hX A c hA => by
                          have h := affine_any (.node sk sn sz sl) A c X (by omega) (by omega) hts hA
                          rw [hbv] at h
                          exact h
                        have HFA : Hid (∀ X, Below V.heap.size V X → ∀ (A : Option Addr) (c : Nat) (hA : EIn X Any (appE (.node tk tn tz tl) (.node sk sn sz sl)) A), Calls Try.prog 18 #[.agg #[.int .i64 3, .int .i64 0, .string n0B, .slice A 2 (capF 2 c)]] X fun e w' => e = .returned (.bool false) ∧ Below X.heap.size X w') := Lib.hid fun X hX A c hA => by
                          have h := affine_any (appE (.node tk tn tz tl) (.node sk sn sz sl)) A c X (by have := depth_app (.node tk tn tz tl) (.node sk sn sz sl); omega) (by have := size_app (.node tk tn tz tl) (.node sk sn sz sl); omega) (tame_app htt hts) hA
                          rw [hab] at h
                          exact h
                        have HFL : Hid (∀ X, Below V.heap.size V X → ∀ (A : Option Addr) (c : Nat) (hA : EIn X Any (lamE (.node tk tn tz tl)) A), Calls Try.prog 18 #[.agg #[.int .i64 2, .int .i64 0, .string n0B, .slice A 1 (capF 1 c)]] X fun e w' => e = .returned (.bool true) ∧ Below X.heap.size X w') := Lib.hid fun X hX A c hA => by
                          have h := affine_any (lamE (.node tk tn tz tl)) A c X (by have := depth_lam (.node tk tn tz tl); omega) (by have := size_lam (.node tk tn tz tl); omega) (tame_lam htt) hA
                          rw [hau] at h
                          exact h
                        have HFN : Hid (∀ X, Below V.heap.size V X → ∀ (A : Option Addr) (c : Nat) (hA : EIn X Any (.node tk tn tz tl) A), Calls Try.prog 20 #[.agg #[.int .i64 tk, .int .i64 tn, .string tz, .slice A tl.length (capF tl.length c)]] X fun e w' => e = .returned (.int .i64 fn) ∧ Below X.heap.size X w') := Lib.hid fun X hX A c hA => by
                          have h := fans_any (.node tk tn tz tl) A c X (by omega) (by omega) htt hA
                          rw [← HFN0.out] at h
                          exact h
                        have HUS : Hid (∀ X, Below V.heap.size V X → ∀ (A : Option Addr) (c : Nat) (hA : EIn X Any (.node tk tn tz tl) A), Calls Try.prog 29 #[.agg #[.int .i64 tk, .int .i64 tn, .string tz, .slice A tl.length (capF tl.length c)], .int .i64 0] X fun e w' => e = .returned (.int .i64 (nu : Int)) ∧ Below X.heap.size X w') := Lib.hid fun X hX A c hA => by
                          have h := ruses_any (depthE (.node tk tn tz tl)) (.node tk tn tz tl) A c 0 X (Nat.le_refl _) (by omega) (by omega) htt (by omega) (by omega) hA
                          rw [← HNU.out] at h
                          exact h
                        clear hx0 hx1
                        have hb_1 : Below V.heap.size V V := Below.refl _ _
                        refine wp_region_held_drew (S := (fun V' : World => (V'.cell? ⟨g0, 0, none⟩ = some (.int .i64 tk) ∧ V'.cell? ⟨g0, 1, none⟩ = some (.int .i64 tn) ∧ V'.cell? ⟨g0, 2, none⟩ = some (.string tz) ∧ V'.cell? ⟨g0, 3, none⟩ = some (.slice A0 tl.length (capF tl.length c0)) ∧ V'.cell? ⟨g1, 0, none⟩ = some (.int .i64 sk) ∧ V'.cell? ⟨g1, 1, none⟩ = some (.int .i64 sn) ∧ V'.cell? ⟨g1, 2, none⟩ = some (.string sz) ∧ V'.cell? ⟨g1, 3, none⟩ = some (.slice A1 sl.length (capF sl.length c1))))) rfl (HSS.out _ hb_1.drew) (fun hSs => ?_)
                        change wpAnyH _ _ _ _ _ 33 (Array.replicate 33 false) _ _
                        refine wpAnyH_take (i := 0) (oi := ⟨some 57, _, _, _, _, _⟩) (v := .agg #[.int .i64 tk, .int .i64 tn, .string tz, .slice A0 tl.length (capF tl.length c0)]) rfl (by kernel_rfl) (by kernel_rfl) (by kernel_rfl) (fun _ _ _ h => h) (.inl ⟨by kernel_rfl, fun W hW => by first | (obtain ⟨z0, z1, z2, z3, z4, z5, z6, z7⟩ := hW; go_simp; done) | (obtain ⟨z0, z1, z2, z3, z4, z5, z6, z7⟩ := hW; go_simp; omega) | (obtain ⟨z0, z1, z2, z3, z4, z5, z6, z7⟩ := hW; go_simp; exact IntWalk.i64_in _ (by omega)) | (obtain ⟨z0, z1, z2, z3, z4, z5, z6, z7⟩ := hW; go_simp; simp [*]; done)⟩) hSs ?_
                        try simp only [Act.put, List.setIfInBounds_toArray, List.set_cons_zero, List.set_cons_succ]
                        refine wpAnyH_take (i := 1) (oi := ⟨some 58, _, _, _, _, _⟩) (v := .agg #[.int .i64 sk, .int .i64 sn, .string sz, .slice A1 sl.length (capF sl.length c1)]) rfl (by kernel_rfl) (by kernel_rfl) (by kernel_rfl) (fun _ _ _ h => h) (.inl ⟨by kernel_rfl, fun W hW => by first | (obtain ⟨z0, z1, z2, z3, z4, z5, z6, z7⟩ := hW; go_simp; done) | (obtain ⟨z0, z1, z2, z3, z4, z5, z6, z7⟩ := hW; go_simp; omega) | (obtain ⟨z0, z1, z2, z3, z4, z5, z6, z7⟩ := hW; go_simp; exact IntWalk.i64_in _ (by omega)) | (obtain ⟨z0, z1, z2, z3, z4, z5, z6, z7⟩ := hW; go_simp; simp [*]; done)⟩) hSs ?_
                        try simp only [Act.put, List.setIfInBounds_toArray, List.set_cons_zero, List.set_cons_succ]
                        refine wpAnyH_take (i := 4) (oi := ⟨some 61, _, _, _, _, _⟩) (v := .agg #[.int .i64 tk, .int .i64 tn, .string tz, .slice A0 tl.length (capF tl.length c0)]) rfl (by kernel_rfl) (by kernel_rfl) (by kernel_rfl) (fun _ _ _ h => h) (.inl ⟨by kernel_rfl, fun W hW => by first | (obtain ⟨z0, z1, z2, z3, z4, z5, z6, z7⟩ := hW; go_simp; done) | (obtain ⟨z0, z1, z2, z3, z4, z5, z6, z7⟩ := hW; go_simp; omega) | (obtain ⟨z0, z1, z2, z3, z4, z5, z6, z7⟩ := hW; go_simp; exact IntWalk.i64_in _ (by omega)) | (obtain ⟨z0, z1, z2, z3, z4, z5, z6, z7⟩ := hW; go_simp; simp [*]; done)⟩) hSs ?_
                        try simp only [Act.put, List.setIfInBounds_toArray, List.set_cons_zero, List.set_cons_succ]
                        refine wpAnyH_ready (rs := [2]) (by kernel_rfl) (by simp) (AllReadyH.cons rfl (fun K hK => ?_) AllReadyH.nil)
                        go_simp
                        refine (HAP.out _ (hb_1.drew) A0 c0 (EIn.below _ ht0 (Below.refl _ _).drew (Nat.le_refl _)) A1 c1 (EIn.below _ ht1 (Below.refl _ _).drew (Nat.le_refl _))).mono ?_
                        rintro e u_2 ⟨A_2, c_2, rfl, hT_2, hq_2⟩
                        have hb_2 := (hb_1.drew).trans (hq_2.mono (hb_1.drew).size)
                        have ht0_2 := EIn.below _ (EIn.below _ ht0 (Below.refl _ _).drew (Nat.le_refl _)) hq_2 (Nat.le_refl _)
                        have ht1_2 := EIn.below _ (EIn.below _ ht1 (Below.refl _ _).drew (Nat.le_refl _)) hq_2 (Nat.le_refl _)
                        clear ht0 ht1
                        refine hK.out _ _ (HSS.out _ hb_2) (fun hS_2 => ?_)
                        clear hK K
                        try simp only [Act.put, List.setIfInBounds_toArray, List.set_cons_zero, List.set_cons_succ]
                        refine wpAnyH_ready (rs := [3]) (by kernel_rfl) (by simp) (AllReadyH.cons rfl (fun K hK => ?_) AllReadyH.nil)
                        go_simp
                        refine (HFA.out _ hb_2 A_2 c_2 hT_2).mono ?_
                        rintro e u_3 ⟨rfl, hq_3⟩
                        have hb_3 := hb_2.trans (hq_3.mono hb_2.size)
                        have ht0_2_3 := EIn.below _ ht0_2 hq_3 (Nat.le_refl _)
                        have ht1_2_3 := EIn.below _ ht1_2 hq_3 (Nat.le_refl _)
                        have hT_2_3 := EIn.below _ hT_2 hq_3 (Nat.le_refl _)
                        clear ht0_2 ht1_2 hT_2
                        refine hK.out _ _ (HSS.out _ hb_3) (fun hS_3 => ?_)
                        clear hK K
                        try simp only [Act.put, List.setIfInBounds_toArray, List.set_cons_zero, List.set_cons_succ]
                        refine wpAnyH_ready (rs := [5]) (by kernel_rfl) (by simp) (AllReadyH.cons rfl (fun K hK => ?_) AllReadyH.nil)
                        go_simp
                        refine (HFT.out _ hb_3 A0 c0 ht0_2_3).mono ?_
                        rintro e u_4 ⟨rfl, hq_4⟩
                        have hb_4 := hb_3.trans (hq_4.mono hb_3.size)
                        have ht0_2_3_4 := EIn.below _ ht0_2_3 hq_4 (Nat.le_refl _)
                        have ht1_2_3_4 := EIn.below _ ht1_2_3 hq_4 (Nat.le_refl _)
                        have hT_2_3_4 := EIn.below _ hT_2_3 hq_4 (Nat.le_refl _)
                        clear ht0_2_3 ht1_2_3 hT_2_3
                        refine hK.out _ _ (HSS.out _ hb_4) (fun hS_4 => ?_)
                        clear hK K
                        try simp only [Act.put, List.setIfInBounds_toArray, List.set_cons_zero, List.set_cons_succ]
                        refine wpAnyH_take (i := 6) (oi := ⟨some 63, _, _, _, _, _⟩) (v := .bool true) rfl (by kernel_rfl) (by kernel_rfl) (by kernel_rfl) (fun _ _ _ h => h) (.inl ⟨by kernel_rfl, fun W hW => by kernel_rfl⟩) hS_4 ?_
                        try simp only [Act.put, List.setIfInBounds_toArray, List.set_cons_zero, List.set_cons_succ]
                        refine wpAnyH_take (i := 7) (oi := ⟨some 64, _, _, _, _, _⟩) (v := .agg #[.int .i64 sk, .int .i64 sn, .string sz, .slice A1 sl.length (capF sl.length c1)]) rfl (by kernel_rfl) (by kernel_rfl) (by kernel_rfl) (fun _ _ _ h => h) (.inl ⟨by kernel_rfl, fun W hW => by first | (obtain ⟨z0, z1, z2, z3, z4, z5, z6, z7⟩ := hW; go_simp; done) | (obtain ⟨z0, z1, z2, z3, z4, z5, z6, z7⟩ := hW; go_simp; omega) | (obtain ⟨z0, z1, z2, z3, z4, z5, z6, z7⟩ := hW; go_simp; exact IntWalk.i64_in _ (by omega)) | (obtain ⟨z0, z1, z2, z3, z4, z5, z6, z7⟩ := hW; go_simp; simp [*]; done)⟩) hS_4 ?_
                        try simp only [Act.put, List.setIfInBounds_toArray, List.set_cons_zero, List.set_cons_succ]
                        refine wpAnyH_ready (rs := [8]) (by kernel_rfl) (by simp) (AllReadyH.cons rfl (fun K hK => ?_) AllReadyH.nil)
                        rw [if_pos (by kernel_rfl)]
                        go_simp
                        refine (HFS.out _ hb_4 A1 c1 ht1_2_3_4).mono ?_
                        rintro e u_5 ⟨rfl, hq_5⟩
                        have hb_5 := hb_4.trans (hq_5.mono hb_4.size)
                        have ht0_2_3_4_5 := EIn.below _ ht0_2_3_4 hq_5 (Nat.le_refl _)
                        have ht1_2_3_4_5 := EIn.below _ ht1_2_3_4 hq_5 (Nat.le_refl _)
                        have hT_2_3_4_5 := EIn.below _ hT_2_3_4 hq_5 (Nat.le_refl _)
                        clear ht0_2_3_4 ht1_2_3_4 hT_2_3_4
                        refine hK.out _ _ (HSS.out _ hb_5) (fun hS_5 => ?_)
                        clear hK K
                        try simp only [Act.put, List.setIfInBounds_toArray, List.set_cons_zero, List.set_cons_succ]
                        refine wpAnyH_take (i := 9) (oi := ⟨some 66, _, _, _, _, _⟩) (v := .bool false) rfl (by kernel_rfl) (by kernel_rfl) (by kernel_rfl) (fun _ _ _ h => h) (.inl ⟨by kernel_rfl, fun W hW => by kernel_rfl⟩) hS_5 ?_
                        try simp only [Act.put, List.setIfInBounds_toArray, List.set_cons_zero, List.set_cons_succ]
                        refine wpAnyH_take (i := 10) (oi := ⟨some 67, _, _, _, _, _⟩) (v := .bool true) rfl (by kernel_rfl) (by kernel_rfl) (by kernel_rfl) (fun _ _ _ h => h) (.inl ⟨by kernel_rfl, fun W hW => by first | (obtain ⟨z0, z1, z2, z3, z4, z5, z6, z7⟩ := hW; go_simp; done) | (obtain ⟨z0, z1, z2, z3, z4, z5, z6, z7⟩ := hW; go_simp; omega) | (obtain ⟨z0, z1, z2, z3, z4, z5, z6, z7⟩ := hW; go_simp; exact IntWalk.i64_in _ (by omega)) | (obtain ⟨z0, z1, z2, z3, z4, z5, z6, z7⟩ := hW; go_simp; simp [*]; done)⟩) hS_5 ?_
                        try simp only [Act.put, List.setIfInBounds_toArray, List.set_cons_zero, List.set_cons_succ]
                        refine wpAnyH_take (i := 11) (oi := ⟨some 68, _, _, _, _, _⟩) (v := .bool true) rfl (by kernel_rfl) (by kernel_rfl) (by kernel_rfl) (fun _ _ _ h => h) (.inl ⟨by kernel_rfl, fun W hW => by kernel_rfl⟩) hS_5 ?_
                        try simp only [Act.put, List.setIfInBounds_toArray, List.set_cons_zero, List.set_cons_succ]
                        refine wpAnyH_take (i := 12) (oi := ⟨some 69, _, _, _, _, _⟩) (v := .agg #[.int .i64 tk, .int .i64 tn, .string tz, .slice A0 tl.length (capF tl.length c0)]) rfl (by kernel_rfl) (by kernel_rfl) (by kernel_rfl) (fun _ _ _ h => h) (.inl ⟨by kernel_rfl, fun W hW => by first | (obtain ⟨z0, z1, z2, z3, z4, z5, z6, z7⟩ := hW; go_simp; done) | (obtain ⟨z0, z1, z2, z3, z4, z5, z6, z7⟩ := hW; go_simp; omega) | (obtain ⟨z0, z1, z2, z3, z4, z5, z6, z7⟩ := hW; go_simp; exact IntWalk.i64_in _ (by omega)) | (obtain ⟨z0, z1, z2, z3, z4, z5, z6, z7⟩ := hW; go_simp; simp [*]; done)⟩) hS_5 ?_
                        try simp only [Act.put, List.setIfInBounds_toArray, List.set_cons_zero, List.set_cons_succ]
                        refine wpAnyH_take (i := 15) (oi := ⟨some 72, _, _, _, _, _⟩) (v := .agg #[.int .i64 tk, .int .i64 tn, .string tz, .slice A0 tl.length (capF tl.length c0)]) rfl (by kernel_rfl) (by kernel_rfl) (by kernel_rfl) (fun _ _ _ h => h) (.inl ⟨by kernel_rfl, fun W hW => by first | (obtain ⟨z0, z1, z2, z3, z4, z5, z6, z7⟩ := hW; go_simp; done) | (obtain ⟨z0, z1, z2, z3, z4, z5, z6, z7⟩ := hW; go_simp; omega) | (obtain ⟨z0, z1, z2, z3, z4, z5, z6, z7⟩ := hW; go_simp; exact IntWalk.i64_in _ (by omega)) | (obtain ⟨z0, z1, z2, z3, z4, z5, z6, z7⟩ := hW; go_simp; simp [*]; done)⟩) hS_5 ?_
                        try simp only [Act.put, List.setIfInBounds_toArray, List.set_cons_zero, List.set_cons_succ]
                        refine wpAnyH_ready (rs := [13]) (by kernel_rfl) (by simp) (AllReadyH.cons rfl (fun K hK => ?_) AllReadyH.nil)
                        rw [if_pos (by kernel_rfl)]
                        go_simp
                        refine (HLA.out _ hb_5 A0 c0 ht0_2_3_4_5).mono ?_
                        rintro e u_6 ⟨A_6, c_6, rfl, hT_6, hq_6⟩
                        have hb_6 := hb_5.trans (hq_6.mono hb_5.size)
                        have ht0_2_3_4_5_6 := EIn.below _ ht0_2_3_4_5 hq_6 (Nat.le_refl _)
                        have ht1_2_3_4_5_6 := EIn.below _ ht1_2_3_4_5 hq_6 (Nat.le_refl _)
                        have hT_2_3_4_5_6 := EIn.below _ hT_2_3_4_5 hq_6 (Nat.le_refl _)
                        clear ht0_2_3_4_5 ht1_2_3_4_5 hT_2_3_4_5
                        refine hK.out _ _ (HSS.out _ hb_6) (fun hS_6 => ?_)
                        clear hK K
                        try simp only [Act.put, List.setIfInBounds_toArray, List.set_cons_zero, List.set_cons_succ]
                        refine wpAnyH_ready (rs := [14]) (by kernel_rfl) (by simp) (AllReadyH.cons rfl (fun K hK => ?_) AllReadyH.nil)
                        rw [if_pos (by kernel_rfl)]
                        go_simp
                        refine (HFL.out _ hb_6 A_6 c_6 hT_6).mono ?_
                        rintro e u_7 ⟨rfl, hq_7⟩
                        have hb_7 := hb_6.trans (hq_7.mono hb_6.size)
                        have ht0_2_3_4_5_6_7 := EIn.below _ ht0_2_3_4_5_6 hq_7 (Nat.le_refl _)
                        have ht1_2_3_4_5_6_7 := EIn.below _ ht1_2_3_4_5_6 hq_7 (Nat.le_refl _)
                        have hT_2_3_4_5_6_7 := EIn.below _ hT_2_3_4_5_6 hq_7 (Nat.le_refl _)
                        have hT_6_7 := EIn.below _ hT_6 hq_7 (Nat.le_refl _)
                        clear ht0_2_3_4_5_6 ht1_2_3_4_5_6 hT_2_3_4_5_6 hT_6
                        refine hK.out _ _ (HSS.out _ hb_7) (fun hS_7 => ?_)
                        clear hK K
                        try simp only [Act.put, List.setIfInBounds_toArray, List.set_cons_zero, List.set_cons_succ]
                        refine wpAnyH_ready (rs := [16]) (by kernel_rfl) (by simp) (AllReadyH.cons rfl (fun K hK => ?_) AllReadyH.nil)
                        rw [if_pos (by kernel_rfl)]
                        go_simp
                        refine (HFT.out _ hb_7 A0 c0 ht0_2_3_4_5_6_7).mono ?_
                        rintro e u_8 ⟨rfl, hq_8⟩
                        have hb_8 := hb_7.trans (hq_8.mono hb_7.size)
                        have ht0_2_3_4_5_6_7_8 := EIn.below _ ht0_2_3_4_5_6_7 hq_8 (Nat.le_refl _)
                        have ht1_2_3_4_5_6_7_8 := EIn.below _ ht1_2_3_4_5_6_7 hq_8 (Nat.le_refl _)
                        have hT_2_3_4_5_6_7_8 := EIn.below _ hT_2_3_4_5_6_7 hq_8 (Nat.le_refl _)
                        have hT_6_7_8 := EIn.below _ hT_6_7 hq_8 (Nat.le_refl _)
                        clear ht0_2_3_4_5_6_7 ht1_2_3_4_5_6_7 hT_2_3_4_5_6_7 hT_6_7
                        refine hK.out _ _ (HSS.out _ hb_8) (fun hS_8 => ?_)
                        clear hK K
                        try simp only [Act.put, List.setIfInBounds_toArray, List.set_cons_zero, List.set_cons_succ]
                        refine wpAnyH_take (i := 17) (oi := ⟨some 74, _, _, _, _, _⟩) (v := .bool true) rfl (by kernel_rfl) (by kernel_rfl) (by kernel_rfl) (fun _ _ _ h => h) (.inl ⟨by kernel_rfl, fun W hW => by kernel_rfl⟩) hS_8 ?_
                        try simp only [Act.put, List.setIfInBounds_toArray, List.set_cons_zero, List.set_cons_succ]
                        refine wpAnyH_take (i := 18) (oi := ⟨some 75, _, _, _, _, _⟩) (v := .agg #[.int .i64 tk, .int .i64 tn, .string tz, .slice A0 tl.length (capF tl.length c0)]) rfl (by kernel_rfl) (by kernel_rfl) (by kernel_rfl) (fun _ _ _ h => h) (.inl ⟨by kernel_rfl, fun W hW => by first | (obtain ⟨z0, z1, z2, z3, z4, z5, z6, z7⟩ := hW; go_simp; done) | (obtain ⟨z0, z1, z2, z3, z4, z5, z6, z7⟩ := hW; go_simp; omega) | (obtain ⟨z0, z1, z2, z3, z4, z5, z6, z7⟩ := hW; go_simp; exact IntWalk.i64_in _ (by omega)) | (obtain ⟨z0, z1, z2, z3, z4, z5, z6, z7⟩ := hW; go_simp; simp [*]; done)⟩) hS_8 ?_
                        try simp only [Act.put, List.setIfInBounds_toArray, List.set_cons_zero, List.set_cons_succ]
                        refine wpAnyH_ready (rs := [19]) (by kernel_rfl) (by simp) (AllReadyH.cons rfl (fun K hK => ?_) AllReadyH.nil)
                        rw [if_pos (by kernel_rfl)]
                        go_simp
                        refine (HUS.out _ hb_8 A0 c0 ht0_2_3_4_5_6_7_8).mono ?_
                        rintro e u_9 ⟨rfl, hq_9⟩
                        have hb_9 := hb_8.trans (hq_9.mono hb_8.size)
                        have ht0_2_3_4_5_6_7_8_9 := EIn.below _ ht0_2_3_4_5_6_7_8 hq_9 (Nat.le_refl _)
                        have ht1_2_3_4_5_6_7_8_9 := EIn.below _ ht1_2_3_4_5_6_7_8 hq_9 (Nat.le_refl _)
                        have hT_2_3_4_5_6_7_8_9 := EIn.below _ hT_2_3_4_5_6_7_8 hq_9 (Nat.le_refl _)
                        have hT_6_7_8_9 := EIn.below _ hT_6_7_8 hq_9 (Nat.le_refl _)
                        clear ht0_2_3_4_5_6_7_8 ht1_2_3_4_5_6_7_8 hT_2_3_4_5_6_7_8 hT_6_7_8
                        refine hK.out _ _ (HSS.out _ hb_9) (fun hS_9 => ?_)
                        clear hK K
                        try simp only [Act.put, List.setIfInBounds_toArray, List.set_cons_zero, List.set_cons_succ]
                        refine wpAnyH_take (i := 20) (oi := ⟨some 77, _, _, _, _, _⟩) (v := .bool true) rfl (by kernel_rfl) (by kernel_rfl) (by kernel_rfl) (fun _ _ _ h => h) (.inl ⟨by kernel_rfl, fun W hW => by first | (obtain ⟨z0, z1, z2, z3, z4, z5, z6, z7⟩ := hW; go_simp; done) | (obtain ⟨z0, z1, z2, z3, z4, z5, z6, z7⟩ := hW; go_simp; omega) | (obtain ⟨z0, z1, z2, z3, z4, z5, z6, z7⟩ := hW; go_simp; exact IntWalk.i64_in _ (by omega)) | (obtain ⟨z0, z1, z2, z3, z4, z5, z6, z7⟩ := hW; go_simp; simp [*]; done)⟩) hS_9 ?_
                        try simp only [Act.put, List.setIfInBounds_toArray, List.set_cons_zero, List.set_cons_succ]
                        refine wpAnyH_take (i := 21) (oi := ⟨some 78, _, _, _, _, _⟩) (v := .bool true) rfl (by kernel_rfl) (by kernel_rfl) (by kernel_rfl) (fun _ _ _ h => h) (.inl ⟨by kernel_rfl, fun W hW => by kernel_rfl⟩) hS_9 ?_
                        try simp only [Act.put, List.setIfInBounds_toArray, List.set_cons_zero, List.set_cons_succ]
                        refine wpAnyH_take (i := 22) (oi := ⟨some 79, _, _, _, _, _⟩) (v := .bool true) rfl (by kernel_rfl) (by kernel_rfl) (by kernel_rfl) (fun _ _ _ h => h) (.inl ⟨by kernel_rfl, fun W hW => by first | (obtain ⟨z0, z1, z2, z3, z4, z5, z6, z7⟩ := hW; go_simp; done) | (obtain ⟨z0, z1, z2, z3, z4, z5, z6, z7⟩ := hW; go_simp; omega) | (obtain ⟨z0, z1, z2, z3, z4, z5, z6, z7⟩ := hW; go_simp; exact IntWalk.i64_in _ (by omega)) | (obtain ⟨z0, z1, z2, z3, z4, z5, z6, z7⟩ := hW; go_simp; simp [*]; done)⟩) hS_9 ?_
                        try simp only [Act.put, List.setIfInBounds_toArray, List.set_cons_zero, List.set_cons_succ]
                        refine wpAnyH_take (i := 23) (oi := ⟨some 80, _, _, _, _, _⟩) (v := .bool true) rfl (by kernel_rfl) (by kernel_rfl) (by kernel_rfl) (fun _ _ _ h => h) (.inl ⟨by kernel_rfl, fun W hW => by kernel_rfl⟩) hS_9 ?_
                        try simp only [Act.put, List.setIfInBounds_toArray, List.set_cons_zero, List.set_cons_succ]
                        refine wpAnyH_take (i := 24) (oi := ⟨some 81, _, _, _, _, _⟩) (v := .bool true) rfl (by kernel_rfl) (by kernel_rfl) (by kernel_rfl) (fun _ _ _ h => h) (.inl ⟨by kernel_rfl, fun W hW => by kernel_rfl⟩) hS_9 ?_
                        try simp only [Act.put, List.setIfInBounds_toArray, List.set_cons_zero, List.set_cons_succ]
                        refine wpAnyH_take (i := 25) (oi := ⟨some 82, _, _, _, _, _⟩) (v := .agg #[.int .i64 tk, .int .i64 tn, .string tz, .slice A0 tl.length (capF tl.length c0)]) rfl (by kernel_rfl) (by kernel_rfl) (by kernel_rfl) (fun _ _ _ h => h) (.inl ⟨by kernel_rfl, fun W hW => by first | (obtain ⟨z0, z1, z2, z3, z4, z5, z6, z7⟩ := hW; go_simp; done) | (obtain ⟨z0, z1, z2, z3, z4, z5, z6, z7⟩ := hW; go_simp; omega) | (obtain ⟨z0, z1, z2, z3, z4, z5, z6, z7⟩ := hW; go_simp; exact IntWalk.i64_in _ (by omega)) | (obtain ⟨z0, z1, z2, z3, z4, z5, z6, z7⟩ := hW; go_simp; simp [*]; done)⟩) hS_9 ?_
                        try simp only [Act.put, List.setIfInBounds_toArray, List.set_cons_zero, List.set_cons_succ]
                        refine wpAnyH_take (i := 27) (oi := ⟨some 84, _, _, _, _, _⟩) (v := .agg #[.int .i64 tk, .int .i64 tn, .string tz, .slice A0 tl.length (capF tl.length c0)]) rfl (by kernel_rfl) (by kernel_rfl) (by kernel_rfl) (fun _ _ _ h => h) (.inl ⟨by kernel_rfl, fun W hW => by first | (obtain ⟨z0, z1, z2, z3, z4, z5, z6, z7⟩ := hW; go_simp; done) | (obtain ⟨z0, z1, z2, z3, z4, z5, z6, z7⟩ := hW; go_simp; omega) | (obtain ⟨z0, z1, z2, z3, z4, z5, z6, z7⟩ := hW; go_simp; exact IntWalk.i64_in _ (by omega)) | (obtain ⟨z0, z1, z2, z3, z4, z5, z6, z7⟩ := hW; go_simp; simp [*]; done)⟩) hS_9 ?_
                        try simp only [Act.put, List.setIfInBounds_toArray, List.set_cons_zero, List.set_cons_succ]
                        refine wpAnyH_ready (rs := [26]) (by kernel_rfl) (by simp) (AllReadyH.cons rfl (fun K hK => ?_) AllReadyH.nil)
                        rw [if_pos (by kernel_rfl)]
                        go_simp
                        refine (HFT.out _ hb_9 A0 c0 ht0_2_3_4_5_6_7_8_9).mono ?_
                        rintro e u_10 ⟨rfl, hq_10⟩
                        have hb_10 := hb_9.trans (hq_10.mono hb_9.size)
                        have ht0_2_3_4_5_6_7_8_9_10 := EIn.below _ ht0_2_3_4_5_6_7_8_9 hq_10 (Nat.le_refl _)
                        have ht1_2_3_4_5_6_7_8_9_10 := EIn.below _ ht1_2_3_4_5_6_7_8_9 hq_10 (Nat.le_refl _)
                        have hT_2_3_4_5_6_7_8_9_10 := EIn.below _ hT_2_3_4_5_6_7_8_9 hq_10 (Nat.le_refl _)
                        have hT_6_7_8_9_10 := EIn.below _ hT_6_7_8_9 hq_10 (Nat.le_refl _)
                        clear ht0_2_3_4_5_6_7_8_9 ht1_2_3_4_5_6_7_8_9 hT_2_3_4_5_6_7_8_9 hT_6_7_8_9
                        refine hK.out _ _ (HSS.out _ hb_10) (fun hS_10 => ?_)
                        clear hK K
                        try simp only [Act.put, List.setIfInBounds_toArray, List.set_cons_zero, List.set_cons_succ]
                        refine wpAnyH_ready (rs := [28]) (by kernel_rfl) (by simp) (AllReadyH.cons rfl (fun K hK => ?_) AllReadyH.nil)
                        rw [if_pos (by kernel_rfl)]
                        go_simp
                        refine (HFN.out _ hb_10 A0 c0 ht0_2_3_4_5_6_7_8_9_10).mono ?_
                        rintro e u_11 ⟨rfl, hq_11⟩
                        have hb_11 := hb_10.trans (hq_11.mono hb_10.size)
                        have ht0_2_3_4_5_6_7_8_9_10_11 := EIn.below _ ht0_2_3_4_5_6_7_8_9_10 hq_11 (Nat.le_refl _)
                        have ht1_2_3_4_5_6_7_8_9_10_11 := EIn.below _ ht1_2_3_4_5_6_7_8_9_10 hq_11 (Nat.le_refl _)
                        have hT_2_3_4_5_6_7_8_9_10_11 := EIn.below _ hT_2_3_4_5_6_7_8_9_10 hq_11 (Nat.le_refl _)
                        have hT_6_7_8_9_10_11 := EIn.below _ hT_6_7_8_9_10 hq_11 (Nat.le_refl _)
                        clear ht0_2_3_4_5_6_7_8_9_10 ht1_2_3_4_5_6_7_8_9_10 hT_2_3_4_5_6_7_8_9_10 hT_6_7_8_9_10
                        refine hK.out _ _ (HSS.out _ hb_11) (fun hS_11 => ?_)
                        clear hK K
                        try simp only [Act.put, List.setIfInBounds_toArray, List.set_cons_zero, List.set_cons_succ]
                        refine wpAnyH_take (i := 29) (oi := ⟨some 86, _, _, _, _, _⟩) (v := .bool true) rfl (by kernel_rfl) (by kernel_rfl) (by kernel_rfl) (fun _ _ _ h => h) (.inl ⟨by kernel_rfl, fun W hW => by first | (obtain ⟨z0, z1, z2, z3, z4, z5, z6, z7⟩ := hW; go_simp; done) | (obtain ⟨z0, z1, z2, z3, z4, z5, z6, z7⟩ := hW; go_simp; omega) | (obtain ⟨z0, z1, z2, z3, z4, z5, z6, z7⟩ := hW; go_simp; exact IntWalk.i64_in _ (by omega)) | (obtain ⟨z0, z1, z2, z3, z4, z5, z6, z7⟩ := hW; go_simp; simp [*]; done)⟩) hS_11 ?_
                        try simp only [Act.put, List.setIfInBounds_toArray, List.set_cons_zero, List.set_cons_succ]
                        refine wpAnyH_take (i := 30) (oi := ⟨some 87, _, _, _, _, _⟩) (v := .bool true) rfl (by kernel_rfl) (by kernel_rfl) (by kernel_rfl) (fun _ _ _ h => h) (.inl ⟨by kernel_rfl, fun W hW => by first | (obtain ⟨z0, z1, z2, z3, z4, z5, z6, z7⟩ := hW; go_simp; done) | (obtain ⟨z0, z1, z2, z3, z4, z5, z6, z7⟩ := hW; go_simp; omega) | (obtain ⟨z0, z1, z2, z3, z4, z5, z6, z7⟩ := hW; go_simp; exact IntWalk.i64_in _ (by omega)) | (obtain ⟨z0, z1, z2, z3, z4, z5, z6, z7⟩ := hW; go_simp; simp [*]; done)⟩) hS_11 ?_
                        try simp only [Act.put, List.setIfInBounds_toArray, List.set_cons_zero, List.set_cons_succ]
                        refine wpAnyH_take (i := 31) (oi := ⟨some 88, _, _, _, _, _⟩) (v := .bool true) rfl (by kernel_rfl) (by kernel_rfl) (by kernel_rfl) (fun _ _ _ h => h) (.inl ⟨by kernel_rfl, fun W hW => by kernel_rfl⟩) hS_11 ?_
                        try simp only [Act.put, List.setIfInBounds_toArray, List.set_cons_zero, List.set_cons_succ]
                        refine wpAnyH_take (i := 32) (oi := ⟨some 4, _, _, _, _, _⟩) (v := .bool true) rfl (by kernel_rfl) (by kernel_rfl) (by kernel_rfl) (fun _ _ _ h => h) (.inl ⟨by kernel_rfl, fun W hW => by kernel_rfl⟩) hS_11 ?_
                        try simp only [Act.put, List.setIfInBounds_toArray, List.set_cons_zero, List.set_cons_succ]
                        refine wpAnyH_done (by kernel_rfl) ?_ _
                        go_wp2_with fail
                        go_ret
                        exact ⟨rfl, HB.out.trans (hb_11.mono HB.out.size)⟩
                      · have hau : affB (ofE (lamE (.node tk tn tz tl))) = false := by rw [ofE_lam, affB_cons, hav, Bool.and_true, ← HNU.out]; exact decide_eq_false (by omega)
                        have huv : ¬ (nu : Int) < 2 := by omega
                        go_upto_region 8 with fail
                        obtain ⟨g0, hg0⟩ : ∃ g, g = w.heap.size := ⟨_, rfl⟩
                        obtain ⟨g1, hg1⟩ : ∃ g, g = w.heap.size + 1 := ⟨_, rfl⟩
                        have hx0 := HX0.out
                        have hx1 := HX1.out
                        rw [← hg0] at hx0
                        rw [← hg1] at hx1
                        rw [← hg1, ← hg0]
                        clear hg0 hg1 HX0 HX1
                        generalize V9 = V at hx0 hx1 ⊢
                        have ht0 := hx0.tin
                        have ht1 := hx1.tin
                        have HB := Lib.hid hx0.bw
                        have HSS : Hid (∀ V', Below V.heap.size V V' → (fun V' : World => (V'.cell? ⟨g0, 0, none⟩ = some (.int .i64 tk) ∧ V'.cell? ⟨g0, 1, none⟩ = some (.int .i64 tn) ∧ V'.cell? ⟨g0, 2, none⟩ = some (.string tz) ∧ V'.cell? ⟨g0, 3, none⟩ = some (.slice A0 tl.length (capF tl.length c0)) ∧ V'.cell? ⟨g1, 0, none⟩ = some (.int .i64 sk) ∧ V'.cell? ⟨g1, 1, none⟩ = some (.int .i64 sn) ∧ V'.cell? ⟨g1, 2, none⟩ = some (.string sz) ∧ V'.cell? ⟨g1, 3, none⟩ = some (.slice A1 sl.length (capF sl.length c1)))) V') := Lib.hid fun V' h =>
                          ⟨(h.cell (p := ⟨g0, 0, none⟩) hx0.box.lt).trans (hx0.box.cell 0), (h.cell (p := ⟨g0, 1, none⟩) hx0.box.lt).trans (hx0.box.cell 1), (h.cell (p := ⟨g0, 2, none⟩) hx0.box.lt).trans (hx0.box.cell 2), (h.cell (p := ⟨g0, 3, none⟩) hx0.box.lt).trans (hx0.box.cell 3), (h.cell (p := ⟨g1, 0, none⟩) hx1.box.lt).trans (hx1.box.cell 0), (h.cell (p := ⟨g1, 1, none⟩) hx1.box.lt).trans (hx1.box.cell 1), (h.cell (p := ⟨g1, 2, none⟩) hx1.box.lt).trans (hx1.box.cell 2), (h.cell (p := ⟨g1, 3, none⟩) hx1.box.lt).trans (hx1.box.cell 3)⟩
                        have HAP : Hid (∀ X, Below V.heap.size V X → ∀ (A : Option Addr) (c : Nat) (hA : EIn X Any (.node tk tn tz tl) A) (B : Option Addr) (d : Nat) (hB : EIn X Any (.node sk sn sz sl) B), Calls Try.prog 26 #[.agg #[.int .i64 tk, .int .i64 tn, .string tz, .slice A tl.length (capF tl.length c)], .agg #[.int .i64 sk, .int .i64 sn, .string sz, .slice B sl.length (capF sl.length d)]] X fun e w' => ∃ A c, e = .returned (.agg #[.int .i64 3, .int .i64 0, .string n0B, .slice A 2 (capF 2 c)]) ∧ EIn w' Any (appE (.node tk tn tz tl) (.node sk sn sz sl)) A ∧ Below X.heap.size X w') := Lib.hid fun X hX A c hA B d hB => appq_any (.node tk tn tz tl) (.node sk sn sz sl) A B c d X hA hB
                        have HLA : Hid (∀ X, Below V.heap.size V X → ∀ (A : Option Addr) (c : Nat) (hA : EIn X Any (.node tk tn tz tl) A), Calls Try.prog 25 #[.agg #[.int .i64 tk, .int .i64 tn, .string tz, .slice A tl.length (capF tl.length c)]] X fun e w' => ∃ A c, e = .returned (.agg #[.int .i64 2, .int .i64 0, .string n0B, .slice A 1 (capF 1 c)]) ∧ EIn w' Any (lamE (.node tk tn tz tl)) A ∧ Below X.heap.size X w') := Lib.hid fun X hX A c hA => lamq_any (.node tk tn tz tl) A c X hA
                        have HFT : Hid (∀ X, Below V.heap.size V X → ∀ (A : Option Addr) (c : Nat) (hA : EIn X Any (.node tk tn tz tl) A), Calls Try.prog 18 #[.agg #[.int .i64 tk, .int .i64 tn, .string tz, .slice A tl.length (capF tl.length c)]] X fun e w' => e = .returned (.bool true) ∧ Below X.heap.size X w') := Lib.hid fun X hX A c hA => by
                          have h := affine_any (.node tk tn tz tl) A c X (by omega) (by omega) htt hA
                          rw [hav] at h
                          exact h
                        have HFS : Hid (∀ X, Below V.heap.size V X → ∀ (A : Option Addr) (c : Nat) (hA : EIn X Any (.node sk sn sz sl) A), Calls Try.prog 18 #[.agg #[.int .i64 sk, .int .i64 sn, .string sz, .slice A sl.length (capF sl.length c)]] X fun e w' => e = .returned (.bool false) ∧ Below X.heap.size X w') := Lib.hid fun X hX A c hA => by
                          have h := affine_any (.node sk sn sz sl) A c X (by omega) (by omega) hts hA
                          rw [hbv] at h
                          exact h
                        have HFA : Hid (∀ X, Below V.heap.size V X → ∀ (A : Option Addr) (c : Nat) (hA : EIn X Any (appE (.node tk tn tz tl) (.node sk sn sz sl)) A), Calls Try.prog 18 #[.agg #[.int .i64 3, .int .i64 0, .string n0B, .slice A 2 (capF 2 c)]] X fun e w' => e = .returned (.bool false) ∧ Below X.heap.size X w') := Lib.hid fun X hX A c hA => by
                          have h := affine_any (appE (.node tk tn tz tl) (.node sk sn sz sl)) A c X (by have := depth_app (.node tk tn tz tl) (.node sk sn sz sl); omega) (by have := size_app (.node tk tn tz tl) (.node sk sn sz sl); omega) (tame_app htt hts) hA
                          rw [hab] at h
                          exact h
                        have HFL : Hid (∀ X, Below V.heap.size V X → ∀ (A : Option Addr) (c : Nat) (hA : EIn X Any (lamE (.node tk tn tz tl)) A), Calls Try.prog 18 #[.agg #[.int .i64 2, .int .i64 0, .string n0B, .slice A 1 (capF 1 c)]] X fun e w' => e = .returned (.bool false) ∧ Below X.heap.size X w') := Lib.hid fun X hX A c hA => by
                          have h := affine_any (lamE (.node tk tn tz tl)) A c X (by have := depth_lam (.node tk tn tz tl); omega) (by have := size_lam (.node tk tn tz tl); omega) (tame_lam htt) hA
                          rw [hau] at h
                          exact h
                        have HFN : Hid (∀ X, Below V.heap.size V X → ∀ (A : Option Addr) (c : Nat) (hA : EIn X Any (.node tk tn tz tl) A), Calls Try.prog 20 #[.agg #[.int .i64 tk, .int .i64 tn, .string tz, .slice A tl.length (capF tl.length c)]] X fun e w' => e = .returned (.int .i64 fn) ∧ Below X.heap.size X w') := Lib.hid fun X hX A c hA => by
                          have h := fans_any (.node tk tn tz tl) A c X (by omega) (by omega) htt hA
                          rw [← HFN0.out] at h
                          exact h
                        have HUS : Hid (∀ X, Below V.heap.size V X → ∀ (A : Option Addr) (c : Nat) (hA : EIn X Any (.node tk tn tz tl) A), Calls Try.prog 29 #[.agg #[.int .i64 tk, .int .i64 tn, .string tz, .slice A tl.length (capF tl.length c)], .int .i64 0] X fun e w' => e = .returned (.int .i64 (nu : Int)) ∧ Below X.heap.size X w') := Lib.hid fun X hX A c hA => by
                          have h := ruses_any (depthE (.node tk tn tz tl)) (.node tk tn tz tl) A c 0 X (Nat.le_refl _) (by omega) (by omega) htt (by omega) (by omega) hA
                          rw [← HNU.out] at h
                          exact h
                        clear hx0 hx1
                        have hb_1 : Below V.heap.size V V := Below.refl _ _
                        refine wp_region_held_drew (S := (fun V' : World => (V'.cell? ⟨g0, 0, none⟩ = some (.int .i64 tk) ∧ V'.cell? ⟨g0, 1, none⟩ = some (.int .i64 tn) ∧ V'.cell? ⟨g0, 2, none⟩ = some (.string tz) ∧ V'.cell? ⟨g0, 3, none⟩ = some (.slice A0 tl.length (capF tl.length c0)) ∧ V'.cell? ⟨g1, 0, none⟩ = some (.int .i64 sk) ∧ V'.cell? ⟨g1, 1, none⟩ = some (.int .i64 sn) ∧ V'.cell? ⟨g1, 2, none⟩ = some (.string sz) ∧ V'.cell? ⟨g1, 3, none⟩ = some (.slice A1 sl.length (capF sl.length c1))))) rfl (HSS.out _ hb_1.drew) (fun hSs => ?_)
                        change wpAnyH _ _ _ _ _ 33 (Array.replicate 33 false) _ _
                        refine wpAnyH_take (i := 0) (oi := ⟨some 57, _, _, _, _, _⟩) (v := .agg #[.int .i64 tk, .int .i64 tn, .string tz, .slice A0 tl.length (capF tl.length c0)]) rfl (by kernel_rfl) (by kernel_rfl) (by kernel_rfl) (fun _ _ _ h => h) (.inl ⟨by kernel_rfl, fun W hW => by first | (obtain ⟨z0, z1, z2, z3, z4, z5, z6, z7⟩ := hW; go_simp; done) | (obtain ⟨z0, z1, z2, z3, z4, z5, z6, z7⟩ := hW; go_simp; omega) | (obtain ⟨z0, z1, z2, z3, z4, z5, z6, z7⟩ := hW; go_simp; exact IntWalk.i64_in _ (by omega)) | (obtain ⟨z0, z1, z2, z3, z4, z5, z6, z7⟩ := hW; go_simp; simp [*]; done)⟩) hSs ?_
                        try simp only [Act.put, List.setIfInBounds_toArray, List.set_cons_zero, List.set_cons_succ]
                        refine wpAnyH_take (i := 1) (oi := ⟨some 58, _, _, _, _, _⟩) (v := .agg #[.int .i64 sk, .int .i64 sn, .string sz, .slice A1 sl.length (capF sl.length c1)]) rfl (by kernel_rfl) (by kernel_rfl) (by kernel_rfl) (fun _ _ _ h => h) (.inl ⟨by kernel_rfl, fun W hW => by first | (obtain ⟨z0, z1, z2, z3, z4, z5, z6, z7⟩ := hW; go_simp; done) | (obtain ⟨z0, z1, z2, z3, z4, z5, z6, z7⟩ := hW; go_simp; omega) | (obtain ⟨z0, z1, z2, z3, z4, z5, z6, z7⟩ := hW; go_simp; exact IntWalk.i64_in _ (by omega)) | (obtain ⟨z0, z1, z2, z3, z4, z5, z6, z7⟩ := hW; go_simp; simp [*]; done)⟩) hSs ?_
                        try simp only [Act.put, List.setIfInBounds_toArray, List.set_cons_zero, List.set_cons_succ]
                        refine wpAnyH_take (i := 4) (oi := ⟨some 61, _, _, _, _, _⟩) (v := .agg #[.int .i64 tk, .int .i64 tn, .string tz, .slice A0 tl.length (capF tl.length c0)]) rfl (by kernel_rfl) (by kernel_rfl) (by kernel_rfl) (fun _ _ _ h => h) (.inl ⟨by kernel_rfl, fun W hW => by first | (obtain ⟨z0, z1, z2, z3, z4, z5, z6, z7⟩ := hW; go_simp; done) | (obtain ⟨z0, z1, z2, z3, z4, z5, z6, z7⟩ := hW; go_simp; omega) | (obtain ⟨z0, z1, z2, z3, z4, z5, z6, z7⟩ := hW; go_simp; exact IntWalk.i64_in _ (by omega)) | (obtain ⟨z0, z1, z2, z3, z4, z5, z6, z7⟩ := hW; go_simp; simp [*]; done)⟩) hSs ?_
                        try simp only [Act.put, List.setIfInBounds_toArray, List.set_cons_zero, List.set_cons_succ]
                        refine wpAnyH_ready (rs := [2]) (by kernel_rfl) (by simp) (AllReadyH.cons rfl (fun K hK => ?_) AllReadyH.nil)
                        go_simp
                        refine (HAP.out _ (hb_1.drew) A0 c0 (EIn.below _ ht0 (Below.refl _ _).drew (Nat.le_refl _)) A1 c1 (EIn.below _ ht1 (Below.refl _ _).drew (Nat.le_refl _))).mono ?_
                        rintro e u_2 ⟨A_2, c_2, rfl, hT_2, hq_2⟩
                        have hb_2 := (hb_1.drew).trans (hq_2.mono (hb_1.drew).size)
                        have ht0_2 := EIn.below _ (EIn.below _ ht0 (Below.refl _ _).drew (Nat.le_refl _)) hq_2 (Nat.le_refl _)
                        have ht1_2 := EIn.below _ (EIn.below _ ht1 (Below.refl _ _).drew (Nat.le_refl _)) hq_2 (Nat.le_refl _)
                        clear ht0 ht1
                        refine hK.out _ _ (HSS.out _ hb_2) (fun hS_2 => ?_)
                        clear hK K
                        try simp only [Act.put, List.setIfInBounds_toArray, List.set_cons_zero, List.set_cons_succ]
                        refine wpAnyH_ready (rs := [3]) (by kernel_rfl) (by simp) (AllReadyH.cons rfl (fun K hK => ?_) AllReadyH.nil)
                        go_simp
                        refine (HFA.out _ hb_2 A_2 c_2 hT_2).mono ?_
                        rintro e u_3 ⟨rfl, hq_3⟩
                        have hb_3 := hb_2.trans (hq_3.mono hb_2.size)
                        have ht0_2_3 := EIn.below _ ht0_2 hq_3 (Nat.le_refl _)
                        have ht1_2_3 := EIn.below _ ht1_2 hq_3 (Nat.le_refl _)
                        have hT_2_3 := EIn.below _ hT_2 hq_3 (Nat.le_refl _)
                        clear ht0_2 ht1_2 hT_2
                        refine hK.out _ _ (HSS.out _ hb_3) (fun hS_3 => ?_)
                        clear hK K
                        try simp only [Act.put, List.setIfInBounds_toArray, List.set_cons_zero, List.set_cons_succ]
                        refine wpAnyH_ready (rs := [5]) (by kernel_rfl) (by simp) (AllReadyH.cons rfl (fun K hK => ?_) AllReadyH.nil)
                        go_simp
                        refine (HFT.out _ hb_3 A0 c0 ht0_2_3).mono ?_
                        rintro e u_4 ⟨rfl, hq_4⟩
                        have hb_4 := hb_3.trans (hq_4.mono hb_3.size)
                        have ht0_2_3_4 := EIn.below _ ht0_2_3 hq_4 (Nat.le_refl _)
                        have ht1_2_3_4 := EIn.below _ ht1_2_3 hq_4 (Nat.le_refl _)
                        have hT_2_3_4 := EIn.below _ hT_2_3 hq_4 (Nat.le_refl _)
                        clear ht0_2_3 ht1_2_3 hT_2_3
                        refine hK.out _ _ (HSS.out _ hb_4) (fun hS_4 => ?_)
                        clear hK K
                        try simp only [Act.put, List.setIfInBounds_toArray, List.set_cons_zero, List.set_cons_succ]
                        refine wpAnyH_take (i := 6) (oi := ⟨some 63, _, _, _, _, _⟩) (v := .bool true) rfl (by kernel_rfl) (by kernel_rfl) (by kernel_rfl) (fun _ _ _ h => h) (.inl ⟨by kernel_rfl, fun W hW => by kernel_rfl⟩) hS_4 ?_
                        try simp only [Act.put, List.setIfInBounds_toArray, List.set_cons_zero, List.set_cons_succ]
                        refine wpAnyH_take (i := 7) (oi := ⟨some 64, _, _, _, _, _⟩) (v := .agg #[.int .i64 sk, .int .i64 sn, .string sz, .slice A1 sl.length (capF sl.length c1)]) rfl (by kernel_rfl) (by kernel_rfl) (by kernel_rfl) (fun _ _ _ h => h) (.inl ⟨by kernel_rfl, fun W hW => by first | (obtain ⟨z0, z1, z2, z3, z4, z5, z6, z7⟩ := hW; go_simp; done) | (obtain ⟨z0, z1, z2, z3, z4, z5, z6, z7⟩ := hW; go_simp; omega) | (obtain ⟨z0, z1, z2, z3, z4, z5, z6, z7⟩ := hW; go_simp; exact IntWalk.i64_in _ (by omega)) | (obtain ⟨z0, z1, z2, z3, z4, z5, z6, z7⟩ := hW; go_simp; simp [*]; done)⟩) hS_4 ?_
                        try simp only [Act.put, List.setIfInBounds_toArray, List.set_cons_zero, List.set_cons_succ]
                        refine wpAnyH_ready (rs := [8]) (by kernel_rfl) (by simp) (AllReadyH.cons rfl (fun K hK => ?_) AllReadyH.nil)
                        rw [if_pos (by kernel_rfl)]
                        go_simp
                        refine (HFS.out _ hb_4 A1 c1 ht1_2_3_4).mono ?_
                        rintro e u_5 ⟨rfl, hq_5⟩
                        have hb_5 := hb_4.trans (hq_5.mono hb_4.size)
                        have ht0_2_3_4_5 := EIn.below _ ht0_2_3_4 hq_5 (Nat.le_refl _)
                        have ht1_2_3_4_5 := EIn.below _ ht1_2_3_4 hq_5 (Nat.le_refl _)
                        have hT_2_3_4_5 := EIn.below _ hT_2_3_4 hq_5 (Nat.le_refl _)
                        clear ht0_2_3_4 ht1_2_3_4 hT_2_3_4
                        refine hK.out _ _ (HSS.out _ hb_5) (fun hS_5 => ?_)
                        clear hK K
                        try simp only [Act.put, List.setIfInBounds_toArray, List.set_cons_zero, List.set_cons_succ]
                        refine wpAnyH_take (i := 9) (oi := ⟨some 66, _, _, _, _, _⟩) (v := .bool false) rfl (by kernel_rfl) (by kernel_rfl) (by kernel_rfl) (fun _ _ _ h => h) (.inl ⟨by kernel_rfl, fun W hW => by kernel_rfl⟩) hS_5 ?_
                        try simp only [Act.put, List.setIfInBounds_toArray, List.set_cons_zero, List.set_cons_succ]
                        refine wpAnyH_take (i := 10) (oi := ⟨some 67, _, _, _, _, _⟩) (v := .bool true) rfl (by kernel_rfl) (by kernel_rfl) (by kernel_rfl) (fun _ _ _ h => h) (.inl ⟨by kernel_rfl, fun W hW => by first | (obtain ⟨z0, z1, z2, z3, z4, z5, z6, z7⟩ := hW; go_simp; done) | (obtain ⟨z0, z1, z2, z3, z4, z5, z6, z7⟩ := hW; go_simp; omega) | (obtain ⟨z0, z1, z2, z3, z4, z5, z6, z7⟩ := hW; go_simp; exact IntWalk.i64_in _ (by omega)) | (obtain ⟨z0, z1, z2, z3, z4, z5, z6, z7⟩ := hW; go_simp; simp [*]; done)⟩) hS_5 ?_
                        try simp only [Act.put, List.setIfInBounds_toArray, List.set_cons_zero, List.set_cons_succ]
                        refine wpAnyH_take (i := 11) (oi := ⟨some 68, _, _, _, _, _⟩) (v := .bool true) rfl (by kernel_rfl) (by kernel_rfl) (by kernel_rfl) (fun _ _ _ h => h) (.inl ⟨by kernel_rfl, fun W hW => by kernel_rfl⟩) hS_5 ?_
                        try simp only [Act.put, List.setIfInBounds_toArray, List.set_cons_zero, List.set_cons_succ]
                        refine wpAnyH_take (i := 12) (oi := ⟨some 69, _, _, _, _, _⟩) (v := .agg #[.int .i64 tk, .int .i64 tn, .string tz, .slice A0 tl.length (capF tl.length c0)]) rfl (by kernel_rfl) (by kernel_rfl) (by kernel_rfl) (fun _ _ _ h => h) (.inl ⟨by kernel_rfl, fun W hW => by first | (obtain ⟨z0, z1, z2, z3, z4, z5, z6, z7⟩ := hW; go_simp; done) | (obtain ⟨z0, z1, z2, z3, z4, z5, z6, z7⟩ := hW; go_simp; omega) | (obtain ⟨z0, z1, z2, z3, z4, z5, z6, z7⟩ := hW; go_simp; exact IntWalk.i64_in _ (by omega)) | (obtain ⟨z0, z1, z2, z3, z4, z5, z6, z7⟩ := hW; go_simp; simp [*]; done)⟩) hS_5 ?_
                        try simp only [Act.put, List.setIfInBounds_toArray, List.set_cons_zero, List.set_cons_succ]
                        refine wpAnyH_take (i := 15) (oi := ⟨some 72, _, _, _, _, _⟩) (v := .agg #[.int .i64 tk, .int .i64 tn, .string tz, .slice A0 tl.length (capF tl.length c0)]) rfl (by kernel_rfl) (by kernel_rfl) (by kernel_rfl) (fun _ _ _ h => h) (.inl ⟨by kernel_rfl, fun W hW => by first | (obtain ⟨z0, z1, z2, z3, z4, z5, z6, z7⟩ := hW; go_simp; done) | (obtain ⟨z0, z1, z2, z3, z4, z5, z6, z7⟩ := hW; go_simp; omega) | (obtain ⟨z0, z1, z2, z3, z4, z5, z6, z7⟩ := hW; go_simp; exact IntWalk.i64_in _ (by omega)) | (obtain ⟨z0, z1, z2, z3, z4, z5, z6, z7⟩ := hW; go_simp; simp [*]; done)⟩) hS_5 ?_
                        try simp only [Act.put, List.setIfInBounds_toArray, List.set_cons_zero, List.set_cons_succ]
                        refine wpAnyH_ready (rs := [13]) (by kernel_rfl) (by simp) (AllReadyH.cons rfl (fun K hK => ?_) AllReadyH.nil)
                        rw [if_pos (by kernel_rfl)]
                        go_simp
                        refine (HLA.out _ hb_5 A0 c0 ht0_2_3_4_5).mono ?_
                        rintro e u_6 ⟨A_6, c_6, rfl, hT_6, hq_6⟩
                        have hb_6 := hb_5.trans (hq_6.mono hb_5.size)
                        have ht0_2_3_4_5_6 := EIn.below _ ht0_2_3_4_5 hq_6 (Nat.le_refl _)
                        have ht1_2_3_4_5_6 := EIn.below _ ht1_2_3_4_5 hq_6 (Nat.le_refl _)
                        have hT_2_3_4_5_6 := EIn.below _ hT_2_3_4_5 hq_6 (Nat.le_refl _)
                        clear ht0_2_3_4_5 ht1_2_3_4_5 hT_2_3_4_5
                        refine hK.out _ _ (HSS.out _ hb_6) (fun hS_6 => ?_)
                        clear hK K
                        try simp only [Act.put, List.setIfInBounds_toArray, List.set_cons_zero, List.set_cons_succ]
                        refine wpAnyH_ready (rs := [14]) (by kernel_rfl) (by simp) (AllReadyH.cons rfl (fun K hK => ?_) AllReadyH.nil)
                        rw [if_pos (by kernel_rfl)]
                        go_simp
                        refine (HFL.out _ hb_6 A_6 c_6 hT_6).mono ?_
                        rintro e u_7 ⟨rfl, hq_7⟩
                        have hb_7 := hb_6.trans (hq_7.mono hb_6.size)
                        have ht0_2_3_4_5_6_7 := EIn.below _ ht0_2_3_4_5_6 hq_7 (Nat.le_refl _)
                        have ht1_2_3_4_5_6_7 := EIn.below _ ht1_2_3_4_5_6 hq_7 (Nat.le_refl _)
                        have hT_2_3_4_5_6_7 := EIn.below _ hT_2_3_4_5_6 hq_7 (Nat.le_refl _)
                        have hT_6_7 := EIn.below _ hT_6 hq_7 (Nat.le_refl _)
                        clear ht0_2_3_4_5_6 ht1_2_3_4_5_6 hT_2_3_4_5_6 hT_6
                        refine hK.out _ _ (HSS.out _ hb_7) (fun hS_7 => ?_)
                        clear hK K
                        try simp only [Act.put, List.setIfInBounds_toArray, List.set_cons_zero, List.set_cons_succ]
                        refine wpAnyH_ready (rs := [16]) (by kernel_rfl) (by simp) (AllReadyH.cons rfl (fun K hK => ?_) AllReadyH.nil)
                        rw [if_pos (by kernel_rfl)]
                        go_simp
                        refine (HFT.out _ hb_7 A0 c0 ht0_2_3_4_5_6_7).mono ?_
                        rintro e u_8 ⟨rfl, hq_8⟩
                        have hb_8 := hb_7.trans (hq_8.mono hb_7.size)
                        have ht0_2_3_4_5_6_7_8 := EIn.below _ ht0_2_3_4_5_6_7 hq_8 (Nat.le_refl _)
                        have ht1_2_3_4_5_6_7_8 := EIn.below _ ht1_2_3_4_5_6_7 hq_8 (Nat.le_refl _)
                        have hT_2_3_4_5_6_7_8 := EIn.below _ hT_2_3_4_5_6_7 hq_8 (Nat.le_refl _)
                        have hT_6_7_8 := EIn.below _ hT_6_7 hq_8 (Nat.le_refl _)
                        clear ht0_2_3_4_5_6_7 ht1_2_3_4_5_6_7 hT_2_3_4_5_6_7 hT_6_7
                        refine hK.out _ _ (HSS.out _ hb_8) (fun hS_8 => ?_)
                        clear hK K
                        try simp only [Act.put, List.setIfInBounds_toArray, List.set_cons_zero, List.set_cons_succ]
                        refine wpAnyH_take (i := 17) (oi := ⟨some 74, _, _, _, _, _⟩) (v := .bool true) rfl (by kernel_rfl) (by kernel_rfl) (by kernel_rfl) (fun _ _ _ h => h) (.inl ⟨by kernel_rfl, fun W hW => by kernel_rfl⟩) hS_8 ?_
                        try simp only [Act.put, List.setIfInBounds_toArray, List.set_cons_zero, List.set_cons_succ]
                        refine wpAnyH_take (i := 18) (oi := ⟨some 75, _, _, _, _, _⟩) (v := .agg #[.int .i64 tk, .int .i64 tn, .string tz, .slice A0 tl.length (capF tl.length c0)]) rfl (by kernel_rfl) (by kernel_rfl) (by kernel_rfl) (fun _ _ _ h => h) (.inl ⟨by kernel_rfl, fun W hW => by first | (obtain ⟨z0, z1, z2, z3, z4, z5, z6, z7⟩ := hW; go_simp; done) | (obtain ⟨z0, z1, z2, z3, z4, z5, z6, z7⟩ := hW; go_simp; omega) | (obtain ⟨z0, z1, z2, z3, z4, z5, z6, z7⟩ := hW; go_simp; exact IntWalk.i64_in _ (by omega)) | (obtain ⟨z0, z1, z2, z3, z4, z5, z6, z7⟩ := hW; go_simp; simp [*]; done)⟩) hS_8 ?_
                        try simp only [Act.put, List.setIfInBounds_toArray, List.set_cons_zero, List.set_cons_succ]
                        refine wpAnyH_ready (rs := [19]) (by kernel_rfl) (by simp) (AllReadyH.cons rfl (fun K hK => ?_) AllReadyH.nil)
                        rw [if_pos (by kernel_rfl)]
                        go_simp
                        refine (HUS.out _ hb_8 A0 c0 ht0_2_3_4_5_6_7_8).mono ?_
                        rintro e u_9 ⟨rfl, hq_9⟩
                        have hb_9 := hb_8.trans (hq_9.mono hb_8.size)
                        have ht0_2_3_4_5_6_7_8_9 := EIn.below _ ht0_2_3_4_5_6_7_8 hq_9 (Nat.le_refl _)
                        have ht1_2_3_4_5_6_7_8_9 := EIn.below _ ht1_2_3_4_5_6_7_8 hq_9 (Nat.le_refl _)
                        have hT_2_3_4_5_6_7_8_9 := EIn.below _ hT_2_3_4_5_6_7_8 hq_9 (Nat.le_refl _)
                        have hT_6_7_8_9 := EIn.below _ hT_6_7_8 hq_9 (Nat.le_refl _)
                        clear ht0_2_3_4_5_6_7_8 ht1_2_3_4_5_6_7_8 hT_2_3_4_5_6_7_8 hT_6_7_8
                        refine hK.out _ _ (HSS.out _ hb_9) (fun hS_9 => ?_)
                        clear hK K
                        try simp only [Act.put, List.setIfInBounds_toArray, List.set_cons_zero, List.set_cons_succ]
                        refine wpAnyH_take (i := 20) (oi := ⟨some 77, _, _, _, _, _⟩) (v := .bool false) rfl (by kernel_rfl) (by kernel_rfl) (by kernel_rfl) (fun _ _ _ h => h) (.inl ⟨by kernel_rfl, fun W hW => by first | (obtain ⟨z0, z1, z2, z3, z4, z5, z6, z7⟩ := hW; go_simp; done) | (obtain ⟨z0, z1, z2, z3, z4, z5, z6, z7⟩ := hW; go_simp; omega) | (obtain ⟨z0, z1, z2, z3, z4, z5, z6, z7⟩ := hW; go_simp; exact IntWalk.i64_in _ (by omega)) | (obtain ⟨z0, z1, z2, z3, z4, z5, z6, z7⟩ := hW; go_simp; simp [*]; done)⟩) hS_9 ?_
                        try simp only [Act.put, List.setIfInBounds_toArray, List.set_cons_zero, List.set_cons_succ]
                        refine wpAnyH_take (i := 21) (oi := ⟨some 78, _, _, _, _, _⟩) (v := .bool false) rfl (by kernel_rfl) (by kernel_rfl) (by kernel_rfl) (fun _ _ _ h => h) (.inl ⟨by kernel_rfl, fun W hW => by kernel_rfl⟩) hS_9 ?_
                        try simp only [Act.put, List.setIfInBounds_toArray, List.set_cons_zero, List.set_cons_succ]
                        refine wpAnyH_take (i := 22) (oi := ⟨some 79, _, _, _, _, _⟩) (v := .bool true) rfl (by kernel_rfl) (by kernel_rfl) (by kernel_rfl) (fun _ _ _ h => h) (.inl ⟨by kernel_rfl, fun W hW => by first | (obtain ⟨z0, z1, z2, z3, z4, z5, z6, z7⟩ := hW; go_simp; done) | (obtain ⟨z0, z1, z2, z3, z4, z5, z6, z7⟩ := hW; go_simp; omega) | (obtain ⟨z0, z1, z2, z3, z4, z5, z6, z7⟩ := hW; go_simp; exact IntWalk.i64_in _ (by omega)) | (obtain ⟨z0, z1, z2, z3, z4, z5, z6, z7⟩ := hW; go_simp; simp [*]; done)⟩) hS_9 ?_
                        try simp only [Act.put, List.setIfInBounds_toArray, List.set_cons_zero, List.set_cons_succ]
                        refine wpAnyH_take (i := 23) (oi := ⟨some 80, _, _, _, _, _⟩) (v := .bool true) rfl (by kernel_rfl) (by kernel_rfl) (by kernel_rfl) (fun _ _ _ h => h) (.inl ⟨by kernel_rfl, fun W hW => by kernel_rfl⟩) hS_9 ?_
                        try simp only [Act.put, List.setIfInBounds_toArray, List.set_cons_zero, List.set_cons_succ]
                        refine wpAnyH_take (i := 24) (oi := ⟨some 81, _, _, _, _, _⟩) (v := .bool true) rfl (by kernel_rfl) (by kernel_rfl) (by kernel_rfl) (fun _ _ _ h => h) (.inl ⟨by kernel_rfl, fun W hW => by kernel_rfl⟩) hS_9 ?_
                        try simp only [Act.put, List.setIfInBounds_toArray, List.set_cons_zero, List.set_cons_succ]
                        refine wpAnyH_take (i := 25) (oi := ⟨some 82, _, _, _, _, _⟩) (v := .agg #[.int .i64 tk, .int .i64 tn, .string tz, .slice A0 tl.length (capF tl.length c0)]) rfl (by kernel_rfl) (by kernel_rfl) (by kernel_rfl) (fun _ _ _ h => h) (.inl ⟨by kernel_rfl, fun W hW => by first | (obtain ⟨z0, z1, z2, z3, z4, z5, z6, z7⟩ := hW; go_simp; done) | (obtain ⟨z0, z1, z2, z3, z4, z5, z6, z7⟩ := hW; go_simp; omega) | (obtain ⟨z0, z1, z2, z3, z4, z5, z6, z7⟩ := hW; go_simp; exact IntWalk.i64_in _ (by omega)) | (obtain ⟨z0, z1, z2, z3, z4, z5, z6, z7⟩ := hW; go_simp; simp [*]; done)⟩) hS_9 ?_
                        try simp only [Act.put, List.setIfInBounds_toArray, List.set_cons_zero, List.set_cons_succ]
                        refine wpAnyH_take (i := 27) (oi := ⟨some 84, _, _, _, _, _⟩) (v := .agg #[.int .i64 tk, .int .i64 tn, .string tz, .slice A0 tl.length (capF tl.length c0)]) rfl (by kernel_rfl) (by kernel_rfl) (by kernel_rfl) (fun _ _ _ h => h) (.inl ⟨by kernel_rfl, fun W hW => by first | (obtain ⟨z0, z1, z2, z3, z4, z5, z6, z7⟩ := hW; go_simp; done) | (obtain ⟨z0, z1, z2, z3, z4, z5, z6, z7⟩ := hW; go_simp; omega) | (obtain ⟨z0, z1, z2, z3, z4, z5, z6, z7⟩ := hW; go_simp; exact IntWalk.i64_in _ (by omega)) | (obtain ⟨z0, z1, z2, z3, z4, z5, z6, z7⟩ := hW; go_simp; simp [*]; done)⟩) hS_9 ?_
                        try simp only [Act.put, List.setIfInBounds_toArray, List.set_cons_zero, List.set_cons_succ]
                        refine wpAnyH_ready (rs := [26]) (by kernel_rfl) (by simp) (AllReadyH.cons rfl (fun K hK => ?_) AllReadyH.nil)
                        rw [if_pos (by kernel_rfl)]
                        go_simp
                        refine (HFT.out _ hb_9 A0 c0 ht0_2_3_4_5_6_7_8_9).mono ?_
                        rintro e u_10 ⟨rfl, hq_10⟩
                        have hb_10 := hb_9.trans (hq_10.mono hb_9.size)
                        have ht0_2_3_4_5_6_7_8_9_10 := EIn.below _ ht0_2_3_4_5_6_7_8_9 hq_10 (Nat.le_refl _)
                        have ht1_2_3_4_5_6_7_8_9_10 := EIn.below _ ht1_2_3_4_5_6_7_8_9 hq_10 (Nat.le_refl _)
                        have hT_2_3_4_5_6_7_8_9_10 := EIn.below _ hT_2_3_4_5_6_7_8_9 hq_10 (Nat.le_refl _)
                        have hT_6_7_8_9_10 := EIn.below _ hT_6_7_8_9 hq_10 (Nat.le_refl _)
                        clear ht0_2_3_4_5_6_7_8_9 ht1_2_3_4_5_6_7_8_9 hT_2_3_4_5_6_7_8_9 hT_6_7_8_9
                        refine hK.out _ _ (HSS.out _ hb_10) (fun hS_10 => ?_)
                        clear hK K
                        try simp only [Act.put, List.setIfInBounds_toArray, List.set_cons_zero, List.set_cons_succ]
                        refine wpAnyH_ready (rs := [28]) (by kernel_rfl) (by simp) (AllReadyH.cons rfl (fun K hK => ?_) AllReadyH.nil)
                        rw [if_pos (by kernel_rfl)]
                        go_simp
                        refine (HFN.out _ hb_10 A0 c0 ht0_2_3_4_5_6_7_8_9_10).mono ?_
                        rintro e u_11 ⟨rfl, hq_11⟩
                        have hb_11 := hb_10.trans (hq_11.mono hb_10.size)
                        have ht0_2_3_4_5_6_7_8_9_10_11 := EIn.below _ ht0_2_3_4_5_6_7_8_9_10 hq_11 (Nat.le_refl _)
                        have ht1_2_3_4_5_6_7_8_9_10_11 := EIn.below _ ht1_2_3_4_5_6_7_8_9_10 hq_11 (Nat.le_refl _)
                        have hT_2_3_4_5_6_7_8_9_10_11 := EIn.below _ hT_2_3_4_5_6_7_8_9_10 hq_11 (Nat.le_refl _)
                        have hT_6_7_8_9_10_11 := EIn.below _ hT_6_7_8_9_10 hq_11 (Nat.le_refl _)
                        clear ht0_2_3_4_5_6_7_8_9_10 ht1_2_3_4_5_6_7_8_9_10 hT_2_3_4_5_6_7_8_9_10 hT_6_7_8_9_10
                        refine hK.out _ _ (HSS.out _ hb_11) (fun hS_11 => ?_)
                        clear hK K
                        try simp only [Act.put, List.setIfInBounds_toArray, List.set_cons_zero, List.set_cons_succ]
                        refine wpAnyH_take (i := 29) (oi := ⟨some 86, _, _, _, _, _⟩) (v := .bool true) rfl (by kernel_rfl) (by kernel_rfl) (by kernel_rfl) (fun _ _ _ h => h) (.inl ⟨by kernel_rfl, fun W hW => by first | (obtain ⟨z0, z1, z2, z3, z4, z5, z6, z7⟩ := hW; go_simp; done) | (obtain ⟨z0, z1, z2, z3, z4, z5, z6, z7⟩ := hW; go_simp; omega) | (obtain ⟨z0, z1, z2, z3, z4, z5, z6, z7⟩ := hW; go_simp; exact IntWalk.i64_in _ (by omega)) | (obtain ⟨z0, z1, z2, z3, z4, z5, z6, z7⟩ := hW; go_simp; simp [*]; done)⟩) hS_11 ?_
                        try simp only [Act.put, List.setIfInBounds_toArray, List.set_cons_zero, List.set_cons_succ]
                        refine wpAnyH_take (i := 30) (oi := ⟨some 87, _, _, _, _, _⟩) (v := .bool true) rfl (by kernel_rfl) (by kernel_rfl) (by kernel_rfl) (fun _ _ _ h => h) (.inl ⟨by kernel_rfl, fun W hW => by first | (obtain ⟨z0, z1, z2, z3, z4, z5, z6, z7⟩ := hW; go_simp; done) | (obtain ⟨z0, z1, z2, z3, z4, z5, z6, z7⟩ := hW; go_simp; omega) | (obtain ⟨z0, z1, z2, z3, z4, z5, z6, z7⟩ := hW; go_simp; exact IntWalk.i64_in _ (by omega)) | (obtain ⟨z0, z1, z2, z3, z4, z5, z6, z7⟩ := hW; go_simp; simp [*]; done)⟩) hS_11 ?_
                        try simp only [Act.put, List.setIfInBounds_toArray, List.set_cons_zero, List.set_cons_succ]
                        refine wpAnyH_take (i := 31) (oi := ⟨some 88, _, _, _, _, _⟩) (v := .bool true) rfl (by kernel_rfl) (by kernel_rfl) (by kernel_rfl) (fun _ _ _ h => h) (.inl ⟨by kernel_rfl, fun W hW => by kernel_rfl⟩) hS_11 ?_
                        try simp only [Act.put, List.setIfInBounds_toArray, List.set_cons_zero, List.set_cons_succ]
                        refine wpAnyH_take (i := 32) (oi := ⟨some 4, _, _, _, _, _⟩) (v := .bool true) rfl (by kernel_rfl) (by kernel_rfl) (by kernel_rfl) (fun _ _ _ h => h) (.inl ⟨by kernel_rfl, fun W hW => by kernel_rfl⟩) hS_11 ?_
                        try simp only [Act.put, List.setIfInBounds_toArray, List.set_cons_zero, List.set_cons_succ]
                        refine wpAnyH_done (by kernel_rfl) ?_ _
                        go_wp2_with fail
                        go_ret
                        exact ⟨rfl, HB.out.trans (hb_11.mono HB.out.size)⟩
                    · have hab : affB (ofE (appE (.node tk tn tz tl) (.node sk sn sz sl))) = true := by rw [ofE_app, affB_app, hav, hbv]; rfl
                      by_cases hu : nu < 2
                      · have hau : affB (ofE (lamE (.node tk tn tz tl))) = true := by rw [ofE_lam, affB_cons, hav, Bool.and_true, ← HNU.out]; exact decide_eq_true (by omega)
                        have huv : (nu : Int) < 2 := by omega
                        go_upto_region 8 with fail
                        obtain ⟨g0, hg0⟩ : ∃ g, g = w.heap.size := ⟨_, rfl⟩
                        obtain ⟨g1, hg1⟩ : ∃ g, g = w.heap.size + 1 := ⟨_, rfl⟩
                        have hx0 := HX0.out
                        have hx1 := HX1.out
                        rw [← hg0] at hx0
                        rw [← hg1] at hx1
                        rw [← hg1, ← hg0]
                        clear hg0 hg1 HX0 HX1
                        generalize V9 = V at hx0 hx1 ⊢
                        have ht0 := hx0.tin
                        have ht1 := hx1.tin
                        have HB := Lib.hid hx0.bw
                        have HSS : Hid (∀ V', Below V.heap.size V V' → (fun V' : World => (V'.cell? ⟨g0, 0, none⟩ = some (.int .i64 tk) ∧ V'.cell? ⟨g0, 1, none⟩ = some (.int .i64 tn) ∧ V'.cell? ⟨g0, 2, none⟩ = some (.string tz) ∧ V'.cell? ⟨g0, 3, none⟩ = some (.slice A0 tl.length (capF tl.length c0)) ∧ V'.cell? ⟨g1, 0, none⟩ = some (.int .i64 sk) ∧ V'.cell? ⟨g1, 1, none⟩ = some (.int .i64 sn) ∧ V'.cell? ⟨g1, 2, none⟩ = some (.string sz) ∧ V'.cell? ⟨g1, 3, none⟩ = some (.slice A1 sl.length (capF sl.length c1)))) V') := Lib.hid fun V' h =>
                          ⟨(h.cell (p := ⟨g0, 0, none⟩) hx0.box.lt).trans (hx0.box.cell 0), (h.cell (p := ⟨g0, 1, none⟩) hx0.box.lt).trans (hx0.box.cell 1), (h.cell (p := ⟨g0, 2, none⟩) hx0.box.lt).trans (hx0.box.cell 2), (h.cell (p := ⟨g0, 3, none⟩) hx0.box.lt).trans (hx0.box.cell 3), (h.cell (p := ⟨g1, 0, none⟩) hx1.box.lt).trans (hx1.box.cell 0), (h.cell (p := ⟨g1, 1, none⟩) hx1.box.lt).trans (hx1.box.cell 1), (h.cell (p := ⟨g1, 2, none⟩) hx1.box.lt).trans (hx1.box.cell 2), (h.cell (p := ⟨g1, 3, none⟩) hx1.box.lt).trans (hx1.box.cell 3)⟩
                        have HAP : Hid (∀ X, Below V.heap.size V X → ∀ (A : Option Addr) (c : Nat) (hA : EIn X Any (.node tk tn tz tl) A) (B : Option Addr) (d : Nat) (hB : EIn X Any (.node sk sn sz sl) B), Calls Try.prog 26 #[.agg #[.int .i64 tk, .int .i64 tn, .string tz, .slice A tl.length (capF tl.length c)], .agg #[.int .i64 sk, .int .i64 sn, .string sz, .slice B sl.length (capF sl.length d)]] X fun e w' => ∃ A c, e = .returned (.agg #[.int .i64 3, .int .i64 0, .string n0B, .slice A 2 (capF 2 c)]) ∧ EIn w' Any (appE (.node tk tn tz tl) (.node sk sn sz sl)) A ∧ Below X.heap.size X w') := Lib.hid fun X hX A c hA B d hB => appq_any (.node tk tn tz tl) (.node sk sn sz sl) A B c d X hA hB
                        have HLA : Hid (∀ X, Below V.heap.size V X → ∀ (A : Option Addr) (c : Nat) (hA : EIn X Any (.node tk tn tz tl) A), Calls Try.prog 25 #[.agg #[.int .i64 tk, .int .i64 tn, .string tz, .slice A tl.length (capF tl.length c)]] X fun e w' => ∃ A c, e = .returned (.agg #[.int .i64 2, .int .i64 0, .string n0B, .slice A 1 (capF 1 c)]) ∧ EIn w' Any (lamE (.node tk tn tz tl)) A ∧ Below X.heap.size X w') := Lib.hid fun X hX A c hA => lamq_any (.node tk tn tz tl) A c X hA
                        have HFT : Hid (∀ X, Below V.heap.size V X → ∀ (A : Option Addr) (c : Nat) (hA : EIn X Any (.node tk tn tz tl) A), Calls Try.prog 18 #[.agg #[.int .i64 tk, .int .i64 tn, .string tz, .slice A tl.length (capF tl.length c)]] X fun e w' => e = .returned (.bool true) ∧ Below X.heap.size X w') := Lib.hid fun X hX A c hA => by
                          have h := affine_any (.node tk tn tz tl) A c X (by omega) (by omega) htt hA
                          rw [hav] at h
                          exact h
                        have HFS : Hid (∀ X, Below V.heap.size V X → ∀ (A : Option Addr) (c : Nat) (hA : EIn X Any (.node sk sn sz sl) A), Calls Try.prog 18 #[.agg #[.int .i64 sk, .int .i64 sn, .string sz, .slice A sl.length (capF sl.length c)]] X fun e w' => e = .returned (.bool true) ∧ Below X.heap.size X w') := Lib.hid fun X hX A c hA => by
                          have h := affine_any (.node sk sn sz sl) A c X (by omega) (by omega) hts hA
                          rw [hbv] at h
                          exact h
                        have HFA : Hid (∀ X, Below V.heap.size V X → ∀ (A : Option Addr) (c : Nat) (hA : EIn X Any (appE (.node tk tn tz tl) (.node sk sn sz sl)) A), Calls Try.prog 18 #[.agg #[.int .i64 3, .int .i64 0, .string n0B, .slice A 2 (capF 2 c)]] X fun e w' => e = .returned (.bool true) ∧ Below X.heap.size X w') := Lib.hid fun X hX A c hA => by
                          have h := affine_any (appE (.node tk tn tz tl) (.node sk sn sz sl)) A c X (by have := depth_app (.node tk tn tz tl) (.node sk sn sz sl); omega) (by have := size_app (.node tk tn tz tl) (.node sk sn sz sl); omega) (tame_app htt hts) hA
                          rw [hab] at h
                          exact h
                        have HFL : Hid (∀ X, Below V.heap.size V X → ∀ (A : Option Addr) (c : Nat) (hA : EIn X Any (lamE (.node tk tn tz tl)) A), Calls Try.prog 18 #[.agg #[.int .i64 2, .int .i64 0, .string n0B, .slice A 1 (capF 1 c)]] X fun e w' => e = .returned (.bool true) ∧ Below X.heap.size X w') := Lib.hid fun X hX A c hA => by
                          have h := affine_any (lamE (.node tk tn tz tl)) A c X (by have := depth_lam (.node tk tn tz tl); omega) (by have := size_lam (.node tk tn tz tl); omega) (tame_lam htt) hA
                          rw [hau] at h
                          exact h
                        have HFN : Hid (∀ X, Below V.heap.size V X → ∀ (A : Option Addr) (c : Nat) (hA : EIn X Any (.node tk tn tz tl) A), Calls Try.prog 20 #[.agg #[.int .i64 tk, .int .i64 tn, .string tz, .slice A tl.length (capF tl.length c)]] X fun e w' => e = .returned (.int .i64 fn) ∧ Below X.heap.size X w') := Lib.hid fun X hX A c hA => by
                          have h := fans_any (.node tk tn tz tl) A c X (by omega) (by omega) htt hA
                          rw [← HFN0.out] at h
                          exact h
                        have HUS : Hid (∀ X, Below V.heap.size V X → ∀ (A : Option Addr) (c : Nat) (hA : EIn X Any (.node tk tn tz tl) A), Calls Try.prog 29 #[.agg #[.int .i64 tk, .int .i64 tn, .string tz, .slice A tl.length (capF tl.length c)], .int .i64 0] X fun e w' => e = .returned (.int .i64 (nu : Int)) ∧ Below X.heap.size X w') := Lib.hid fun X hX A c hA => by
                          have h := ruses_any (depthE (.node tk tn tz tl)) (.node tk tn tz tl) A c 0 X (Nat.le_refl _) (by omega) (by omega) htt (by omega) (by omega) hA
                          rw [← HNU.out] at h
                          exact h
                        clear hx0 hx1
                        have hb_1 : Below V.heap.size V V := Below.refl _ _
                        refine wp_region_held_drew (S := (fun V' : World => (V'.cell? ⟨g0, 0, none⟩ = some (.int .i64 tk) ∧ V'.cell? ⟨g0, 1, none⟩ = some (.int .i64 tn) ∧ V'.cell? ⟨g0, 2, none⟩ = some (.string tz) ∧ V'.cell? ⟨g0, 3, none⟩ = some (.slice A0 tl.length (capF tl.length c0)) ∧ V'.cell? ⟨g1, 0, none⟩ = some (.int .i64 sk) ∧ V'.cell? ⟨g1, 1, none⟩ = some (.int .i64 sn) ∧ V'.cell? ⟨g1, 2, none⟩ = some (.string sz) ∧ V'.cell? ⟨g1, 3, none⟩ = some (.slice A1 sl.length (capF sl.length c1))))) rfl (HSS.out _ hb_1.drew) (fun hSs => ?_)
                        change wpAnyH _ _ _ _ _ 33 (Array.replicate 33 false) _ _
                        refine wpAnyH_take (i := 0) (oi := ⟨some 57, _, _, _, _, _⟩) (v := .agg #[.int .i64 tk, .int .i64 tn, .string tz, .slice A0 tl.length (capF tl.length c0)]) rfl (by kernel_rfl) (by kernel_rfl) (by kernel_rfl) (fun _ _ _ h => h) (.inl ⟨by kernel_rfl, fun W hW => by first | (obtain ⟨z0, z1, z2, z3, z4, z5, z6, z7⟩ := hW; go_simp; done) | (obtain ⟨z0, z1, z2, z3, z4, z5, z6, z7⟩ := hW; go_simp; omega) | (obtain ⟨z0, z1, z2, z3, z4, z5, z6, z7⟩ := hW; go_simp; exact IntWalk.i64_in _ (by omega)) | (obtain ⟨z0, z1, z2, z3, z4, z5, z6, z7⟩ := hW; go_simp; simp [*]; done)⟩) hSs ?_
                        try simp only [Act.put, List.setIfInBounds_toArray, List.set_cons_zero, List.set_cons_succ]
                        refine wpAnyH_take (i := 1) (oi := ⟨some 58, _, _, _, _, _⟩) (v := .agg #[.int .i64 sk, .int .i64 sn, .string sz, .slice A1 sl.length (capF sl.length c1)]) rfl (by kernel_rfl) (by kernel_rfl) (by kernel_rfl) (fun _ _ _ h => h) (.inl ⟨by kernel_rfl, fun W hW => by first | (obtain ⟨z0, z1, z2, z3, z4, z5, z6, z7⟩ := hW; go_simp; done) | (obtain ⟨z0, z1, z2, z3, z4, z5, z6, z7⟩ := hW; go_simp; omega) | (obtain ⟨z0, z1, z2, z3, z4, z5, z6, z7⟩ := hW; go_simp; exact IntWalk.i64_in _ (by omega)) | (obtain ⟨z0, z1, z2, z3, z4, z5, z6, z7⟩ := hW; go_simp; simp [*]; done)⟩) hSs ?_
                        try simp only [Act.put, List.setIfInBounds_toArray, List.set_cons_zero, List.set_cons_succ]
                        refine wpAnyH_take (i := 4) (oi := ⟨some 61, _, _, _, _, _⟩) (v := .agg #[.int .i64 tk, .int .i64 tn, .string tz, .slice A0 tl.length (capF tl.length c0)]) rfl (by kernel_rfl) (by kernel_rfl) (by kernel_rfl) (fun _ _ _ h => h) (.inl ⟨by kernel_rfl, fun W hW => by first | (obtain ⟨z0, z1, z2, z3, z4, z5, z6, z7⟩ := hW; go_simp; done) | (obtain ⟨z0, z1, z2, z3, z4, z5, z6, z7⟩ := hW; go_simp; omega) | (obtain ⟨z0, z1, z2, z3, z4, z5, z6, z7⟩ := hW; go_simp; exact IntWalk.i64_in _ (by omega)) | (obtain ⟨z0, z1, z2, z3, z4, z5, z6, z7⟩ := hW; go_simp; simp [*]; done)⟩) hSs ?_
                        try simp only [Act.put, List.setIfInBounds_toArray, List.set_cons_zero, List.set_cons_succ]
                        refine wpAnyH_ready (rs := [2]) (by kernel_rfl) (by simp) (AllReadyH.cons rfl (fun K hK => ?_) AllReadyH.nil)
                        go_simp
                        refine (HAP.out _ (hb_1.drew) A0 c0 (EIn.below _ ht0 (Below.refl _ _).drew (Nat.le_refl _)) A1 c1 (EIn.below _ ht1 (Below.refl _ _).drew (Nat.le_refl _))).mono ?_
                        rintro e u_2 ⟨A_2, c_2, rfl, hT_2, hq_2⟩
                        have hb_2 := (hb_1.drew).trans (hq_2.mono (hb_1.drew).size)
                        have ht0_2 := EIn.below _ (EIn.below _ ht0 (Below.refl _ _).drew (Nat.le_refl _)) hq_2 (Nat.le_refl _)
                        have ht1_2 := EIn.below _ (EIn.below _ ht1 (Below.refl _ _).drew (Nat.le_refl _)) hq_2 (Nat.le_refl _)
                        clear ht0 ht1
                        refine hK.out _ _ (HSS.out _ hb_2) (fun hS_2 => ?_)
                        clear hK K
                        try simp only [Act.put, List.setIfInBounds_toArray, List.set_cons_zero, List.set_cons_succ]
                        refine wpAnyH_ready (rs := [3]) (by kernel_rfl) (by simp) (AllReadyH.cons rfl (fun K hK => ?_) AllReadyH.nil)
                        go_simp
                        refine (HFA.out _ hb_2 A_2 c_2 hT_2).mono ?_
                        rintro e u_3 ⟨rfl, hq_3⟩
                        have hb_3 := hb_2.trans (hq_3.mono hb_2.size)
                        have ht0_2_3 := EIn.below _ ht0_2 hq_3 (Nat.le_refl _)
                        have ht1_2_3 := EIn.below _ ht1_2 hq_3 (Nat.le_refl _)
                        have hT_2_3 := EIn.below _ hT_2 hq_3 (Nat.le_refl _)
                        clear ht0_2 ht1_2 hT_2
                        refine hK.out _ _ (HSS.out _ hb_3) (fun hS_3 => ?_)
                        clear hK K
                        try simp only [Act.put, List.setIfInBounds_toArray, List.set_cons_zero, List.set_cons_succ]
                        refine wpAnyH_ready (rs := [5]) (by kernel_rfl) (by simp) (AllReadyH.cons rfl (fun K hK => ?_) AllReadyH.nil)
                        go_simp
                        refine (HFT.out _ hb_3 A0 c0 ht0_2_3).mono ?_
                        rintro e u_4 ⟨rfl, hq_4⟩
                        have hb_4 := hb_3.trans (hq_4.mono hb_3.size)
                        have ht0_2_3_4 := EIn.below _ ht0_2_3 hq_4 (Nat.le_refl _)
                        have ht1_2_3_4 := EIn.below _ ht1_2_3 hq_4 (Nat.le_refl _)
                        have hT_2_3_4 := EIn.below _ hT_2_3 hq_4 (Nat.le_refl _)
                        clear ht0_2_3 ht1_2_3 hT_2_3
                        refine hK.out _ _ (HSS.out _ hb_4) (fun hS_4 => ?_)
                        clear hK K
                        try simp only [Act.put, List.setIfInBounds_toArray, List.set_cons_zero, List.set_cons_succ]
                        refine wpAnyH_take (i := 6) (oi := ⟨some 63, _, _, _, _, _⟩) (v := .bool true) rfl (by kernel_rfl) (by kernel_rfl) (by kernel_rfl) (fun _ _ _ h => h) (.inl ⟨by kernel_rfl, fun W hW => by kernel_rfl⟩) hS_4 ?_
                        try simp only [Act.put, List.setIfInBounds_toArray, List.set_cons_zero, List.set_cons_succ]
                        refine wpAnyH_take (i := 7) (oi := ⟨some 64, _, _, _, _, _⟩) (v := .agg #[.int .i64 sk, .int .i64 sn, .string sz, .slice A1 sl.length (capF sl.length c1)]) rfl (by kernel_rfl) (by kernel_rfl) (by kernel_rfl) (fun _ _ _ h => h) (.inl ⟨by kernel_rfl, fun W hW => by first | (obtain ⟨z0, z1, z2, z3, z4, z5, z6, z7⟩ := hW; go_simp; done) | (obtain ⟨z0, z1, z2, z3, z4, z5, z6, z7⟩ := hW; go_simp; omega) | (obtain ⟨z0, z1, z2, z3, z4, z5, z6, z7⟩ := hW; go_simp; exact IntWalk.i64_in _ (by omega)) | (obtain ⟨z0, z1, z2, z3, z4, z5, z6, z7⟩ := hW; go_simp; simp [*]; done)⟩) hS_4 ?_
                        try simp only [Act.put, List.setIfInBounds_toArray, List.set_cons_zero, List.set_cons_succ]
                        refine wpAnyH_ready (rs := [8]) (by kernel_rfl) (by simp) (AllReadyH.cons rfl (fun K hK => ?_) AllReadyH.nil)
                        rw [if_pos (by kernel_rfl)]
                        go_simp
                        refine (HFS.out _ hb_4 A1 c1 ht1_2_3_4).mono ?_
                        rintro e u_5 ⟨rfl, hq_5⟩
                        have hb_5 := hb_4.trans (hq_5.mono hb_4.size)
                        have ht0_2_3_4_5 := EIn.below _ ht0_2_3_4 hq_5 (Nat.le_refl _)
                        have ht1_2_3_4_5 := EIn.below _ ht1_2_3_4 hq_5 (Nat.le_refl _)
                        have hT_2_3_4_5 := EIn.below _ hT_2_3_4 hq_5 (Nat.le_refl _)
                        clear ht0_2_3_4 ht1_2_3_4 hT_2_3_4
                        refine hK.out _ _ (HSS.out _ hb_5) (fun hS_5 => ?_)
                        clear hK K
                        try simp only [Act.put, List.setIfInBounds_toArray, List.set_cons_zero, List.set_cons_succ]
                        refine wpAnyH_take (i := 9) (oi := ⟨some 66, _, _, _, _, _⟩) (v := .bool true) rfl (by kernel_rfl) (by kernel_rfl) (by kernel_rfl) (fun _ _ _ h => h) (.inl ⟨by kernel_rfl, fun W hW => by kernel_rfl⟩) hS_5 ?_
                        try simp only [Act.put, List.setIfInBounds_toArray, List.set_cons_zero, List.set_cons_succ]
                        refine wpAnyH_take (i := 10) (oi := ⟨some 67, _, _, _, _, _⟩) (v := .bool true) rfl (by kernel_rfl) (by kernel_rfl) (by kernel_rfl) (fun _ _ _ h => h) (.inl ⟨by kernel_rfl, fun W hW => by first | (obtain ⟨z0, z1, z2, z3, z4, z5, z6, z7⟩ := hW; go_simp; done) | (obtain ⟨z0, z1, z2, z3, z4, z5, z6, z7⟩ := hW; go_simp; omega) | (obtain ⟨z0, z1, z2, z3, z4, z5, z6, z7⟩ := hW; go_simp; exact IntWalk.i64_in _ (by omega)) | (obtain ⟨z0, z1, z2, z3, z4, z5, z6, z7⟩ := hW; go_simp; simp [*]; done)⟩) hS_5 ?_
                        try simp only [Act.put, List.setIfInBounds_toArray, List.set_cons_zero, List.set_cons_succ]
                        refine wpAnyH_take (i := 11) (oi := ⟨some 68, _, _, _, _, _⟩) (v := .bool true) rfl (by kernel_rfl) (by kernel_rfl) (by kernel_rfl) (fun _ _ _ h => h) (.inl ⟨by kernel_rfl, fun W hW => by kernel_rfl⟩) hS_5 ?_
                        try simp only [Act.put, List.setIfInBounds_toArray, List.set_cons_zero, List.set_cons_succ]
                        refine wpAnyH_take (i := 12) (oi := ⟨some 69, _, _, _, _, _⟩) (v := .agg #[.int .i64 tk, .int .i64 tn, .string tz, .slice A0 tl.length (capF tl.length c0)]) rfl (by kernel_rfl) (by kernel_rfl) (by kernel_rfl) (fun _ _ _ h => h) (.inl ⟨by kernel_rfl, fun W hW => by first | (obtain ⟨z0, z1, z2, z3, z4, z5, z6, z7⟩ := hW; go_simp; done) | (obtain ⟨z0, z1, z2, z3, z4, z5, z6, z7⟩ := hW; go_simp; omega) | (obtain ⟨z0, z1, z2, z3, z4, z5, z6, z7⟩ := hW; go_simp; exact IntWalk.i64_in _ (by omega)) | (obtain ⟨z0, z1, z2, z3, z4, z5, z6, z7⟩ := hW; go_simp; simp [*]; done)⟩) hS_5 ?_
                        try simp only [Act.put, List.setIfInBounds_toArray, List.set_cons_zero, List.set_cons_succ]
                        refine wpAnyH_take (i := 15) (oi := ⟨some 72, _, _, _, _, _⟩) (v := .agg #[.int .i64 tk, .int .i64 tn, .string tz, .slice A0 tl.length (capF tl.length c0)]) rfl (by kernel_rfl) (by kernel_rfl) (by kernel_rfl) (fun _ _ _ h => h) (.inl ⟨by kernel_rfl, fun W hW => by first | (obtain ⟨z0, z1, z2, z3, z4, z5, z6, z7⟩ := hW; go_simp; done) | (obtain ⟨z0, z1, z2, z3, z4, z5, z6, z7⟩ := hW; go_simp; omega) | (obtain ⟨z0, z1, z2, z3, z4, z5, z6, z7⟩ := hW; go_simp; exact IntWalk.i64_in _ (by omega)) | (obtain ⟨z0, z1, z2, z3, z4, z5, z6, z7⟩ := hW; go_simp; simp [*]; done)⟩) hS_5 ?_
                        try simp only [Act.put, List.setIfInBounds_toArray, List.set_cons_zero, List.set_cons_succ]
                        refine wpAnyH_ready (rs := [13]) (by kernel_rfl) (by simp) (AllReadyH.cons rfl (fun K hK => ?_) AllReadyH.nil)
                        rw [if_pos (by kernel_rfl)]
                        go_simp
                        refine (HLA.out _ hb_5 A0 c0 ht0_2_3_4_5).mono ?_
                        rintro e u_6 ⟨A_6, c_6, rfl, hT_6, hq_6⟩
                        have hb_6 := hb_5.trans (hq_6.mono hb_5.size)
                        have ht0_2_3_4_5_6 := EIn.below _ ht0_2_3_4_5 hq_6 (Nat.le_refl _)
                        have ht1_2_3_4_5_6 := EIn.below _ ht1_2_3_4_5 hq_6 (Nat.le_refl _)
                        have hT_2_3_4_5_6 := EIn.below _ hT_2_3_4_5 hq_6 (Nat.le_refl _)
                        clear ht0_2_3_4_5 ht1_2_3_4_5 hT_2_3_4_5
                        refine hK.out _ _ (HSS.out _ hb_6) (fun hS_6 => ?_)
                        clear hK K
                        try simp only [Act.put, List.setIfInBounds_toArray, List.set_cons_zero, List.set_cons_succ]
                        refine wpAnyH_ready (rs := [14]) (by kernel_rfl) (by simp) (AllReadyH.cons rfl (fun K hK => ?_) AllReadyH.nil)
                        rw [if_pos (by kernel_rfl)]
                        go_simp
                        refine (HFL.out _ hb_6 A_6 c_6 hT_6).mono ?_
                        rintro e u_7 ⟨rfl, hq_7⟩
                        have hb_7 := hb_6.trans (hq_7.mono hb_6.size)
                        have ht0_2_3_4_5_6_7 := EIn.below _ ht0_2_3_4_5_6 hq_7 (Nat.le_refl _)
                        have ht1_2_3_4_5_6_7 := EIn.below _ ht1_2_3_4_5_6 hq_7 (Nat.le_refl _)
                        have hT_2_3_4_5_6_7 := EIn.below _ hT_2_3_4_5_6 hq_7 (Nat.le_refl _)
                        have hT_6_7 := EIn.below _ hT_6 hq_7 (Nat.le_refl _)
                        clear ht0_2_3_4_5_6 ht1_2_3_4_5_6 hT_2_3_4_5_6 hT_6
                        refine hK.out _ _ (HSS.out _ hb_7) (fun hS_7 => ?_)
                        clear hK K
                        try simp only [Act.put, List.setIfInBounds_toArray, List.set_cons_zero, List.set_cons_succ]
                        refine wpAnyH_ready (rs := [16]) (by kernel_rfl) (by simp) (AllReadyH.cons rfl (fun K hK => ?_) AllReadyH.nil)
                        rw [if_pos (by kernel_rfl)]
                        go_simp
                        refine (HFT.out _ hb_7 A0 c0 ht0_2_3_4_5_6_7).mono ?_
                        rintro e u_8 ⟨rfl, hq_8⟩
                        have hb_8 := hb_7.trans (hq_8.mono hb_7.size)
                        have ht0_2_3_4_5_6_7_8 := EIn.below _ ht0_2_3_4_5_6_7 hq_8 (Nat.le_refl _)
                        have ht1_2_3_4_5_6_7_8 := EIn.below _ ht1_2_3_4_5_6_7 hq_8 (Nat.le_refl _)
                        have hT_2_3_4_5_6_7_8 := EIn.below _ hT_2_3_4_5_6_7 hq_8 (Nat.le_refl _)
                        have hT_6_7_8 := EIn.below _ hT_6_7 hq_8 (Nat.le_refl _)
                        clear ht0_2_3_4_5_6_7 ht1_2_3_4_5_6_7 hT_2_3_4_5_6_7 hT_6_7
                        refine hK.out _ _ (HSS.out _ hb_8) (fun hS_8 => ?_)
                        clear hK K
                        try simp only [Act.put, List.setIfInBounds_toArray, List.set_cons_zero, List.set_cons_succ]
                        refine wpAnyH_take (i := 17) (oi := ⟨some 74, _, _, _, _, _⟩) (v := .bool true) rfl (by kernel_rfl) (by kernel_rfl) (by kernel_rfl) (fun _ _ _ h => h) (.inl ⟨by kernel_rfl, fun W hW => by kernel_rfl⟩) hS_8 ?_
                        try simp only [Act.put, List.setIfInBounds_toArray, List.set_cons_zero, List.set_cons_succ]
                        refine wpAnyH_take (i := 18) (oi := ⟨some 75, _, _, _, _, _⟩) (v := .agg #[.int .i64 tk, .int .i64 tn, .string tz, .slice A0 tl.length (capF tl.length c0)]) rfl (by kernel_rfl) (by kernel_rfl) (by kernel_rfl) (fun _ _ _ h => h) (.inl ⟨by kernel_rfl, fun W hW => by first | (obtain ⟨z0, z1, z2, z3, z4, z5, z6, z7⟩ := hW; go_simp; done) | (obtain ⟨z0, z1, z2, z3, z4, z5, z6, z7⟩ := hW; go_simp; omega) | (obtain ⟨z0, z1, z2, z3, z4, z5, z6, z7⟩ := hW; go_simp; exact IntWalk.i64_in _ (by omega)) | (obtain ⟨z0, z1, z2, z3, z4, z5, z6, z7⟩ := hW; go_simp; simp [*]; done)⟩) hS_8 ?_
                        try simp only [Act.put, List.setIfInBounds_toArray, List.set_cons_zero, List.set_cons_succ]
                        refine wpAnyH_ready (rs := [19]) (by kernel_rfl) (by simp) (AllReadyH.cons rfl (fun K hK => ?_) AllReadyH.nil)
                        rw [if_pos (by kernel_rfl)]
                        go_simp
                        refine (HUS.out _ hb_8 A0 c0 ht0_2_3_4_5_6_7_8).mono ?_
                        rintro e u_9 ⟨rfl, hq_9⟩
                        have hb_9 := hb_8.trans (hq_9.mono hb_8.size)
                        have ht0_2_3_4_5_6_7_8_9 := EIn.below _ ht0_2_3_4_5_6_7_8 hq_9 (Nat.le_refl _)
                        have ht1_2_3_4_5_6_7_8_9 := EIn.below _ ht1_2_3_4_5_6_7_8 hq_9 (Nat.le_refl _)
                        have hT_2_3_4_5_6_7_8_9 := EIn.below _ hT_2_3_4_5_6_7_8 hq_9 (Nat.le_refl _)
                        have hT_6_7_8_9 := EIn.below _ hT_6_7_8 hq_9 (Nat.le_refl _)
                        clear ht0_2_3_4_5_6_7_8 ht1_2_3_4_5_6_7_8 hT_2_3_4_5_6_7_8 hT_6_7_8
                        refine hK.out _ _ (HSS.out _ hb_9) (fun hS_9 => ?_)
                        clear hK K
                        try simp only [Act.put, List.setIfInBounds_toArray, List.set_cons_zero, List.set_cons_succ]
                        refine wpAnyH_take (i := 20) (oi := ⟨some 77, _, _, _, _, _⟩) (v := .bool true) rfl (by kernel_rfl) (by kernel_rfl) (by kernel_rfl) (fun _ _ _ h => h) (.inl ⟨by kernel_rfl, fun W hW => by first | (obtain ⟨z0, z1, z2, z3, z4, z5, z6, z7⟩ := hW; go_simp; done) | (obtain ⟨z0, z1, z2, z3, z4, z5, z6, z7⟩ := hW; go_simp; omega) | (obtain ⟨z0, z1, z2, z3, z4, z5, z6, z7⟩ := hW; go_simp; exact IntWalk.i64_in _ (by omega)) | (obtain ⟨z0, z1, z2, z3, z4, z5, z6, z7⟩ := hW; go_simp; simp [*]; done)⟩) hS_9 ?_
                        try simp only [Act.put, List.setIfInBounds_toArray, List.set_cons_zero, List.set_cons_succ]
                        refine wpAnyH_take (i := 21) (oi := ⟨some 78, _, _, _, _, _⟩) (v := .bool true) rfl (by kernel_rfl) (by kernel_rfl) (by kernel_rfl) (fun _ _ _ h => h) (.inl ⟨by kernel_rfl, fun W hW => by kernel_rfl⟩) hS_9 ?_
                        try simp only [Act.put, List.setIfInBounds_toArray, List.set_cons_zero, List.set_cons_succ]
                        refine wpAnyH_take (i := 22) (oi := ⟨some 79, _, _, _, _, _⟩) (v := .bool true) rfl (by kernel_rfl) (by kernel_rfl) (by kernel_rfl) (fun _ _ _ h => h) (.inl ⟨by kernel_rfl, fun W hW => by first | (obtain ⟨z0, z1, z2, z3, z4, z5, z6, z7⟩ := hW; go_simp; done) | (obtain ⟨z0, z1, z2, z3, z4, z5, z6, z7⟩ := hW; go_simp; omega) | (obtain ⟨z0, z1, z2, z3, z4, z5, z6, z7⟩ := hW; go_simp; exact IntWalk.i64_in _ (by omega)) | (obtain ⟨z0, z1, z2, z3, z4, z5, z6, z7⟩ := hW; go_simp; simp [*]; done)⟩) hS_9 ?_
                        try simp only [Act.put, List.setIfInBounds_toArray, List.set_cons_zero, List.set_cons_succ]
                        refine wpAnyH_take (i := 23) (oi := ⟨some 80, _, _, _, _, _⟩) (v := .bool true) rfl (by kernel_rfl) (by kernel_rfl) (by kernel_rfl) (fun _ _ _ h => h) (.inl ⟨by kernel_rfl, fun W hW => by kernel_rfl⟩) hS_9 ?_
                        try simp only [Act.put, List.setIfInBounds_toArray, List.set_cons_zero, List.set_cons_succ]
                        refine wpAnyH_take (i := 24) (oi := ⟨some 81, _, _, _, _, _⟩) (v := .bool true) rfl (by kernel_rfl) (by kernel_rfl) (by kernel_rfl) (fun _ _ _ h => h) (.inl ⟨by kernel_rfl, fun W hW => by kernel_rfl⟩) hS_9 ?_
                        try simp only [Act.put, List.setIfInBounds_toArray, List.set_cons_zero, List.set_cons_succ]
                        refine wpAnyH_take (i := 25) (oi := ⟨some 82, _, _, _, _, _⟩) (v := .agg #[.int .i64 tk, .int .i64 tn, .string tz, .slice A0 tl.length (capF tl.length c0)]) rfl (by kernel_rfl) (by kernel_rfl) (by kernel_rfl) (fun _ _ _ h => h) (.inl ⟨by kernel_rfl, fun W hW => by first | (obtain ⟨z0, z1, z2, z3, z4, z5, z6, z7⟩ := hW; go_simp; done) | (obtain ⟨z0, z1, z2, z3, z4, z5, z6, z7⟩ := hW; go_simp; omega) | (obtain ⟨z0, z1, z2, z3, z4, z5, z6, z7⟩ := hW; go_simp; exact IntWalk.i64_in _ (by omega)) | (obtain ⟨z0, z1, z2, z3, z4, z5, z6, z7⟩ := hW; go_simp; simp [*]; done)⟩) hS_9 ?_
                        try simp only [Act.put, List.setIfInBounds_toArray, List.set_cons_zero, List.set_cons_succ]
                        refine wpAnyH_take (i := 27) (oi := ⟨some 84, _, _, _, _, _⟩) (v := .agg #[.int .i64 tk, .int .i64 tn, .string tz, .slice A0 tl.length (capF tl.length c0)]) rfl (by kernel_rfl) (by kernel_rfl) (by kernel_rfl) (fun _ _ _ h => h) (.inl ⟨by kernel_rfl, fun W hW => by first | (obtain ⟨z0, z1, z2, z3, z4, z5, z6, z7⟩ := hW; go_simp; done) | (obtain ⟨z0, z1, z2, z3, z4, z5, z6, z7⟩ := hW; go_simp; omega) | (obtain ⟨z0, z1, z2, z3, z4, z5, z6, z7⟩ := hW; go_simp; exact IntWalk.i64_in _ (by omega)) | (obtain ⟨z0, z1, z2, z3, z4, z5, z6, z7⟩ := hW; go_simp; simp [*]; done)⟩) hS_9 ?_
                        try simp only [Act.put, List.setIfInBounds_toArray, List.set_cons_zero, List.set_cons_succ]
                        refine wpAnyH_ready (rs := [26]) (by kernel_rfl) (by simp) (AllReadyH.cons rfl (fun K hK => ?_) AllReadyH.nil)
                        rw [if_pos (by kernel_rfl)]
                        go_simp
                        refine (HFT.out _ hb_9 A0 c0 ht0_2_3_4_5_6_7_8_9).mono ?_
                        rintro e u_10 ⟨rfl, hq_10⟩
                        have hb_10 := hb_9.trans (hq_10.mono hb_9.size)
                        have ht0_2_3_4_5_6_7_8_9_10 := EIn.below _ ht0_2_3_4_5_6_7_8_9 hq_10 (Nat.le_refl _)
                        have ht1_2_3_4_5_6_7_8_9_10 := EIn.below _ ht1_2_3_4_5_6_7_8_9 hq_10 (Nat.le_refl _)
                        have hT_2_3_4_5_6_7_8_9_10 := EIn.below _ hT_2_3_4_5_6_7_8_9 hq_10 (Nat.le_refl _)
                        have hT_6_7_8_9_10 := EIn.below _ hT_6_7_8_9 hq_10 (Nat.le_refl _)
                        clear ht0_2_3_4_5_6_7_8_9 ht1_2_3_4_5_6_7_8_9 hT_2_3_4_5_6_7_8_9 hT_6_7_8_9
                        refine hK.out _ _ (HSS.out _ hb_10) (fun hS_10 => ?_)
                        clear hK K
                        try simp only [Act.put, List.setIfInBounds_toArray, List.set_cons_zero, List.set_cons_succ]
                        refine wpAnyH_ready (rs := [28]) (by kernel_rfl) (by simp) (AllReadyH.cons rfl (fun K hK => ?_) AllReadyH.nil)
                        rw [if_pos (by kernel_rfl)]
                        go_simp
                        refine (HFN.out _ hb_10 A0 c0 ht0_2_3_4_5_6_7_8_9_10).mono ?_
                        rintro e u_11 ⟨rfl, hq_11⟩
                        have hb_11 := hb_10.trans (hq_11.mono hb_10.size)
                        have ht0_2_3_4_5_6_7_8_9_10_11 := EIn.below _ ht0_2_3_4_5_6_7_8_9_10 hq_11 (Nat.le_refl _)
                        have ht1_2_3_4_5_6_7_8_9_10_11 := EIn.below _ ht1_2_3_4_5_6_7_8_9_10 hq_11 (Nat.le_refl _)
                        have hT_2_3_4_5_6_7_8_9_10_11 := EIn.below _ hT_2_3_4_5_6_7_8_9_10 hq_11 (Nat.le_refl _)
                        have hT_6_7_8_9_10_11 := EIn.below _ hT_6_7_8_9_10 hq_11 (Nat.le_refl _)
                        clear ht0_2_3_4_5_6_7_8_9_10 ht1_2_3_4_5_6_7_8_9_10 hT_2_3_4_5_6_7_8_9_10 hT_6_7_8_9_10
                        refine hK.out _ _ (HSS.out _ hb_11) (fun hS_11 => ?_)
                        clear hK K
                        try simp only [Act.put, List.setIfInBounds_toArray, List.set_cons_zero, List.set_cons_succ]
                        refine wpAnyH_take (i := 29) (oi := ⟨some 86, _, _, _, _, _⟩) (v := .bool true) rfl (by kernel_rfl) (by kernel_rfl) (by kernel_rfl) (fun _ _ _ h => h) (.inl ⟨by kernel_rfl, fun W hW => by first | (obtain ⟨z0, z1, z2, z3, z4, z5, z6, z7⟩ := hW; go_simp; done) | (obtain ⟨z0, z1, z2, z3, z4, z5, z6, z7⟩ := hW; go_simp; omega) | (obtain ⟨z0, z1, z2, z3, z4, z5, z6, z7⟩ := hW; go_simp; exact IntWalk.i64_in _ (by omega)) | (obtain ⟨z0, z1, z2, z3, z4, z5, z6, z7⟩ := hW; go_simp; simp [*]; done)⟩) hS_11 ?_
                        try simp only [Act.put, List.setIfInBounds_toArray, List.set_cons_zero, List.set_cons_succ]
                        refine wpAnyH_take (i := 30) (oi := ⟨some 87, _, _, _, _, _⟩) (v := .bool true) rfl (by kernel_rfl) (by kernel_rfl) (by kernel_rfl) (fun _ _ _ h => h) (.inl ⟨by kernel_rfl, fun W hW => by first | (obtain ⟨z0, z1, z2, z3, z4, z5, z6, z7⟩ := hW; go_simp; done) | (obtain ⟨z0, z1, z2, z3, z4, z5, z6, z7⟩ := hW; go_simp; omega) | (obtain ⟨z0, z1, z2, z3, z4, z5, z6, z7⟩ := hW; go_simp; exact IntWalk.i64_in _ (by omega)) | (obtain ⟨z0, z1, z2, z3, z4, z5, z6, z7⟩ := hW; go_simp; simp [*]; done)⟩) hS_11 ?_
                        try simp only [Act.put, List.setIfInBounds_toArray, List.set_cons_zero, List.set_cons_succ]
                        refine wpAnyH_take (i := 31) (oi := ⟨some 88, _, _, _, _, _⟩) (v := .bool true) rfl (by kernel_rfl) (by kernel_rfl) (by kernel_rfl) (fun _ _ _ h => h) (.inl ⟨by kernel_rfl, fun W hW => by kernel_rfl⟩) hS_11 ?_
                        try simp only [Act.put, List.setIfInBounds_toArray, List.set_cons_zero, List.set_cons_succ]
                        refine wpAnyH_take (i := 32) (oi := ⟨some 4, _, _, _, _, _⟩) (v := .bool true) rfl (by kernel_rfl) (by kernel_rfl) (by kernel_rfl) (fun _ _ _ h => h) (.inl ⟨by kernel_rfl, fun W hW => by kernel_rfl⟩) hS_11 ?_
                        try simp only [Act.put, List.setIfInBounds_toArray, List.set_cons_zero, List.set_cons_succ]
                        refine wpAnyH_done (by kernel_rfl) ?_ _
                        go_wp2_with fail
                        go_ret
                        exact ⟨rfl, HB.out.trans (hb_11.mono HB.out.size)⟩
                      · have hau : affB (ofE (lamE (.node tk tn tz tl))) = false := by rw [ofE_lam, affB_cons, hav, Bool.and_true, ← HNU.out]; exact decide_eq_false (by omega)
                        have huv : ¬ (nu : Int) < 2 := by omega
                        go_upto_region 8 with fail
                        obtain ⟨g0, hg0⟩ : ∃ g, g = w.heap.size := ⟨_, rfl⟩
                        obtain ⟨g1, hg1⟩ : ∃ g, g = w.heap.size + 1 := ⟨_, rfl⟩
                        have hx0 := HX0.out
                        have hx1 := HX1.out
                        rw [← hg0] at hx0
                        rw [← hg1] at hx1
                        rw [← hg1, ← hg0]
                        clear hg0 hg1 HX0 HX1
                        generalize V9 = V at hx0 hx1 ⊢
                        have ht0 := hx0.tin
                        have ht1 := hx1.tin
                        have HB := Lib.hid hx0.bw
                        have HSS : Hid (∀ V', Below V.heap.size V V' → (fun V' : World => (V'.cell? ⟨g0, 0, none⟩ = some (.int .i64 tk) ∧ V'.cell? ⟨g0, 1, none⟩ = some (.int .i64 tn) ∧ V'.cell? ⟨g0, 2, none⟩ = some (.string tz) ∧ V'.cell? ⟨g0, 3, none⟩ = some (.slice A0 tl.length (capF tl.length c0)) ∧ V'.cell? ⟨g1, 0, none⟩ = some (.int .i64 sk) ∧ V'.cell? ⟨g1, 1, none⟩ = some (.int .i64 sn) ∧ V'.cell? ⟨g1, 2, none⟩ = some (.string sz) ∧ V'.cell? ⟨g1, 3, none⟩ = some (.slice A1 sl.length (capF sl.length c1)))) V') := Lib.hid fun V' h =>
                          ⟨(h.cell (p := ⟨g0, 0, none⟩) hx0.box.lt).trans (hx0.box.cell 0), (h.cell (p := ⟨g0, 1, none⟩) hx0.box.lt).trans (hx0.box.cell 1), (h.cell (p := ⟨g0, 2, none⟩) hx0.box.lt).trans (hx0.box.cell 2), (h.cell (p := ⟨g0, 3, none⟩) hx0.box.lt).trans (hx0.box.cell 3), (h.cell (p := ⟨g1, 0, none⟩) hx1.box.lt).trans (hx1.box.cell 0), (h.cell (p := ⟨g1, 1, none⟩) hx1.box.lt).trans (hx1.box.cell 1), (h.cell (p := ⟨g1, 2, none⟩) hx1.box.lt).trans (hx1.box.cell 2), (h.cell (p := ⟨g1, 3, none⟩) hx1.box.lt).trans (hx1.box.cell 3)⟩
                        have HAP : Hid (∀ X, Below V.heap.size V X → ∀ (A : Option Addr) (c : Nat) (hA : EIn X Any (.node tk tn tz tl) A) (B : Option Addr) (d : Nat) (hB : EIn X Any (.node sk sn sz sl) B), Calls Try.prog 26 #[.agg #[.int .i64 tk, .int .i64 tn, .string tz, .slice A tl.length (capF tl.length c)], .agg #[.int .i64 sk, .int .i64 sn, .string sz, .slice B sl.length (capF sl.length d)]] X fun e w' => ∃ A c, e = .returned (.agg #[.int .i64 3, .int .i64 0, .string n0B, .slice A 2 (capF 2 c)]) ∧ EIn w' Any (appE (.node tk tn tz tl) (.node sk sn sz sl)) A ∧ Below X.heap.size X w') := Lib.hid fun X hX A c hA B d hB => appq_any (.node tk tn tz tl) (.node sk sn sz sl) A B c d X hA hB
                        have HLA : Hid (∀ X, Below V.heap.size V X → ∀ (A : Option Addr) (c : Nat) (hA : EIn X Any (.node tk tn tz tl) A), Calls Try.prog 25 #[.agg #[.int .i64 tk, .int .i64 tn, .string tz, .slice A tl.length (capF tl.length c)]] X fun e w' => ∃ A c, e = .returned (.agg #[.int .i64 2, .int .i64 0, .string n0B, .slice A 1 (capF 1 c)]) ∧ EIn w' Any (lamE (.node tk tn tz tl)) A ∧ Below X.heap.size X w') := Lib.hid fun X hX A c hA => lamq_any (.node tk tn tz tl) A c X hA
                        have HFT : Hid (∀ X, Below V.heap.size V X → ∀ (A : Option Addr) (c : Nat) (hA : EIn X Any (.node tk tn tz tl) A), Calls Try.prog 18 #[.agg #[.int .i64 tk, .int .i64 tn, .string tz, .slice A tl.length (capF tl.length c)]] X fun e w' => e = .returned (.bool true) ∧ Below X.heap.size X w') := Lib.hid fun X hX A c hA => by
                          have h := affine_any (.node tk tn tz tl) A c X (by omega) (by omega) htt hA
                          rw [hav] at h
                          exact h
                        have HFS : Hid (∀ X, Below V.heap.size V X → ∀ (A : Option Addr) (c : Nat) (hA : EIn X Any (.node sk sn sz sl) A), Calls Try.prog 18 #[.agg #[.int .i64 sk, .int .i64 sn, .string sz, .slice A sl.length (capF sl.length c)]] X fun e w' => e = .returned (.bool true) ∧ Below X.heap.size X w') := Lib.hid fun X hX A c hA => by
                          have h := affine_any (.node sk sn sz sl) A c X (by omega) (by omega) hts hA
                          rw [hbv] at h
                          exact h
                        have HFA : Hid (∀ X, Below V.heap.size V X → ∀ (A : Option Addr) (c : Nat) (hA : EIn X Any (appE (.node tk tn tz tl) (.node sk sn sz sl)) A), Calls Try.prog 18 #[.agg #[.int .i64 3, .int .i64 0, .string n0B, .slice A 2 (capF 2 c)]] X fun e w' => e = .returned (.bool true) ∧ Below X.heap.size X w') := Lib.hid fun X hX A c hA => by
                          have h := affine_any (appE (.node tk tn tz tl) (.node sk sn sz sl)) A c X (by have := depth_app (.node tk tn tz tl) (.node sk sn sz sl); omega) (by have := size_app (.node tk tn tz tl) (.node sk sn sz sl); omega) (tame_app htt hts) hA
                          rw [hab] at h
                          exact h
                        have HFL : Hid (∀ X, Below V.heap.size V X → ∀ (A : Option Addr) (c : Nat) (hA : EIn X Any (lamE (.node tk tn tz tl)) A), Calls Try.prog 18 #[.agg #[.int .i64 2, .int .i64 0, .string n0B, .slice A 1 (capF 1 c)]] X fun e w' => e = .returned (.bool false) ∧ Below X.heap.size X w') := Lib.hid fun X hX A c hA => by
                          have h := affine_any (lamE (.node tk tn tz tl)) A c X (by have := depth_lam (.node tk tn tz tl); omega) (by have := size_lam (.node tk tn tz tl); omega) (tame_lam htt) hA
                          rw [hau] at h
                          exact h
                        have HFN : Hid (∀ X, Below V.heap.size V X → ∀ (A : Option Addr) (c : Nat) (hA : EIn X Any (.node tk tn tz tl) A), Calls Try.prog 20 #[.agg #[.int .i64 tk, .int .i64 tn, .string tz, .slice A tl.length (capF tl.length c)]] X fun e w' => e = .returned (.int .i64 fn) ∧ Below X.heap.size X w') := Lib.hid fun X hX A c hA => by
                          have h := fans_any (.node tk tn tz tl) A c X (by omega) (by omega) htt hA
                          rw [← HFN0.out] at h
                          exact h
                        have HUS : Hid (∀ X, Below V.heap.size V X → ∀ (A : Option Addr) (c : Nat) (hA : EIn X Any (.node tk tn tz tl) A), Calls Try.prog 29 #[.agg #[.int .i64 tk, .int .i64 tn, .string tz, .slice A tl.length (capF tl.length c)], .int .i64 0] X fun e w' => e = .returned (.int .i64 (nu : Int)) ∧ Below X.heap.size X w') := Lib.hid fun X hX A c hA => by
                          have h := ruses_any (depthE (.node tk tn tz tl)) (.node tk tn tz tl) A c 0 X (Nat.le_refl _) (by omega) (by omega) htt (by omega) (by omega) hA
                          rw [← HNU.out] at h
                          exact h
                        clear hx0 hx1
                        have hb_1 : Below V.heap.size V V := Below.refl _ _
                        refine wp_region_held_drew (S := (fun V' : World => (V'.cell? ⟨g0, 0, none⟩ = some (.int .i64 tk) ∧ V'.cell? ⟨g0, 1, none⟩ = some (.int .i64 tn) ∧ V'.cell? ⟨g0, 2, none⟩ = some (.string tz) ∧ V'.cell? ⟨g0, 3, none⟩ = some (.slice A0 tl.length (capF tl.length c0)) ∧ V'.cell? ⟨g1, 0, none⟩ = some (.int .i64 sk) ∧ V'.cell? ⟨g1, 1, none⟩ = some (.int .i64 sn) ∧ V'.cell? ⟨g1, 2, none⟩ = some (.string sz) ∧ V'.cell? ⟨g1, 3, none⟩ = some (.slice A1 sl.length (capF sl.length c1))))) rfl (HSS.out _ hb_1.drew) (fun hSs => ?_)
                        change wpAnyH _ _ _ _ _ 33 (Array.replicate 33 false) _ _
                        refine wpAnyH_take (i := 0) (oi := ⟨some 57, _, _, _, _, _⟩) (v := .agg #[.int .i64 tk, .int .i64 tn, .string tz, .slice A0 tl.length (capF tl.length c0)]) rfl (by kernel_rfl) (by kernel_rfl) (by kernel_rfl) (fun _ _ _ h => h) (.inl ⟨by kernel_rfl, fun W hW => by first | (obtain ⟨z0, z1, z2, z3, z4, z5, z6, z7⟩ := hW; go_simp; done) | (obtain ⟨z0, z1, z2, z3, z4, z5, z6, z7⟩ := hW; go_simp; omega) | (obtain ⟨z0, z1, z2, z3, z4, z5, z6, z7⟩ := hW; go_simp; exact IntWalk.i64_in _ (by omega)) | (obtain ⟨z0, z1, z2, z3, z4, z5, z6, z7⟩ := hW; go_simp; simp [*]; done)⟩) hSs ?_
                        try simp only [Act.put, List.setIfInBounds_toArray, List.set_cons_zero, List.set_cons_succ]
                        refine wpAnyH_take (i := 1) (oi := ⟨some 58, _, _, _, _, _⟩) (v := .agg #[.int .i64 sk, .int .i64 sn, .string sz, .slice A1 sl.length (capF sl.length c1)]) rfl (by kernel_rfl) (by kernel_rfl) (by kernel_rfl) (fun _ _ _ h => h) (.inl ⟨by kernel_rfl, fun W hW => by first | (obtain ⟨z0, z1, z2, z3, z4, z5, z6, z7⟩ := hW; go_simp; done) | (obtain ⟨z0, z1, z2, z3, z4, z5, z6, z7⟩ := hW; go_simp; omega) | (obtain ⟨z0, z1, z2, z3, z4, z5, z6, z7⟩ := hW; go_simp; exact IntWalk.i64_in _ (by omega)) | (obtain ⟨z0, z1, z2, z3, z4, z5, z6, z7⟩ := hW; go_simp; simp [*]; done)⟩) hSs ?_
                        try simp only [Act.put, List.setIfInBounds_toArray, List.set_cons_zero, List.set_cons_succ]
                        refine wpAnyH_take (i := 4) (oi := ⟨some 61, _, _, _, _, _⟩) (v := .agg #[.int .i64 tk, .int .i64 tn, .string tz, .slice A0 tl.length (capF tl.length c0)]) rfl (by kernel_rfl) (by kernel_rfl) (by kernel_rfl) (fun _ _ _ h => h) (.inl ⟨by kernel_rfl, fun W hW => by first | (obtain ⟨z0, z1, z2, z3, z4, z5, z6, z7⟩ := hW; go_simp; done) | (obtain ⟨z0, z1, z2, z3, z4, z5, z6, z7⟩ := hW; go_simp; omega) | (obtain ⟨z0, z1, z2, z3, z4, z5, z6, z7⟩ := hW; go_simp; exact IntWalk.i64_in _ (by omega)) | (obtain ⟨z0, z1, z2, z3, z4, z5, z6, z7⟩ := hW; go_simp; simp [*]; done)⟩) hSs ?_
                        try simp only [Act.put, List.setIfInBounds_toArray, List.set_cons_zero, List.set_cons_succ]
                        refine wpAnyH_ready (rs := [2]) (by kernel_rfl) (by simp) (AllReadyH.cons rfl (fun K hK => ?_) AllReadyH.nil)
                        go_simp
                        refine (HAP.out _ (hb_1.drew) A0 c0 (EIn.below _ ht0 (Below.refl _ _).drew (Nat.le_refl _)) A1 c1 (EIn.below _ ht1 (Below.refl _ _).drew (Nat.le_refl _))).mono ?_
                        rintro e u_2 ⟨A_2, c_2, rfl, hT_2, hq_2⟩
                        have hb_2 := (hb_1.drew).trans (hq_2.mono (hb_1.drew).size)
                        have ht0_2 := EIn.below _ (EIn.below _ ht0 (Below.refl _ _).drew (Nat.le_refl _)) hq_2 (Nat.le_refl _)
                        have ht1_2 := EIn.below _ (EIn.below _ ht1 (Below.refl _ _).drew (Nat.le_refl _)) hq_2 (Nat.le_refl _)
                        clear ht0 ht1
                        refine hK.out _ _ (HSS.out _ hb_2) (fun hS_2 => ?_)
                        clear hK K
                        try simp only [Act.put, List.setIfInBounds_toArray, List.set_cons_zero, List.set_cons_succ]
                        refine wpAnyH_ready (rs := [3]) (by kernel_rfl) (by simp) (AllReadyH.cons rfl (fun K hK => ?_) AllReadyH.nil)
                        go_simp
                        refine (HFA.out _ hb_2 A_2 c_2 hT_2).mono ?_
                        rintro e u_3 ⟨rfl, hq_3⟩
                        have hb_3 := hb_2.trans (hq_3.mono hb_2.size)
                        have ht0_2_3 := EIn.below _ ht0_2 hq_3 (Nat.le_refl _)
                        have ht1_2_3 := EIn.below _ ht1_2 hq_3 (Nat.le_refl _)
                        have hT_2_3 := EIn.below _ hT_2 hq_3 (Nat.le_refl _)
                        clear ht0_2 ht1_2 hT_2
                        refine hK.out _ _ (HSS.out _ hb_3) (fun hS_3 => ?_)
                        clear hK K
                        try simp only [Act.put, List.setIfInBounds_toArray, List.set_cons_zero, List.set_cons_succ]
                        refine wpAnyH_ready (rs := [5]) (by kernel_rfl) (by simp) (AllReadyH.cons rfl (fun K hK => ?_) AllReadyH.nil)
                        go_simp
                        refine (HFT.out _ hb_3 A0 c0 ht0_2_3).mono ?_
                        rintro e u_4 ⟨rfl, hq_4⟩
                        have hb_4 := hb_3.trans (hq_4.mono hb_3.size)
                        have ht0_2_3_4 := EIn.below _ ht0_2_3 hq_4 (Nat.le_refl _)
                        have ht1_2_3_4 := EIn.below _ ht1_2_3 hq_4 (Nat.le_refl _)
                        have hT_2_3_4 := EIn.below _ hT_2_3 hq_4 (Nat.le_refl _)
                        clear ht0_2_3 ht1_2_3 hT_2_3
                        refine hK.out _ _ (HSS.out _ hb_4) (fun hS_4 => ?_)
                        clear hK K
                        try simp only [Act.put, List.setIfInBounds_toArray, List.set_cons_zero, List.set_cons_succ]
                        refine wpAnyH_take (i := 6) (oi := ⟨some 63, _, _, _, _, _⟩) (v := .bool true) rfl (by kernel_rfl) (by kernel_rfl) (by kernel_rfl) (fun _ _ _ h => h) (.inl ⟨by kernel_rfl, fun W hW => by kernel_rfl⟩) hS_4 ?_
                        try simp only [Act.put, List.setIfInBounds_toArray, List.set_cons_zero, List.set_cons_succ]
                        refine wpAnyH_take (i := 7) (oi := ⟨some 64, _, _, _, _, _⟩) (v := .agg #[.int .i64 sk, .int .i64 sn, .string sz, .slice A1 sl.length (capF sl.length c1)]) rfl (by kernel_rfl) (by kernel_rfl) (by kernel_rfl) (fun _ _ _ h => h) (.inl ⟨by kernel_rfl, fun W hW => by first | (obtain ⟨z0, z1, z2, z3, z4, z5, z6, z7⟩ := hW; go_simp; done) | (obtain ⟨z0, z1, z2, z3, z4, z5, z6, z7⟩ := hW; go_simp; omega) | (obtain ⟨z0, z1, z2, z3, z4, z5, z6, z7⟩ := hW; go_simp; exact IntWalk.i64_in _ (by omega)) | (obtain ⟨z0, z1, z2, z3, z4, z5, z6, z7⟩ := hW; go_simp; simp [*]; done)⟩) hS_4 ?_
                        try simp only [Act.put, List.setIfInBounds_toArray, List.set_cons_zero, List.set_cons_succ]
                        refine wpAnyH_ready (rs := [8]) (by kernel_rfl) (by simp) (AllReadyH.cons rfl (fun K hK => ?_) AllReadyH.nil)
                        rw [if_pos (by kernel_rfl)]
                        go_simp
                        refine (HFS.out _ hb_4 A1 c1 ht1_2_3_4).mono ?_
                        rintro e u_5 ⟨rfl, hq_5⟩
                        have hb_5 := hb_4.trans (hq_5.mono hb_4.size)
                        have ht0_2_3_4_5 := EIn.below _ ht0_2_3_4 hq_5 (Nat.le_refl _)
                        have ht1_2_3_4_5 := EIn.below _ ht1_2_3_4 hq_5 (Nat.le_refl _)
                        have hT_2_3_4_5 := EIn.below _ hT_2_3_4 hq_5 (Nat.le_refl _)
                        clear ht0_2_3_4 ht1_2_3_4 hT_2_3_4
                        refine hK.out _ _ (HSS.out _ hb_5) (fun hS_5 => ?_)
                        clear hK K
                        try simp only [Act.put, List.setIfInBounds_toArray, List.set_cons_zero, List.set_cons_succ]
                        refine wpAnyH_take (i := 9) (oi := ⟨some 66, _, _, _, _, _⟩) (v := .bool true) rfl (by kernel_rfl) (by kernel_rfl) (by kernel_rfl) (fun _ _ _ h => h) (.inl ⟨by kernel_rfl, fun W hW => by kernel_rfl⟩) hS_5 ?_
                        try simp only [Act.put, List.setIfInBounds_toArray, List.set_cons_zero, List.set_cons_succ]
                        refine wpAnyH_take (i := 10) (oi := ⟨some 67, _, _, _, _, _⟩) (v := .bool true) rfl (by kernel_rfl) (by kernel_rfl) (by kernel_rfl) (fun _ _ _ h => h) (.inl ⟨by kernel_rfl, fun W hW => by first | (obtain ⟨z0, z1, z2, z3, z4, z5, z6, z7⟩ := hW; go_simp; done) | (obtain ⟨z0, z1, z2, z3, z4, z5, z6, z7⟩ := hW; go_simp; omega) | (obtain ⟨z0, z1, z2, z3, z4, z5, z6, z7⟩ := hW; go_simp; exact IntWalk.i64_in _ (by omega)) | (obtain ⟨z0, z1, z2, z3, z4, z5, z6, z7⟩ := hW; go_simp; simp [*]; done)⟩) hS_5 ?_
                        try simp only [Act.put, List.setIfInBounds_toArray, List.set_cons_zero, List.set_cons_succ]
                        refine wpAnyH_take (i := 11) (oi := ⟨some 68, _, _, _, _, _⟩) (v := .bool true) rfl (by kernel_rfl) (by kernel_rfl) (by kernel_rfl) (fun _ _ _ h => h) (.inl ⟨by kernel_rfl, fun W hW => by kernel_rfl⟩) hS_5 ?_
                        try simp only [Act.put, List.setIfInBounds_toArray, List.set_cons_zero, List.set_cons_succ]
                        refine wpAnyH_take (i := 12) (oi := ⟨some 69, _, _, _, _, _⟩) (v := .agg #[.int .i64 tk, .int .i64 tn, .string tz, .slice A0 tl.length (capF tl.length c0)]) rfl (by kernel_rfl) (by kernel_rfl) (by kernel_rfl) (fun _ _ _ h => h) (.inl ⟨by kernel_rfl, fun W hW => by first | (obtain ⟨z0, z1, z2, z3, z4, z5, z6, z7⟩ := hW; go_simp; done) | (obtain ⟨z0, z1, z2, z3, z4, z5, z6, z7⟩ := hW; go_simp; omega) | (obtain ⟨z0, z1, z2, z3, z4, z5, z6, z7⟩ := hW; go_simp; exact IntWalk.i64_in _ (by omega)) | (obtain ⟨z0, z1, z2, z3, z4, z5, z6, z7⟩ := hW; go_simp; simp [*]; done)⟩) hS_5 ?_
                        try simp only [Act.put, List.setIfInBounds_toArray, List.set_cons_zero, List.set_cons_succ]
                        refine wpAnyH_take (i := 15) (oi := ⟨some 72, _, _, _, _, _⟩) (v := .agg #[.int .i64 tk, .int .i64 tn, .string tz, .slice A0 tl.length (capF tl.length c0)]) rfl (by kernel_rfl) (by kernel_rfl) (by kernel_rfl) (fun _ _ _ h => h) (.inl ⟨by kernel_rfl, fun W hW => by first | (obtain ⟨z0, z1, z2, z3, z4, z5, z6, z7⟩ := hW; go_simp; done) | (obtain ⟨z0, z1, z2, z3, z4, z5, z6, z7⟩ := hW; go_simp; omega) | (obtain ⟨z0, z1, z2, z3, z4, z5, z6, z7⟩ := hW; go_simp; exact IntWalk.i64_in _ (by omega)) | (obtain ⟨z0, z1, z2, z3, z4, z5, z6, z7⟩ := hW; go_simp; simp [*]; done)⟩) hS_5 ?_
                        try simp only [Act.put, List.setIfInBounds_toArray, List.set_cons_zero, List.set_cons_succ]
                        refine wpAnyH_ready (rs := [13]) (by kernel_rfl) (by simp) (AllReadyH.cons rfl (fun K hK => ?_) AllReadyH.nil)
                        rw [if_pos (by kernel_rfl)]
                        go_simp
                        refine (HLA.out _ hb_5 A0 c0 ht0_2_3_4_5).mono ?_
                        rintro e u_6 ⟨A_6, c_6, rfl, hT_6, hq_6⟩
                        have hb_6 := hb_5.trans (hq_6.mono hb_5.size)
                        have ht0_2_3_4_5_6 := EIn.below _ ht0_2_3_4_5 hq_6 (Nat.le_refl _)
                        have ht1_2_3_4_5_6 := EIn.below _ ht1_2_3_4_5 hq_6 (Nat.le_refl _)
                        have hT_2_3_4_5_6 := EIn.below _ hT_2_3_4_5 hq_6 (Nat.le_refl _)
                        clear ht0_2_3_4_5 ht1_2_3_4_5 hT_2_3_4_5
                        refine hK.out _ _ (HSS.out _ hb_6) (fun hS_6 => ?_)
                        clear hK K
                        try simp only [Act.put, List.setIfInBounds_toArray, List.set_cons_zero, List.set_cons_succ]
                        refine wpAnyH_ready (rs := [14]) (by kernel_rfl) (by simp) (AllReadyH.cons rfl (fun K hK => ?_) AllReadyH.nil)
                        rw [if_pos (by kernel_rfl)]
                        go_simp
                        refine (HFL.out _ hb_6 A_6 c_6 hT_6).mono ?_
                        rintro e u_7 ⟨rfl, hq_7⟩
                        have hb_7 := hb_6.trans (hq_7.mono hb_6.size)
                        have ht0_2_3_4_5_6_7 := EIn.below _ ht0_2_3_4_5_6 hq_7 (Nat.le_refl _)
                        have ht1_2_3_4_5_6_7 := EIn.below _ ht1_2_3_4_5_6 hq_7 (Nat.le_refl _)
                        have hT_2_3_4_5_6_7 := EIn.below _ hT_2_3_4_5_6 hq_7 (Nat.le_refl _)
                        have hT_6_7 := EIn.below _ hT_6 hq_7 (Nat.le_refl _)
                        clear ht0_2_3_4_5_6 ht1_2_3_4_5_6 hT_2_3_4_5_6 hT_6
                        refine hK.out _ _ (HSS.out _ hb_7) (fun hS_7 => ?_)
                        clear hK K
                        try simp only [Act.put, List.setIfInBounds_toArray, List.set_cons_zero, List.set_cons_succ]
                        refine wpAnyH_ready (rs := [16]) (by kernel_rfl) (by simp) (AllReadyH.cons rfl (fun K hK => ?_) AllReadyH.nil)
                        rw [if_pos (by kernel_rfl)]
                        go_simp
                        refine (HFT.out _ hb_7 A0 c0 ht0_2_3_4_5_6_7).mono ?_
                        rintro e u_8 ⟨rfl, hq_8⟩
                        have hb_8 := hb_7.trans (hq_8.mono hb_7.size)
                        have ht0_2_3_4_5_6_7_8 := EIn.below _ ht0_2_3_4_5_6_7 hq_8 (Nat.le_refl _)
                        have ht1_2_3_4_5_6_7_8 := EIn.below _ ht1_2_3_4_5_6_7 hq_8 (Nat.le_refl _)
                        have hT_2_3_4_5_6_7_8 := EIn.below _ hT_2_3_4_5_6_7 hq_8 (Nat.le_refl _)
                        have hT_6_7_8 := EIn.below _ hT_6_7 hq_8 (Nat.le_refl _)
                        clear ht0_2_3_4_5_6_7 ht1_2_3_4_5_6_7 hT_2_3_4_5_6_7 hT_6_7
                        refine hK.out _ _ (HSS.out _ hb_8) (fun hS_8 => ?_)
                        clear hK K
                        try simp only [Act.put, List.setIfInBounds_toArray, List.set_cons_zero, List.set_cons_succ]
                        refine wpAnyH_take (i := 17) (oi := ⟨some 74, _, _, _, _, _⟩) (v := .bool true) rfl (by kernel_rfl) (by kernel_rfl) (by kernel_rfl) (fun _ _ _ h => h) (.inl ⟨by kernel_rfl, fun W hW => by kernel_rfl⟩) hS_8 ?_
                        try simp only [Act.put, List.setIfInBounds_toArray, List.set_cons_zero, List.set_cons_succ]
                        refine wpAnyH_take (i := 18) (oi := ⟨some 75, _, _, _, _, _⟩) (v := .agg #[.int .i64 tk, .int .i64 tn, .string tz, .slice A0 tl.length (capF tl.length c0)]) rfl (by kernel_rfl) (by kernel_rfl) (by kernel_rfl) (fun _ _ _ h => h) (.inl ⟨by kernel_rfl, fun W hW => by first | (obtain ⟨z0, z1, z2, z3, z4, z5, z6, z7⟩ := hW; go_simp; done) | (obtain ⟨z0, z1, z2, z3, z4, z5, z6, z7⟩ := hW; go_simp; omega) | (obtain ⟨z0, z1, z2, z3, z4, z5, z6, z7⟩ := hW; go_simp; exact IntWalk.i64_in _ (by omega)) | (obtain ⟨z0, z1, z2, z3, z4, z5, z6, z7⟩ := hW; go_simp; simp [*]; done)⟩) hS_8 ?_
                        try simp only [Act.put, List.setIfInBounds_toArray, List.set_cons_zero, List.set_cons_succ]
                        refine wpAnyH_ready (rs := [19]) (by kernel_rfl) (by simp) (AllReadyH.cons rfl (fun K hK => ?_) AllReadyH.nil)
                        rw [if_pos (by kernel_rfl)]
                        go_simp
                        refine (HUS.out _ hb_8 A0 c0 ht0_2_3_4_5_6_7_8).mono ?_
                        rintro e u_9 ⟨rfl, hq_9⟩
                        have hb_9 := hb_8.trans (hq_9.mono hb_8.size)
                        have ht0_2_3_4_5_6_7_8_9 := EIn.below _ ht0_2_3_4_5_6_7_8 hq_9 (Nat.le_refl _)
                        have ht1_2_3_4_5_6_7_8_9 := EIn.below _ ht1_2_3_4_5_6_7_8 hq_9 (Nat.le_refl _)
                        have hT_2_3_4_5_6_7_8_9 := EIn.below _ hT_2_3_4_5_6_7_8 hq_9 (Nat.le_refl _)
                        have hT_6_7_8_9 := EIn.below _ hT_6_7_8 hq_9 (Nat.le_refl _)
                        clear ht0_2_3_4_5_6_7_8 ht1_2_3_4_5_6_7_8 hT_2_3_4_5_6_7_8 hT_6_7_8
                        refine hK.out _ _ (HSS.out _ hb_9) (fun hS_9 => ?_)
                        clear hK K
                        try simp only [Act.put, List.setIfInBounds_toArray, List.set_cons_zero, List.set_cons_succ]
                        refine wpAnyH_take (i := 20) (oi := ⟨some 77, _, _, _, _, _⟩) (v := .bool false) rfl (by kernel_rfl) (by kernel_rfl) (by kernel_rfl) (fun _ _ _ h => h) (.inl ⟨by kernel_rfl, fun W hW => by first | (obtain ⟨z0, z1, z2, z3, z4, z5, z6, z7⟩ := hW; go_simp; done) | (obtain ⟨z0, z1, z2, z3, z4, z5, z6, z7⟩ := hW; go_simp; omega) | (obtain ⟨z0, z1, z2, z3, z4, z5, z6, z7⟩ := hW; go_simp; exact IntWalk.i64_in _ (by omega)) | (obtain ⟨z0, z1, z2, z3, z4, z5, z6, z7⟩ := hW; go_simp; simp [*]; done)⟩) hS_9 ?_
                        try simp only [Act.put, List.setIfInBounds_toArray, List.set_cons_zero, List.set_cons_succ]
                        refine wpAnyH_take (i := 21) (oi := ⟨some 78, _, _, _, _, _⟩) (v := .bool false) rfl (by kernel_rfl) (by kernel_rfl) (by kernel_rfl) (fun _ _ _ h => h) (.inl ⟨by kernel_rfl, fun W hW => by kernel_rfl⟩) hS_9 ?_
                        try simp only [Act.put, List.setIfInBounds_toArray, List.set_cons_zero, List.set_cons_succ]
                        refine wpAnyH_take (i := 22) (oi := ⟨some 79, _, _, _, _, _⟩) (v := .bool true) rfl (by kernel_rfl) (by kernel_rfl) (by kernel_rfl) (fun _ _ _ h => h) (.inl ⟨by kernel_rfl, fun W hW => by first | (obtain ⟨z0, z1, z2, z3, z4, z5, z6, z7⟩ := hW; go_simp; done) | (obtain ⟨z0, z1, z2, z3, z4, z5, z6, z7⟩ := hW; go_simp; omega) | (obtain ⟨z0, z1, z2, z3, z4, z5, z6, z7⟩ := hW; go_simp; exact IntWalk.i64_in _ (by omega)) | (obtain ⟨z0, z1, z2, z3, z4, z5, z6, z7⟩ := hW; go_simp; simp [*]; done)⟩) hS_9 ?_
                        try simp only [Act.put, List.setIfInBounds_toArray, List.set_cons_zero, List.set_cons_succ]
                        refine wpAnyH_take (i := 23) (oi := ⟨some 80, _, _, _, _, _⟩) (v := .bool true) rfl (by kernel_rfl) (by kernel_rfl) (by kernel_rfl) (fun _ _ _ h => h) (.inl ⟨by kernel_rfl, fun W hW => by kernel_rfl⟩) hS_9 ?_
                        try simp only [Act.put, List.setIfInBounds_toArray, List.set_cons_zero, List.set_cons_succ]
                        refine wpAnyH_take (i := 24) (oi := ⟨some 81, _, _, _, _, _⟩) (v := .bool true) rfl (by kernel_rfl) (by kernel_rfl) (by kernel_rfl) (fun _ _ _ h => h) (.inl ⟨by kernel_rfl, fun W hW => by kernel_rfl⟩) hS_9 ?_
                        try simp only [Act.put, List.setIfInBounds_toArray, List.set_cons_zero, List.set_cons_succ]
                        refine wpAnyH_take (i := 25) (oi := ⟨some 82, _, _, _, _, _⟩) (v := .agg #[.int .i64 tk, .int .i64 tn, .string tz, .slice A0 tl.length (capF tl.length c0)]) rfl (by kernel_rfl) (by kernel_rfl) (by kernel_rfl) (fun _ _ _ h => h) (.inl ⟨by kernel_rfl, fun W hW => by first | (obtain ⟨z0, z1, z2, z3, z4, z5, z6, z7⟩ := hW; go_simp; done) | (obtain ⟨z0, z1, z2, z3, z4, z5, z6, z7⟩ := hW; go_simp; omega) | (obtain ⟨z0, z1, z2, z3, z4, z5, z6, z7⟩ := hW; go_simp; exact IntWalk.i64_in _ (by omega)) | (obtain ⟨z0, z1, z2, z3, z4, z5, z6, z7⟩ := hW; go_simp; simp [*]; done)⟩) hS_9 ?_
                        try simp only [Act.put, List.setIfInBounds_toArray, List.set_cons_zero, List.set_cons_succ]
                        refine wpAnyH_take (i := 27) (oi := ⟨some 84, _, _, _, _, _⟩) (v := .agg #[.int .i64 tk, .int .i64 tn, .string tz, .slice A0 tl.length (capF tl.length c0)]) rfl (by kernel_rfl) (by kernel_rfl) (by kernel_rfl) (fun _ _ _ h => h) (.inl ⟨by kernel_rfl, fun W hW => by first | (obtain ⟨z0, z1, z2, z3, z4, z5, z6, z7⟩ := hW; go_simp; done) | (obtain ⟨z0, z1, z2, z3, z4, z5, z6, z7⟩ := hW; go_simp; omega) | (obtain ⟨z0, z1, z2, z3, z4, z5, z6, z7⟩ := hW; go_simp; exact IntWalk.i64_in _ (by omega)) | (obtain ⟨z0, z1, z2, z3, z4, z5, z6, z7⟩ := hW; go_simp; simp [*]; done)⟩) hS_9 ?_
                        try simp only [Act.put, List.setIfInBounds_toArray, List.set_cons_zero, List.set_cons_succ]
                        refine wpAnyH_ready (rs := [26]) (by kernel_rfl) (by simp) (AllReadyH.cons rfl (fun K hK => ?_) AllReadyH.nil)
                        rw [if_pos (by kernel_rfl)]
                        go_simp
                        refine (HFT.out _ hb_9 A0 c0 ht0_2_3_4_5_6_7_8_9).mono ?_
                        rintro e u_10 ⟨rfl, hq_10⟩
                        have hb_10 := hb_9.trans (hq_10.mono hb_9.size)
                        have ht0_2_3_4_5_6_7_8_9_10 := EIn.below _ ht0_2_3_4_5_6_7_8_9 hq_10 (Nat.le_refl _)
                        have ht1_2_3_4_5_6_7_8_9_10 := EIn.below _ ht1_2_3_4_5_6_7_8_9 hq_10 (Nat.le_refl _)
                        have hT_2_3_4_5_6_7_8_9_10 := EIn.below _ hT_2_3_4_5_6_7_8_9 hq_10 (Nat.le_refl _)
                        have hT_6_7_8_9_10 := EIn.below _ hT_6_7_8_9 hq_10 (Nat.le_refl _)
                        clear ht0_2_3_4_5_6_7_8_9 ht1_2_3_4_5_6_7_8_9 hT_2_3_4_5_6_7_8_9 hT_6_7_8_9
                        refine hK.out _ _ (HSS.out _ hb_10) (fun hS_10 => ?_)
                        clear hK K
                        try simp only [Act.put, List.setIfInBounds_toArray, List.set_cons_zero, List.set_cons_succ]
                        refine wpAnyH_ready (rs := [28]) (by kernel_rfl) (by simp) (AllReadyH.cons rfl (fun K hK => ?_) AllReadyH.nil)
                        rw [if_pos (by kernel_rfl)]
                        go_simp
                        refine (HFN.out _ hb_10 A0 c0 ht0_2_3_4_5_6_7_8_9_10).mono ?_
                        rintro e u_11 ⟨rfl, hq_11⟩
                        have hb_11 := hb_10.trans (hq_11.mono hb_10.size)
                        have ht0_2_3_4_5_6_7_8_9_10_11 := EIn.below _ ht0_2_3_4_5_6_7_8_9_10 hq_11 (Nat.le_refl _)
                        have ht1_2_3_4_5_6_7_8_9_10_11 := EIn.below _ ht1_2_3_4_5_6_7_8_9_10 hq_11 (Nat.le_refl _)
                        have hT_2_3_4_5_6_7_8_9_10_11 := EIn.below _ hT_2_3_4_5_6_7_8_9_10 hq_11 (Nat.le_refl _)
                        have hT_6_7_8_9_10_11 := EIn.below _ hT_6_7_8_9_10 hq_11 (Nat.le_refl _)
                        clear ht0_2_3_4_5_6_7_8_9_10 ht1_2_3_4_5_6_7_8_9_10 hT_2_3_4_5_6_7_8_9_10 hT_6_7_8_9_10
                        refine hK.out _ _ (HSS.out _ hb_11) (fun hS_11 => ?_)
                        clear hK K
                        try simp only [Act.put, List.setIfInBounds_toArray, List.set_cons_zero, List.set_cons_succ]
                        refine wpAnyH_take (i := 29) (oi := ⟨some 86, _, _, _, _, _⟩) (v := .bool true) rfl (by kernel_rfl) (by kernel_rfl) (by kernel_rfl) (fun _ _ _ h => h) (.inl ⟨by kernel_rfl, fun W hW => by first | (obtain ⟨z0, z1, z2, z3, z4, z5, z6, z7⟩ := hW; go_simp; done) | (obtain ⟨z0, z1, z2, z3, z4, z5, z6, z7⟩ := hW; go_simp; omega) | (obtain ⟨z0, z1, z2, z3, z4, z5, z6, z7⟩ := hW; go_simp; exact IntWalk.i64_in _ (by omega)) | (obtain ⟨z0, z1, z2, z3, z4, z5, z6, z7⟩ := hW; go_simp; simp [*]; done)⟩) hS_11 ?_
                        try simp only [Act.put, List.setIfInBounds_toArray, List.set_cons_zero, List.set_cons_succ]
                        refine wpAnyH_take (i := 30) (oi := ⟨some 87, _, _, _, _, _⟩) (v := .bool true) rfl (by kernel_rfl) (by kernel_rfl) (by kernel_rfl) (fun _ _ _ h => h) (.inl ⟨by kernel_rfl, fun W hW => by first | (obtain ⟨z0, z1, z2, z3, z4, z5, z6, z7⟩ := hW; go_simp; done) | (obtain ⟨z0, z1, z2, z3, z4, z5, z6, z7⟩ := hW; go_simp; omega) | (obtain ⟨z0, z1, z2, z3, z4, z5, z6, z7⟩ := hW; go_simp; exact IntWalk.i64_in _ (by omega)) | (obtain ⟨z0, z1, z2, z3, z4, z5, z6, z7⟩ := hW; go_simp; simp [*]; done)⟩) hS_11 ?_
                        try simp only [Act.put, List.setIfInBounds_toArray, List.set_cons_zero, List.set_cons_succ]
                        refine wpAnyH_take (i := 31) (oi := ⟨some 88, _, _, _, _, _⟩) (v := .bool true) rfl (by kernel_rfl) (by kernel_rfl) (by kernel_rfl) (fun _ _ _ h => h) (.inl ⟨by kernel_rfl, fun W hW => by kernel_rfl⟩) hS_11 ?_
                        try simp only [Act.put, List.setIfInBounds_toArray, List.set_cons_zero, List.set_cons_succ]
                        refine wpAnyH_take (i := 32) (oi := ⟨some 4, _, _, _, _, _⟩) (v := .bool true) rfl (by kernel_rfl) (by kernel_rfl) (by kernel_rfl) (fun _ _ _ h => h) (.inl ⟨by kernel_rfl, fun W hW => by kernel_rfl⟩) hS_11 ?_
                        try simp only [Act.put, List.setIfInBounds_toArray, List.set_cons_zero, List.set_cons_succ]
                        refine wpAnyH_done (by kernel_rfl) ?_ _
                        go_wp2_with fail
                        go_ret
                        exact ⟨rfl, HB.out.trans (hb_11.mono HB.out.size)⟩
end Lx
end Go.Proofs.Ytcefopaphaeejaa
