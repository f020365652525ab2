/-
  The law SubstTells, walked.
-/
import Derived.Test.YtcgiloccmehbeaaY6
namespace Go.Proofs.Ytcgiloccmehbeaa
open Go.RowKit
namespace Lx
set_option maxRecDepth 100000
set_option maxHeartbeats 16000000 in
theorem tells8_any (t : Te) (A0 : Option Addr) (c0 : Nat) (s : Te) (A1 : Option Addr) (c1 : Nat) (y j : Int) (w : World) (hI : EIn w Any t A0) (hJ : EIn w Any s A1) (_ : -9223372036854775808 ≤ y ∧ y ≤ 9223372036854775807) (_ : -9223372036854775808 ≤ j ∧ j ≤ 9223372036854775807) :
    Calls Try.prog 3 #[ev t A0 c0, ev s A1 c1, .agg #[.int .i64 y, .int .i64 j]] w fun e w' => e = .returned (.bool true) ∧ Below w.heap.size w w' := by
  obtain ⟨tk, tn, tz, tl⟩ := t
  obtain ⟨sk, sn, sz, sl⟩ := s
  show Calls Try.prog 3 #[.agg #[.int .i64 tk, .int .i64 tn, .string tz, .slice A0 tl.length (capF tl.length c0)], .agg #[.int .i64 sk, .int .i64 sn, .string sz, .slice A1 sl.length (capF sl.length c1)], .agg #[.int .i64 y, .int .i64 j]] w _
  have HX0 := Lib.hid (((Bx8.new (c := c0) hI (Below.refl _ w) rfl).old (.cells #[.int .i64 sk, .int .i64 sn, .string sz, .slice A1 sl.length (capF sl.length c1)] 24)).old (.cells #[.int .i64 y, .int .i64 j] 25))
  have HX1 := Lib.hid ((Bx8.new (c := c1) (g := w.heap.size + 1) hJ ((Below.refl _ w).alloc (Nat.le_refl _) (.cells #[.int .i64 tk, .int .i64 tn, .string tz, .slice A0 tl.length (capF tl.length c0)] 24)) (by simp)).old (.cells #[.int .i64 y, .int .i64 j] 25))
  have hP : Lies (((w.alloc (.cells #[.int .i64 tk, .int .i64 tn, .string tz, .slice A0 tl.length (capF tl.length c0)] 24)).alloc (.cells #[.int .i64 sk, .int .i64 sn, .string sz, .slice A1 sl.length (capF sl.length c1)] 24)).alloc (.cells #[.int .i64 y, .int .i64 j] 25)) (w.heap.size + 1 + 1) 25 #[.int .i64 y, .int .i64 j] := lies_next _ _ _ _ (by simp)
  have p0 := hP.cell 0
  have p1 := hP.cell 1
  simp at p0 p1
  clear hP hI hJ
  go_enter Try.func3, Try.ntmps3
  go_wp2_with fail
  go_quiet (fail)
  clear p0 p1
  obtain ⟨W1, hW1⟩ : ∃ W, W = (((w.alloc (.cells #[.int .i64 tk, .int .i64 tn, .string tz, .slice A0 tl.length (capF tl.length c0)] 24)).alloc (.cells #[.int .i64 sk, .int .i64 sn, .string sz, .slice A1 sl.length (capF sl.length c1)] 24)).alloc (.cells #[.int .i64 y, .int .i64 j] 25)).drewN nq := ⟨_, rfl⟩
  replace HX0 := Lib.hid (HX0.out.step (W' := W1) (by rw [hW1]; exact ⟨rfl, rfl, rfl, Nat.le_refl _, fun _ _ => rfl⟩))
  replace HX1 := Lib.hid (HX1.out.step (W' := W1) (by rw [hW1]; exact ⟨rfl, rfl, rfl, Nat.le_refl _, fun _ _ => rfl⟩))
  rw [← hW1]
  clear hW1
  obtain ⟨d0, d1, d2, d3⟩ := HX0.out.four
  have HG := Lib.hid (HX0.out.small 200 (by omega) (by omega))
  cases hv : decide (0 ≤ fewE (.node tk tn tz tl) 200 600)
  · rw [hv] at HG
    clear hv
    go_wp2_with fail
    refine HG.out.mono ?_
    rintro e w2 ⟨rfl, hb2⟩
    clear HG d0 d1 d2 d3
    replace HX0 := Lib.hid (HX0.out.step hb2)
    replace HX1 := Lib.hid (HX1.out.step hb2)
    clear hb2
    go_wp2_with fail
    refine (fixed8_any w2).mono ?_
    rintro e w3 ⟨rfl, hb3⟩
    have hbw := HX0.out.bw.trans (hb3.mono HX0.out.bw.size)
    go_wp2_with fail
    go_ret
    exact ⟨rfl, hbw⟩
  · rw [hv] at HG
    have hm0 := small8 hv (by omega)
    clear hv
    go_wp2_with fail
    refine HG.out.mono ?_
    rintro e w2 ⟨rfl, hb2⟩
    clear HG d0 d1 d2 d3
    replace HX0 := Lib.hid (HX0.out.step hb2)
    replace HX1 := Lib.hid (HX1.out.step hb2)
    clear hb2
    obtain ⟨d0, d1, d2, d3⟩ := HX1.out.four
    have HG := Lib.hid (HX1.out.small 200 (by omega) (by omega))
    cases hv : decide (0 ≤ fewE (.node sk sn sz sl) 200 600)
    · rw [hv] at HG
      clear hv
      go_wp2_with fail
      refine HG.out.mono ?_
      rintro e w4 ⟨rfl, hb4⟩
      clear HG d0 d1 d2 d3
      replace HX0 := Lib.hid (HX0.out.step hb4)
      replace HX1 := Lib.hid (HX1.out.step hb4)
      clear hb4
      go_wp2_with fail
      refine (fixed8_any w4).mono ?_
      rintro e w5 ⟨rfl, hb5⟩
      have hbw := HX0.out.bw.trans (hb5.mono HX0.out.bw.size)
      go_wp2_with fail
      go_ret
      exact ⟨rfl, hbw⟩
    · rw [hv] at HG
      have hm1 := small8 hv (by omega)
      clear hv
      go_wp2_with fail
      refine HG.out.mono ?_
      rintro e w4 ⟨rfl, hb4⟩
      clear HG d0 d1 d2 d3
      replace HX0 := Lib.hid (HX0.out.step hb4)
      replace HX1 := Lib.hid (HX1.out.step hb4)
      clear hb4
      obtain ⟨d0, d1, d2, d3⟩ := HX0.out.four
      have HG := Lib.hid (HX0.out.tame)
      cases hv : tameB (.node tk tn tz tl)
      · rw [hv] at HG
        clear hv
        go_wp2_with fail
        refine HG.out.mono ?_
        rintro e w6 ⟨rfl, hb6⟩
        clear HG d0 d1 d2 d3
        replace HX0 := Lib.hid (HX0.out.step hb6)
        replace HX1 := Lib.hid (HX1.out.step hb6)
        clear hb6
        go_wp2_with fail
        refine (fixed8_any w6).mono ?_
        rintro e w7 ⟨rfl, hb7⟩
        have hbw := HX0.out.bw.trans (hb7.mono HX0.out.bw.size)
        go_wp2_with fail
        go_ret
        exact ⟨rfl, hbw⟩
      · rw [hv] at HG
        have htt := tameB_spec _ hv
        clear hv
        go_wp2_with fail
        refine HG.out.mono ?_
        rintro e w6 ⟨rfl, hb6⟩
        clear HG d0 d1 d2 d3
        replace HX0 := Lib.hid (HX0.out.step hb6)
        replace HX1 := Lib.hid (HX1.out.step hb6)
        clear hb6
        obtain ⟨d0, d1, d2, d3⟩ := HX1.out.four
        have HG := Lib.hid (HX1.out.tame)
        cases hv : tameB (.node sk sn sz sl)
        · rw [hv] at HG
          clear hv
          go_wp2_with fail
          refine HG.out.mono ?_
          rintro e w8 ⟨rfl, hb8⟩
          clear HG d0 d1 d2 d3
          replace HX0 := Lib.hid (HX0.out.step hb8)
          replace HX1 := Lib.hid (HX1.out.step hb8)
          clear hb8
          go_wp2_with fail
          refine (fixed8_any w8).mono ?_
          rintro e w9 ⟨rfl, hb9⟩
          have hbw := HX0.out.bw.trans (hb9.mono HX0.out.bw.size)
          go_wp2_with fail
          go_ret
          exact ⟨rfl, hbw⟩
        · rw [hv] at HG
          have hts := tameB_spec _ hv
          clear hv
          go_wp2_with fail
          refine HG.out.mono ?_
          rintro e w8 ⟨rfl, hb8⟩
          clear HG d0 d1 d2 d3
          replace HX0 := Lib.hid (HX0.out.step hb8)
          replace HX1 := Lib.hid (HX1.out.step hb8)
          clear hb8
          by_cases hc : 1099511627776 < y
          · go_wp2_with fail
            refine (fixed8_any w8).mono ?_
            rintro e w10 ⟨rfl, hb10⟩
            have hbw := HX0.out.bw.trans (hb10.mono HX0.out.bw.size)
            go_wp2_with fail
            go_ret
            exact ⟨rfl, hbw⟩
          · have hy1 : y ≤ 1099511627776 := by omega
            by_cases hc : y < -1099511627776
            · go_wp2_with fail
              refine (fixed8_any w8).mono ?_
              rintro e w11 ⟨rfl, hb11⟩
              have hbw := HX0.out.bw.trans (hb11.mono HX0.out.bw.size)
              go_wp2_with fail
              go_ret
              exact ⟨rfl, hbw⟩
            · have hy0 : -1099511627776 ≤ y := by omega
              by_cases hc : 1099511627776 < j
              · go_wp2_with fail
                refine (fixed8_any w8).mono ?_
                rintro e w12 ⟨rfl, hb12⟩
                have hbw := HX0.out.bw.trans (hb12.mono HX0.out.bw.size)
                go_wp2_with fail
                go_ret
                exact ⟨rfl, hbw⟩
              · have hj1 : j ≤ 1099511627776 := by omega
                by_cases hc : j < -1099511627776
                · go_wp2_with fail
                  refine (fixed8_any w8).mono ?_
                  rintro e w13 ⟨rfl, hb13⟩
                  have hbw := HX0.out.bw.trans (hb13.mono HX0.out.bw.size)
                  go_wp2_with fail
                  go_ret
                  exact ⟨rfl, hbw⟩
                · have hj0 : -1099511627776 ≤ j := by omega
                  go_upto_region 4 with fail
                  obtain ⟨g0, hg0⟩ : ∃ g, g = w.heap.size := ⟨_, rfl⟩
                  obtain ⟨g1, hg1⟩ : ∃ g, g = w.heap.size + 1 := ⟨_, rfl⟩
                  have hx0 := HX0.out
                  have hx1 := HX1.out
                  rw [← hg0] at hx0
                  rw [← hg1] at hx1
                  rw [← hg1, ← hg0]
                  clear hg0 hg1 HX0 HX1
                  generalize w8 = V at hx0 hx1 ⊢
                  have ht0 := hx0.tin
                  have ht1 := hx1.tin
                  have HB := Lib.hid hx0.bw
                  have HSS : Hid (∀ V', Below V.heap.size V V' → (fun V' : World => (V'.cell? ⟨g0, 0, none⟩ = some (.int .i64 tk) ∧ V'.cell? ⟨g0, 1, none⟩ = some (.int .i64 tn) ∧ V'.cell? ⟨g0, 2, none⟩ = some (.string tz) ∧ V'.cell? ⟨g0, 3, none⟩ = some (.slice A0 tl.length (capF tl.length c0)) ∧ V'.cell? ⟨g1, 0, none⟩ = some (.int .i64 sk) ∧ V'.cell? ⟨g1, 1, none⟩ = some (.int .i64 sn) ∧ V'.cell? ⟨g1, 2, none⟩ = some (.string sz) ∧ V'.cell? ⟨g1, 3, none⟩ = some (.slice A1 sl.length (capF sl.length c1)))) V') := Lib.hid fun V' h =>
                    ⟨(h.cell (p := ⟨g0, 0, none⟩) hx0.box.lt).trans (hx0.box.cell 0), (h.cell (p := ⟨g0, 1, none⟩) hx0.box.lt).trans (hx0.box.cell 1), (h.cell (p := ⟨g0, 2, none⟩) hx0.box.lt).trans (hx0.box.cell 2), (h.cell (p := ⟨g0, 3, none⟩) hx0.box.lt).trans (hx0.box.cell 3), (h.cell (p := ⟨g1, 0, none⟩) hx1.box.lt).trans (hx1.box.cell 0), (h.cell (p := ⟨g1, 1, none⟩) hx1.box.lt).trans (hx1.box.cell 1), (h.cell (p := ⟨g1, 2, none⟩) hx1.box.lt).trans (hx1.box.cell 2), (h.cell (p := ⟨g1, 3, none⟩) hx1.box.lt).trans (hx1.box.cell 3)⟩
                  obtain ⟨X1, hX1⟩ : ∃ X, X = upE (.node tk tn tz tl) y j := ⟨_, rfl⟩
                  obtain ⟨X2, hX2⟩ : ∃ X, X = putE (.node tk tn tz tl) j (.node sk sn sz sl) := ⟨_, rfl⟩
                  obtain ⟨nu, hnu⟩ : ∃ n, n = usesE (.node tk tn tz tl) j := ⟨_, rfl⟩
                  have HNU := Lib.hid hnu
                  obtain ⟨xk, xn, xz, xl⟩ := X1
                  obtain ⟨yk, yn, yz, yl⟩ := X2
                  have HX1 := Lib.hid hX1
                  have HX2 := Lib.hid hX2
                  clear hX1 hX2 hnu hx0 hx1
                  have HFX : Hid (∀ X, Below V.heap.size V X → Calls Try.prog 11 #[] X fun e w' => e = .returned (.bool true) ∧ Below X.heap.size X w') := Lib.hid fun X hX => fixed8_any X
                  have HUP : Hid (∀ X, Below V.heap.size V X → ∀ (A : Option Addr) (c : Nat) (hA : EIn X Any (.node tk tn tz tl) A), Calls Try.prog 13 #[.agg #[.int .i64 tk, .int .i64 tn, .string tz, .slice A tl.length (capF tl.length c)], .int .i64 y, .int .i64 j] X fun e w' => ∃ A c, e = .returned (.agg #[.int .i64 xk, .int .i64 xn, .string xz, .slice A xl.length (capF xl.length c)]) ∧ EIn w' Any (.node xk xn xz xl) A ∧ Below X.heap.size X w') := Lib.hid fun X hX A c hA => by
                    have h := up_any (.node tk tn tz tl) A c y j X hA (by omega) (by omega) htt (by omega) (by omega) (by omega) (by omega)
                    rw [← HX1.out] at h
                    exact h.mono fun e w' h => h.any
                  have HRU : Hid (∀ X, Below V.heap.size V X → ∀ (A : Option Addr) (c : Nat) (hA : EIn X Any (.node tk tn tz tl) A), Calls Try.prog 14 #[.agg #[.int .i64 tk, .int .i64 tn, .string tz, .slice A tl.length (capF tl.length c)], .int .i64 y, .int .i64 j] X fun e w' => ∃ A c, e = .returned (.agg #[.int .i64 xk, .int .i64 xn, .string xz, .slice A xl.length (capF xl.length c)]) ∧ EIn w' Any (.node xk xn xz xl) A ∧ Below X.heap.size X w') := Lib.hid fun X hX A c hA => by
                    have h := rup_any y (by omega) (by omega) (depthE (.node tk tn tz tl)) (.node tk tn tz tl) A c j X (Nat.le_refl _) (by omega) (by omega) htt (by omega) (by omega) hA
                    rw [← HX1.out] at h
                    exact h.mono fun e w' h => h.any
                  have HPU : Hid (∀ X, Below V.heap.size V X → ∀ (A : Option Addr) (c : Nat) (hA : EIn X Any (.node tk tn tz tl) A) (B : Option Addr) (d : Nat) (hB : EIn X Any (.node sk sn sz sl) B), Calls Try.prog 15 #[.agg #[.int .i64 tk, .int .i64 tn, .string tz, .slice A tl.length (capF tl.length c)], .int .i64 j, .agg #[.int .i64 sk, .int .i64 sn, .string sz, .slice B sl.length (capF sl.length d)]] X fun e w' => ∃ A c, e = .returned (.agg #[.int .i64 yk, .int .i64 yn, .string yz, .slice A yl.length (capF yl.length c)]) ∧ EIn w' Any (.node yk yn yz yl) A ∧ Below X.heap.size X w') := Lib.hid fun X hX A c hA B d hB => by
                    have h := put_any (.node tk tn tz tl) (.node sk sn sz sl) A B c d j X hA (by omega) (by omega) htt hB (by omega) (by omega) hts (by omega) (by omega)
                    rw [← HX2.out] at h
                    exact h.mono fun e w' h => h.any
                  have HRP : Hid (∀ X, Below V.heap.size V X → ∀ (A : Option Addr) (c : Nat) (hA : EIn X Any (.node tk tn tz tl) A) (B : Option Addr) (d : Nat) (hB : EIn X Any (.node sk sn sz sl) B), Calls Try.prog 16 #[.agg #[.int .i64 tk, .int .i64 tn, .string tz, .slice A tl.length (capF tl.length c)], .int .i64 j, .agg #[.int .i64 sk, .int .i64 sn, .string sz, .slice B sl.length (capF sl.length d)]] X fun e w' => ∃ A c, e = .returned (.agg #[.int .i64 yk, .int .i64 yn, .string yz, .slice A yl.length (capF yl.length c)]) ∧ EIn w' Any (.node yk yn yz yl) A ∧ Below X.heap.size X w') := Lib.hid fun X hX A c hA B d hB => by
                    have h := rput_any (.node tk tn tz tl) (.node sk sn sz sl) A B c d j X hA (by omega) (by omega) htt hB (by omega) (by omega) hts (by omega) (by omega)
                    rw [← HX2.out] at h
                    exact h.mono fun e w' h => h.any
                  have HSX : Hid (∀ X, Below V.heap.size V X → ∀ (A : Option Addr) (c : Nat) (hA : EIn X Any (.node xk xn xz xl) A) (B : Option Addr) (d : Nat) (hB : EIn X Any (.node xk xn xz xl) B), Calls Try.prog 12 #[.agg #[.int .i64 xk, .int .i64 xn, .string xz, .slice A xl.length (capF xl.length c)], .agg #[.int .i64 xk, .int .i64 xn, .string xz, .slice B xl.length (capF xl.length d)]] X fun e w' => e = .returned (.bool true) ∧ Below X.heap.size X w') := Lib.hid fun X hX A c hA B d hB => by
                    have h := rsame6_any (depthE (.node xk xn xz xl)) (.node xk xn xz xl) (.node xk xn xz xl) A B c d X (Nat.le_refl _) hA hB
                    rw [sameE_refl] at h
                    exact h
                  have HSY : Hid (∀ X, Below V.heap.size V X → ∀ (A : Option Addr) (c : Nat) (hA : EIn X Any (.node yk yn yz yl) A) (B : Option Addr) (d : Nat) (hB : EIn X Any (.node yk yn yz yl) B), Calls Try.prog 12 #[.agg #[.int .i64 yk, .int .i64 yn, .string yz, .slice A yl.length (capF yl.length c)], .agg #[.int .i64 yk, .int .i64 yn, .string yz, .slice B yl.length (capF yl.length d)]] X fun e w' => e = .returned (.bool true) ∧ Below X.heap.size X w') := Lib.hid fun X hX A c hA B d hB => by
                    have h := rsame6_any (depthE (.node yk yn yz yl)) (.node yk yn yz yl) (.node yk yn yz yl) A B c d X (Nat.le_refl _) hA hB
                    rw [sameE_refl] at h
                    exact h
                  have HUS : Hid (∀ X, Below V.heap.size V X → ∀ (A : Option Addr) (c : Nat) (hA : EIn X Any (.node tk tn tz tl) A), Calls Try.prog 17 #[.agg #[.int .i64 tk, .int .i64 tn, .string tz, .slice A tl.length (capF tl.length c)], .int .i64 j] X fun e w' => e = .returned (.int .i64 (nu : Int)) ∧ Below X.heap.size X w') := Lib.hid fun X hX A c hA => by
                    have h := uses_any (depthE (.node tk tn tz tl)) (.node tk tn tz tl) A c j X (Nat.le_refl _) (by omega) (by omega) htt (by omega) (by omega) hA
                    rw [← HNU.out] at h
                    exact h
                  have HRS : Hid (∀ X, Below V.heap.size V X → ∀ (A : Option Addr) (c : Nat) (hA : EIn X Any (.node tk tn tz tl) A), Calls Try.prog 18 #[.agg #[.int .i64 tk, .int .i64 tn, .string tz, .slice A tl.length (capF tl.length c)], .int .i64 j] X fun e w' => e = .returned (.int .i64 (nu : Int)) ∧ Below X.heap.size X w') := Lib.hid fun X hX A c hA => by
                    have h := ruses_any (depthE (.node tk tn tz tl)) (.node tk tn tz tl) A c j X (Nat.le_refl _) (by omega) (by omega) htt (by omega) (by omega) hA
                    rw [← HNU.out] at h
                    exact h
                  have hb_1 : Below V.heap.size V V := Below.refl _ _
                  refine wp_region_K (S := (fun V' : World => (V'.cell? ⟨g0, 0, none⟩ = some (.int .i64 tk) ∧ V'.cell? ⟨g0, 1, none⟩ = some (.int .i64 tn) ∧ V'.cell? ⟨g0, 2, none⟩ = some (.string tz) ∧ V'.cell? ⟨g0, 3, none⟩ = some (.slice A0 tl.length (capF tl.length c0)) ∧ V'.cell? ⟨g1, 0, none⟩ = some (.int .i64 sk) ∧ V'.cell? ⟨g1, 1, none⟩ = some (.int .i64 sn) ∧ V'.cell? ⟨g1, 2, none⟩ = some (.string sz) ∧ V'.cell? ⟨g1, 3, none⟩ = some (.slice A1 sl.length (capF sl.length c1))))) 32 rfl (HSS.out _ hb_1.drew) (fun hSs => ?_)
                  change wpAnyK _ _ _ _ _ _ 33 (Array.replicate 33 false) _ _
                  refine wpAnyK_one (i := 0) rfl rfl (by kernel_rfl) (fun K hK => ?_)
                  go_simp
                  refine (HFX.out _ (hb_1.drew)).mono ?_
                  rintro e u_2 ⟨rfl, hq_2⟩
                  have hb_2 := (hb_1.drew).trans (hq_2.mono (hb_1.drew).size)
                  have ht0_2 := EIn.below _ (EIn.below _ ht0 (Below.refl _ _).drew (Nat.le_refl _)) hq_2 (Nat.le_refl _)
                  have ht1_2 := EIn.below _ (EIn.below _ ht1 (Below.refl _ _).drew (Nat.le_refl _)) hq_2 (Nat.le_refl _)
                  clear ht0 ht1
                  refine hK.out _ _ (fun _ => HSS.out _ hb_2) (fun hS9 => ?_)
                  have hS_2 := hS9 (by decide)
                  clear hK K hS9
                  try simp only [Act.put, List.setIfInBounds_toArray, List.set_cons_zero, List.set_cons_succ]
                  refine wpAnyK_take (i := 1) (oi := ⟨some 49, _, _, _, _, _⟩) (v := .bool true) rfl (by kernel_rfl) (by kernel_rfl) (by kernel_rfl) (by kernel_rfl) (fun _ _ _ h => h) (.inl ⟨by kernel_rfl, fun W hW => by kernel_rfl⟩) hS_2 ?_
                  try simp only [Act.put, List.setIfInBounds_toArray, List.set_cons_zero, List.set_cons_succ]
                  refine wpAnyK_take (i := 2) (oi := ⟨some 50, _, _, _, _, _⟩) (v := .agg #[.int .i64 tk, .int .i64 tn, .string tz, .slice A0 tl.length (capF tl.length c0)]) rfl (by kernel_rfl) (by kernel_rfl) (by kernel_rfl) (by kernel_rfl) (fun _ _ _ h => h) (.inl ⟨by kernel_rfl, fun W hW => by first | (obtain ⟨z0, z1, z2, z3, z4, z5, z6, z7⟩ := hW; go_simp; done) | (obtain ⟨z0, z1, z2, z3, z4, z5, z6, z7⟩ := hW; go_simp; omega) | (obtain ⟨z0, z1, z2, z3, z4, z5, z6, z7⟩ := hW; go_simp; exact IntWalk.i64_in _ (by omega)) | (obtain ⟨z0, z1, z2, z3, z4, z5, z6, z7⟩ := hW; go_simp; simp [*]; done)⟩) hS_2 ?_
                  try simp only [Act.put, List.setIfInBounds_toArray, List.set_cons_zero, List.set_cons_succ]
                  refine wpAnyK_take (i := 3) (oi := ⟨some 51, _, _, _, _, _⟩) (v := .int .i64 y) rfl (by kernel_rfl) (by kernel_rfl) (by kernel_rfl) (by kernel_rfl) (fun _ _ _ h => h) (.inl ⟨by kernel_rfl, fun W hW => by kernel_rfl⟩) hS_2 ?_
                  try simp only [Act.put, List.setIfInBounds_toArray, List.set_cons_zero, List.set_cons_succ]
                  refine wpAnyK_take (i := 4) (oi := ⟨some 52, _, _, _, _, _⟩) (v := .int .i64 j) rfl (by kernel_rfl) (by kernel_rfl) (by kernel_rfl) (by kernel_rfl) (fun _ _ _ h => h) (.inl ⟨by kernel_rfl, fun W hW => by kernel_rfl⟩) hS_2 ?_
                  try simp only [Act.put, List.setIfInBounds_toArray, List.set_cons_zero, List.set_cons_succ]
                  refine wpAnyK_take (i := 6) (oi := ⟨some 54, _, _, _, _, _⟩) (v := .agg #[.int .i64 tk, .int .i64 tn, .string tz, .slice A0 tl.length (capF tl.length c0)]) rfl (by kernel_rfl) (by kernel_rfl) (by kernel_rfl) (by kernel_rfl) (fun _ _ _ h => h) (.inl ⟨by kernel_rfl, fun W hW => by first | (obtain ⟨z0, z1, z2, z3, z4, z5, z6, z7⟩ := hW; go_simp; done) | (obtain ⟨z0, z1, z2, z3, z4, z5, z6, z7⟩ := hW; go_simp; omega) | (obtain ⟨z0, z1, z2, z3, z4, z5, z6, z7⟩ := hW; go_simp; exact IntWalk.i64_in _ (by omega)) | (obtain ⟨z0, z1, z2, z3, z4, z5, z6, z7⟩ := hW; go_simp; simp [*]; done)⟩) hS_2 ?_
                  try simp only [Act.put, List.setIfInBounds_toArray, List.set_cons_zero, List.set_cons_succ]
                  refine wpAnyK_take (i := 7) (oi := ⟨some 55, _, _, _, _, _⟩) (v := .int .i64 y) rfl (by kernel_rfl) (by kernel_rfl) (by kernel_rfl) (by kernel_rfl) (fun _ _ _ h => h) (.inl ⟨by kernel_rfl, fun W hW => by kernel_rfl⟩) hS_2 ?_
                  try simp only [Act.put, List.setIfInBounds_toArray, List.set_cons_zero, List.set_cons_succ]
                  refine wpAnyK_take (i := 8) (oi := ⟨some 56, _, _, _, _, _⟩) (v := .int .i64 j) rfl (by kernel_rfl) (by kernel_rfl) (by kernel_rfl) (by kernel_rfl) (fun _ _ _ h => h) (.inl ⟨by kernel_rfl, fun W hW => by kernel_rfl⟩) hS_2 ?_
                  try simp only [Act.put, List.setIfInBounds_toArray, List.set_cons_zero, List.set_cons_succ]
                  refine wpAnyK_oneW (i := 5) rfl (by kernel_rfl) (by kernel_rfl) (fun K hK => ?_)
                  go_simp
                  refine (HUP.out _ hb_2 A0 c0 ht0_2).mono ?_
                  rintro e u_3 ⟨A_3, c_3, rfl, hT_3, hq_3⟩
                  have hb_3 := hb_2.trans (hq_3.mono hb_2.size)
                  have ht0_2_3 := EIn.below _ ht0_2 hq_3 (Nat.le_refl _)
                  have ht1_2_3 := EIn.below _ ht1_2 hq_3 (Nat.le_refl _)
                  clear ht0_2 ht1_2
                  refine hK.out _ _ (fun _ => HSS.out _ hb_3) (fun hS9 => ?_)
                  have hS_3 := hS9 (by decide)
                  clear hK K hS9
                  try simp only [Act.put, List.setIfInBounds_toArray, List.set_cons_zero, List.set_cons_succ]
                  refine wpAnyK_oneW (i := 9) rfl (by kernel_rfl) (by kernel_rfl) (fun K hK => ?_)
                  go_simp
                  refine (HRU.out _ hb_3 A0 c0 ht0_2_3).mono ?_
                  rintro e u_4 ⟨A_4, c_4, rfl, hT_4, hq_4⟩
                  have hb_4 := hb_3.trans (hq_4.mono hb_3.size)
                  have ht0_2_3_4 := EIn.below _ ht0_2_3 hq_4 (Nat.le_refl _)
                  have ht1_2_3_4 := EIn.below _ ht1_2_3 hq_4 (Nat.le_refl _)
                  have hT_3_4 := EIn.below _ hT_3 hq_4 (Nat.le_refl _)
                  clear ht0_2_3 ht1_2_3 hT_3
                  refine hK.out _ _ (fun _ => HSS.out _ hb_4) (fun hS9 => ?_)
                  have hS_4 := hS9 (by decide)
                  clear hK K hS9
                  try simp only [Act.put, List.setIfInBounds_toArray, List.set_cons_zero, List.set_cons_succ]
                  refine wpAnyK_oneW (i := 10) rfl (by kernel_rfl) (by kernel_rfl) (fun K hK => ?_)
                  go_simp
                  refine (HSX.out _ hb_4 A_3 c_3 hT_3_4 A_4 c_4 hT_4).mono ?_
                  rintro e u_5 ⟨rfl, hq_5⟩
                  have hb_5 := hb_4.trans (hq_5.mono hb_4.size)
                  have ht0_2_3_4_5 := EIn.below _ ht0_2_3_4 hq_5 (Nat.le_refl _)
                  have ht1_2_3_4_5 := EIn.below _ ht1_2_3_4 hq_5 (Nat.le_refl _)
                  have hT_3_4_5 := EIn.below _ hT_3_4 hq_5 (Nat.le_refl _)
                  have hT_4_5 := EIn.below _ hT_4 hq_5 (Nat.le_refl _)
                  clear ht0_2_3_4 ht1_2_3_4 hT_3_4 hT_4
                  refine hK.out _ _ (fun _ => HSS.out _ hb_5) (fun hS9 => ?_)
                  have hS_5 := hS9 (by decide)
                  clear hK K hS9
                  try simp only [Act.put, List.setIfInBounds_toArray, List.set_cons_zero, List.set_cons_succ]
                  refine wpAnyK_take (i := 11) (oi := ⟨some 59, _, _, _, _, _⟩) (v := .bool true) rfl (by kernel_rfl) (by kernel_rfl) (by kernel_rfl) (by kernel_rfl) (fun _ _ _ h => h) (.inl ⟨by kernel_rfl, fun W hW => by kernel_rfl⟩) hS_5 ?_
                  try simp only [Act.put, List.setIfInBounds_toArray, List.set_cons_zero, List.set_cons_succ]
                  refine wpAnyK_take (i := 12) (oi := ⟨some 60, _, _, _, _, _⟩) (v := .bool true) rfl (by kernel_rfl) (by kernel_rfl) (by kernel_rfl) (by kernel_rfl) (fun _ _ _ h => h) (.inl ⟨by kernel_rfl, fun W hW => by kernel_rfl⟩) hS_5 ?_
                  try simp only [Act.put, List.setIfInBounds_toArray, List.set_cons_zero, List.set_cons_succ]
                  refine wpAnyK_take (i := 13) (oi := ⟨some 61, _, _, _, _, _⟩) (v := .agg #[.int .i64 tk, .int .i64 tn, .string tz, .slice A0 tl.length (capF tl.length c0)]) rfl (by kernel_rfl) (by kernel_rfl) (by kernel_rfl) (by kernel_rfl) (fun _ _ _ h => h) (.inl ⟨by kernel_rfl, fun W hW => by first | (obtain ⟨z0, z1, z2, z3, z4, z5, z6, z7⟩ := hW; go_simp; done) | (obtain ⟨z0, z1, z2, z3, z4, z5, z6, z7⟩ := hW; go_simp; omega) | (obtain ⟨z0, z1, z2, z3, z4, z5, z6, z7⟩ := hW; go_simp; exact IntWalk.i64_in _ (by omega)) | (obtain ⟨z0, z1, z2, z3, z4, z5, z6, z7⟩ := hW; go_simp; simp [*]; done)⟩) hS_5 ?_
                  try simp only [Act.put, List.setIfInBounds_toArray, List.set_cons_zero, List.set_cons_succ]
                  refine wpAnyK_take (i := 14) (oi := ⟨some 62, _, _, _, _, _⟩) (v := .int .i64 j) rfl (by kernel_rfl) (by kernel_rfl) (by kernel_rfl) (by kernel_rfl) (fun _ _ _ h => h) (.inl ⟨by kernel_rfl, fun W hW => by kernel_rfl⟩) hS_5 ?_
                  try simp only [Act.put, List.setIfInBounds_toArray, List.set_cons_zero, List.set_cons_succ]
                  refine wpAnyK_take (i := 15) (oi := ⟨some 63, _, _, _, _, _⟩) (v := .agg #[.int .i64 sk, .int .i64 sn, .string sz, .slice A1 sl.length (capF sl.length c1)]) rfl (by kernel_rfl) (by kernel_rfl) (by kernel_rfl) (by kernel_rfl) (fun _ _ _ h => h) (.inl ⟨by kernel_rfl, fun W hW => by first | (obtain ⟨z0, z1, z2, z3, z4, z5, z6, z7⟩ := hW; go_simp; done) | (obtain ⟨z0, z1, z2, z3, z4, z5, z6, z7⟩ := hW; go_simp; omega) | (obtain ⟨z0, z1, z2, z3, z4, z5, z6, z7⟩ := hW; go_simp; exact IntWalk.i64_in _ (by omega)) | (obtain ⟨z0, z1, z2, z3, z4, z5, z6, z7⟩ := hW; go_simp; simp [*]; done)⟩) hS_5 ?_
                  try simp only [Act.put, List.setIfInBounds_toArray, List.set_cons_zero, List.set_cons_succ]
                  refine wpAnyK_take (i := 17) (oi := ⟨some 65, _, _, _, _, _⟩) (v := .agg #[.int .i64 tk, .int .i64 tn, .string tz, .slice A0 tl.length (capF tl.length c0)]) rfl (by kernel_rfl) (by kernel_rfl) (by kernel_rfl) (by kernel_rfl) (fun _ _ _ h => h) (.inl ⟨by kernel_rfl, fun W hW => by first | (obtain ⟨z0, z1, z2, z3, z4, z5, z6, z7⟩ := hW; go_simp; done) | (obtain ⟨z0, z1, z2, z3, z4, z5, z6, z7⟩ := hW; go_simp; omega) | (obtain ⟨z0, z1, z2, z3, z4, z5, z6, z7⟩ := hW; go_simp; exact IntWalk.i64_in _ (by omega)) | (obtain ⟨z0, z1, z2, z3, z4, z5, z6, z7⟩ := hW; go_simp; simp [*]; done)⟩) hS_5 ?_
                  try simp only [Act.put, List.setIfInBounds_toArray, List.set_cons_zero, List.set_cons_succ]
                  refine wpAnyK_take (i := 18) (oi := ⟨some 66, _, _, _, _, _⟩) (v := .int .i64 j) rfl (by kernel_rfl) (by kernel_rfl) (by kernel_rfl) (by kernel_rfl) (fun _ _ _ h => h) (.inl ⟨by kernel_rfl, fun W hW => by kernel_rfl⟩) hS_5 ?_
                  try simp only [Act.put, List.setIfInBounds_toArray, List.set_cons_zero, List.set_cons_succ]
                  refine wpAnyK_take (i := 19) (oi := ⟨some 67, _, _, _, _, _⟩) (v := .agg #[.int .i64 sk, .int .i64 sn, .string sz, .slice A1 sl.length (capF sl.length c1)]) rfl (by kernel_rfl) (by kernel_rfl) (by kernel_rfl) (by kernel_rfl) (fun _ _ _ h => h) (.inl ⟨by kernel_rfl, fun W hW => by first | (obtain ⟨z0, z1, z2, z3, z4, z5, z6, z7⟩ := hW; go_simp; done) | (obtain ⟨z0, z1, z2, z3, z4, z5, z6, z7⟩ := hW; go_simp; omega) | (obtain ⟨z0, z1, z2, z3, z4, z5, z6, z7⟩ := hW; go_simp; exact IntWalk.i64_in _ (by omega)) | (obtain ⟨z0, z1, z2, z3, z4, z5, z6, z7⟩ := hW; go_simp; simp [*]; done)⟩) hS_5 ?_
                  try simp only [Act.put, List.setIfInBounds_toArray, List.set_cons_zero, List.set_cons_succ]
                  refine wpAnyK_oneW (i := 16) rfl (by kernel_rfl) (by kernel_rfl) (fun K hK => ?_)
                  go_simp
                  refine (HPU.out _ hb_5 A0 c0 ht0_2_3_4_5 A1 c1 ht1_2_3_4_5).mono ?_
                  rintro e u_6 ⟨A_6, c_6, rfl, hT_6, hq_6⟩
                  have hb_6 := hb_5.trans (hq_6.mono hb_5.size)
                  have ht0_2_3_4_5_6 := EIn.below _ ht0_2_3_4_5 hq_6 (Nat.le_refl _)
                  have ht1_2_3_4_5_6 := EIn.below _ ht1_2_3_4_5 hq_6 (Nat.le_refl _)
                  have hT_3_4_5_6 := EIn.below _ hT_3_4_5 hq_6 (Nat.le_refl _)
                  have hT_4_5_6 := EIn.below _ hT_4_5 hq_6 (Nat.le_refl _)
                  clear ht0_2_3_4_5 ht1_2_3_4_5 hT_3_4_5 hT_4_5
                  refine hK.out _ _ (fun _ => HSS.out _ hb_6) (fun hS9 => ?_)
                  have hS_6 := hS9 (by decide)
                  clear hK K hS9
                  try simp only [Act.put, List.setIfInBounds_toArray, List.set_cons_zero, List.set_cons_succ]
                  refine wpAnyK_oneW (i := 20) rfl (by kernel_rfl) (by kernel_rfl) (fun K hK => ?_)
                  go_simp
                  refine (HRP.out _ hb_6 A0 c0 ht0_2_3_4_5_6 A1 c1 ht1_2_3_4_5_6).mono ?_
                  rintro e u_7 ⟨A_7, c_7, rfl, hT_7, hq_7⟩
                  have hb_7 := hb_6.trans (hq_7.mono hb_6.size)
                  have ht0_2_3_4_5_6_7 := EIn.below _ ht0_2_3_4_5_6 hq_7 (Nat.le_refl _)
                  have ht1_2_3_4_5_6_7 := EIn.below _ ht1_2_3_4_5_6 hq_7 (Nat.le_refl _)
                  have hT_3_4_5_6_7 := EIn.below _ hT_3_4_5_6 hq_7 (Nat.le_refl _)
                  have hT_4_5_6_7 := EIn.below _ hT_4_5_6 hq_7 (Nat.le_refl _)
                  have hT_6_7 := EIn.below _ hT_6 hq_7 (Nat.le_refl _)
                  clear ht0_2_3_4_5_6 ht1_2_3_4_5_6 hT_3_4_5_6 hT_4_5_6 hT_6
                  refine hK.out _ _ (fun _ => HSS.out _ hb_7) (fun hS9 => ?_)
                  have hS_7 := hS9 (by decide)
                  clear hK K hS9
                  try simp only [Act.put, List.setIfInBounds_toArray, List.set_cons_zero, List.set_cons_succ]
                  refine wpAnyK_oneW (i := 21) rfl (by kernel_rfl) (by kernel_rfl) (fun K hK => ?_)
                  go_simp
                  refine (HSY.out _ hb_7 A_6 c_6 hT_6_7 A_7 c_7 hT_7).mono ?_
                  rintro e u_8 ⟨rfl, hq_8⟩
                  have hb_8 := hb_7.trans (hq_8.mono hb_7.size)
                  have ht0_2_3_4_5_6_7_8 := EIn.below _ ht0_2_3_4_5_6_7 hq_8 (Nat.le_refl _)
                  have ht1_2_3_4_5_6_7_8 := EIn.below _ ht1_2_3_4_5_6_7 hq_8 (Nat.le_refl _)
                  have hT_3_4_5_6_7_8 := EIn.below _ hT_3_4_5_6_7 hq_8 (Nat.le_refl _)
                  have hT_4_5_6_7_8 := EIn.below _ hT_4_5_6_7 hq_8 (Nat.le_refl _)
                  have hT_6_7_8 := EIn.below _ hT_6_7 hq_8 (Nat.le_refl _)
                  have hT_7_8 := EIn.below _ hT_7 hq_8 (Nat.le_refl _)
                  clear ht0_2_3_4_5_6_7 ht1_2_3_4_5_6_7 hT_3_4_5_6_7 hT_4_5_6_7 hT_6_7 hT_7
                  refine hK.out _ _ (fun _ => HSS.out _ hb_8) (fun hS9 => ?_)
                  have hS_8 := hS9 (by decide)
                  clear hK K hS9
                  try simp only [Act.put, List.setIfInBounds_toArray, List.set_cons_zero, List.set_cons_succ]
                  refine wpAnyK_take (i := 22) (oi := ⟨some 70, _, _, _, _, _⟩) (v := .bool true) rfl (by kernel_rfl) (by kernel_rfl) (by kernel_rfl) (by kernel_rfl) (fun _ _ _ h => h) (.inl ⟨by kernel_rfl, fun W hW => by kernel_rfl⟩) hS_8 ?_
                  try simp only [Act.put, List.setIfInBounds_toArray, List.set_cons_zero, List.set_cons_succ]
                  refine wpAnyK_take (i := 23) (oi := ⟨some 71, _, _, _, _, _⟩) (v := .bool true) rfl (by kernel_rfl) (by kernel_rfl) (by kernel_rfl) (by kernel_rfl) (fun _ _ _ h => h) (.inl ⟨by kernel_rfl, fun W hW => by kernel_rfl⟩) hS_8 ?_
                  try simp only [Act.put, List.setIfInBounds_toArray, List.set_cons_zero, List.set_cons_succ]
                  refine wpAnyK_take (i := 24) (oi := ⟨some 72, _, _, _, _, _⟩) (v := .agg #[.int .i64 tk, .int .i64 tn, .string tz, .slice A0 tl.length (capF tl.length c0)]) rfl (by kernel_rfl) (by kernel_rfl) (by kernel_rfl) (by kernel_rfl) (fun _ _ _ h => h) (.inl ⟨by kernel_rfl, fun W hW => by first | (obtain ⟨z0, z1, z2, z3, z4, z5, z6, z7⟩ := hW; go_simp; done) | (obtain ⟨z0, z1, z2, z3, z4, z5, z6, z7⟩ := hW; go_simp; omega) | (obtain ⟨z0, z1, z2, z3, z4, z5, z6, z7⟩ := hW; go_simp; exact IntWalk.i64_in _ (by omega)) | (obtain ⟨z0, z1, z2, z3, z4, z5, z6, z7⟩ := hW; go_simp; simp [*]; done)⟩) hS_8 ?_
                  try simp only [Act.put, List.setIfInBounds_toArray, List.set_cons_zero, List.set_cons_succ]
                  refine wpAnyK_take (i := 25) (oi := ⟨some 73, _, _, _, _, _⟩) (v := .int .i64 j) rfl (by kernel_rfl) (by kernel_rfl) (by kernel_rfl) (by kernel_rfl) (fun _ _ _ h => h) (.inl ⟨by kernel_rfl, fun W hW => by kernel_rfl⟩) hS_8 ?_
                  try simp only [Act.put, List.setIfInBounds_toArray, List.set_cons_zero, List.set_cons_succ]
                  refine wpAnyK_take (i := 27) (oi := ⟨some 75, _, _, _, _, _⟩) (v := .agg #[.int .i64 tk, .int .i64 tn, .string tz, .slice A0 tl.length (capF tl.length c0)]) rfl (by kernel_rfl) (by kernel_rfl) (by kernel_rfl) (by kernel_rfl) (fun _ _ _ h => h) (.inl ⟨by kernel_rfl, fun W hW => by first | (obtain ⟨z0, z1, z2, z3, z4, z5, z6, z7⟩ := hW; go_simp; done) | (obtain ⟨z0, z1, z2, z3, z4, z5, z6, z7⟩ := hW; go_simp; omega) | (obtain ⟨z0, z1, z2, z3, z4, z5, z6, z7⟩ := hW; go_simp; exact IntWalk.i64_in _ (by omega)) | (obtain ⟨z0, z1, z2, z3, z4, z5, z6, z7⟩ := hW; go_simp; simp [*]; done)⟩) hS_8 ?_
                  try simp only [Act.put, List.setIfInBounds_toArray, List.set_cons_zero, List.set_cons_succ]
                  refine wpAnyK_take (i := 28) (oi := ⟨some 76, _, _, _, _, _⟩) (v := .int .i64 j) rfl (by kernel_rfl) (by kernel_rfl) (by kernel_rfl) (by kernel_rfl) (fun _ _ _ h => h) (.inl ⟨by kernel_rfl, fun W hW => by kernel_rfl⟩) hS_8 ?_
                  try simp only [Act.put, List.setIfInBounds_toArray, List.set_cons_zero, List.set_cons_succ]
                  refine wpAnyK_oneW (i := 26) rfl (by kernel_rfl) (by kernel_rfl) (fun K hK => ?_)
                  go_simp
                  refine (HUS.out _ hb_8 A0 c0 ht0_2_3_4_5_6_7_8).mono ?_
                  rintro e u_9 ⟨rfl, hq_9⟩
                  have hb_9 := hb_8.trans (hq_9.mono hb_8.size)
                  have ht0_2_3_4_5_6_7_8_9 := EIn.below _ ht0_2_3_4_5_6_7_8 hq_9 (Nat.le_refl _)
                  have ht1_2_3_4_5_6_7_8_9 := EIn.below _ ht1_2_3_4_5_6_7_8 hq_9 (Nat.le_refl _)
                  have hT_3_4_5_6_7_8_9 := EIn.below _ hT_3_4_5_6_7_8 hq_9 (Nat.le_refl _)
                  have hT_4_5_6_7_8_9 := EIn.below _ hT_4_5_6_7_8 hq_9 (Nat.le_refl _)
                  have hT_6_7_8_9 := EIn.below _ hT_6_7_8 hq_9 (Nat.le_refl _)
                  have hT_7_8_9 := EIn.below _ hT_7_8 hq_9 (Nat.le_refl _)
                  clear ht0_2_3_4_5_6_7_8 ht1_2_3_4_5_6_7_8 hT_3_4_5_6_7_8 hT_4_5_6_7_8 hT_6_7_8 hT_7_8
                  refine hK.out _ _ (fun _ => HSS.out _ hb_9) (fun hS9 => ?_)
                  have hS_9 := hS9 (by decide)
                  clear hK K hS9
                  try simp only [Act.put, List.setIfInBounds_toArray, List.set_cons_zero, List.set_cons_succ]
                  refine wpAnyK_oneW (i := 29) rfl (by kernel_rfl) (by kernel_rfl) (fun K hK => ?_)
                  go_simp
                  refine (HRS.out _ hb_9 A0 c0 ht0_2_3_4_5_6_7_8_9).mono ?_
                  rintro e u_10 ⟨rfl, hq_10⟩
                  have hb_10 := hb_9.trans (hq_10.mono hb_9.size)
                  have ht0_2_3_4_5_6_7_8_9_10 := EIn.below _ ht0_2_3_4_5_6_7_8_9 hq_10 (Nat.le_refl _)
                  have ht1_2_3_4_5_6_7_8_9_10 := EIn.below _ ht1_2_3_4_5_6_7_8_9 hq_10 (Nat.le_refl _)
                  have hT_3_4_5_6_7_8_9_10 := EIn.below _ hT_3_4_5_6_7_8_9 hq_10 (Nat.le_refl _)
                  have hT_4_5_6_7_8_9_10 := EIn.below _ hT_4_5_6_7_8_9 hq_10 (Nat.le_refl _)
                  have hT_6_7_8_9_10 := EIn.below _ hT_6_7_8_9 hq_10 (Nat.le_refl _)
                  have hT_7_8_9_10 := EIn.below _ hT_7_8_9 hq_10 (Nat.le_refl _)
                  clear ht0_2_3_4_5_6_7_8_9 ht1_2_3_4_5_6_7_8_9 hT_3_4_5_6_7_8_9 hT_4_5_6_7_8_9 hT_6_7_8_9 hT_7_8_9
                  refine hK.out _ _ (fun _ => HSS.out _ hb_10) (fun hS9 => ?_)
                  have hS_10 := hS9 (by decide)
                  clear hK K hS9
                  try simp only [Act.put, List.setIfInBounds_toArray, List.set_cons_zero, List.set_cons_succ]
                  refine wpAnyK_take (i := 30) (oi := ⟨some 78, _, _, _, _, _⟩) (v := .bool true) rfl (by kernel_rfl) (by kernel_rfl) (by kernel_rfl) (by kernel_rfl) (fun _ _ _ h => h) (.inl ⟨by kernel_rfl, fun W hW => by first | (obtain ⟨z0, z1, z2, z3, z4, z5, z6, z7⟩ := hW; go_simp; done) | (obtain ⟨z0, z1, z2, z3, z4, z5, z6, z7⟩ := hW; go_simp; omega) | (obtain ⟨z0, z1, z2, z3, z4, z5, z6, z7⟩ := hW; go_simp; exact IntWalk.i64_in _ (by omega)) | (obtain ⟨z0, z1, z2, z3, z4, z5, z6, z7⟩ := hW; go_simp; simp [*]; done)⟩) hS_10 ?_
                  try simp only [Act.put, List.setIfInBounds_toArray, List.set_cons_zero, List.set_cons_succ]
                  refine wpAnyK_take (i := 31) (oi := ⟨some 79, _, _, _, _, _⟩) (v := .bool true) rfl (by kernel_rfl) (by kernel_rfl) (by kernel_rfl) (by kernel_rfl) (fun _ _ _ h => h) (.inl ⟨by kernel_rfl, fun W hW => by kernel_rfl⟩) hS_10 ?_
                  try simp only [Act.put, List.setIfInBounds_toArray, List.set_cons_zero, List.set_cons_succ]
                  refine wpAnyK_one (i := 32) rfl rfl (by kernel_rfl) (fun K hK => ?_)
                  go_simp
                  refine hK.out _ _ (fun h => absurd rfl h) (fun _ => ?_)
                  clear hK K
                  try simp only [Act.put, List.setIfInBounds_toArray, List.set_cons_zero, List.set_cons_succ]
                  refine wpAnyK_done (by kernel_rfl) ?_ _
                  go_wp2_with fail
                  go_ret
                  exact ⟨rfl, HB.out.trans (hb_10.mono HB.out.size)⟩
end Lx
end Go.Proofs.Ytcgiloccmehbeaa
