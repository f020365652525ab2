/-
  The law SubstSwaps, walked.
-/
import Derived.Test.YtcgiloccmehbeaaY9
import Derived.Test.YtcgiloccmehbeaaYB
namespace Go.Proofs.Ytcgiloccmehbeaa
open Go.RowKit
namespace Lx
set_option maxRecDepth 100000
set_option maxHeartbeats 32000000 in
theorem swaps8_any (t : Te) (A0 : Option Addr) (c0 : Nat) (s : Te) (A1 : Option Addr) (c1 : Nat) (r : Te) (A2 : Option Addr) (c2 : Nat) (w : World) (hI : EIn w Any t A0) (hJ : EIn w Any s A1) (hK : EIn w Any r A2) :
    Calls Try.prog 5 #[ev t A0 c0, ev s A1 c1, ev r A2 c2] w fun e w' => e = .returned (.bool true) ∧ Below w.heap.size w w' := by
  obtain ⟨tk, tn, tz, tl⟩ := t
  obtain ⟨sk, sn, sz, sl⟩ := s
  obtain ⟨rk, rn, rz, rl⟩ := r
  show Calls Try.prog 5 #[.agg #[.int .i64 tk, .int .i64 tn, .string tz, .slice A0 tl.length (capF tl.length c0)], .agg #[.int .i64 sk, .int .i64 sn, .string sz, .slice A1 sl.length (capF sl.length c1)], .agg #[.int .i64 rk, .int .i64 rn, .string rz, .slice A2 rl.length (capF rl.length c2)]] w _
  have HX0 := Lib.hid (((Bx8.new (c := c0) hI (Below.refl _ w) rfl).old (.cells #[.int .i64 sk, .int .i64 sn, .string sz, .slice A1 sl.length (capF sl.length c1)] 24)).old (.cells #[.int .i64 rk, .int .i64 rn, .string rz, .slice A2 rl.length (capF rl.length c2)] 24))
  have HX1 := Lib.hid ((Bx8.new (c := c1) (g := w.heap.size + 1) hJ ((Below.refl _ w).alloc (Nat.le_refl _) (.cells #[.int .i64 tk, .int .i64 tn, .string tz, .slice A0 tl.length (capF tl.length c0)] 24)) (by simp)).old (.cells #[.int .i64 rk, .int .i64 rn, .string rz, .slice A2 rl.length (capF rl.length c2)] 24))
  have HX2 := Lib.hid (Bx8.new (c := c2) (g := w.heap.size + 1 + 1) hK (((Below.refl _ w).alloc (Nat.le_refl _) (.cells #[.int .i64 tk, .int .i64 tn, .string tz, .slice A0 tl.length (capF tl.length c0)] 24)).alloc (by simp) (.cells #[.int .i64 sk, .int .i64 sn, .string sz, .slice A1 sl.length (capF sl.length c1)] 24)) (by simp))
  clear hI hJ hK
  go_enter Try.func5, Try.ntmps5
  go_wp2_with fail
  refine (fixed8_any _).mono ?_
  rintro e w2 ⟨rfl, hb2⟩
  replace HX0 := Lib.hid (HX0.out.step hb2)
  replace HX1 := Lib.hid (HX1.out.step hb2)
  replace HX2 := Lib.hid (HX2.out.step hb2)
  clear hb2
  obtain ⟨d0, d1, d2, d3⟩ := HX0.out.four
  have HG := Lib.hid (HX0.out.small 60 (by omega) (by omega))
  cases hv : decide (0 ≤ fewE (.node tk tn tz tl) 60 600)
  · rw [hv] at HG
    clear hv
    go_wp2_with fail
    refine HG.out.mono ?_
    rintro e w3 ⟨rfl, hb3⟩
    clear HG d0 d1 d2 d3
    replace HX0 := Lib.hid (HX0.out.step hb3)
    replace HX1 := Lib.hid (HX1.out.step hb3)
    replace HX2 := Lib.hid (HX2.out.step hb3)
    clear hb3
    go_wp2_with fail
    refine (fixed8_any w3).mono ?_
    rintro e w4 ⟨rfl, hb4⟩
    have hbw := HX0.out.bw.trans (hb4.mono HX0.out.bw.size)
    go_wp2_with fail
    go_ret
    exact ⟨rfl, hbw⟩
  · rw [hv] at HG
    have hm0 := small8 hv (by omega)
    clear hv
    go_wp2_with fail
    refine HG.out.mono ?_
    rintro e w3 ⟨rfl, hb3⟩
    clear HG d0 d1 d2 d3
    replace HX0 := Lib.hid (HX0.out.step hb3)
    replace HX1 := Lib.hid (HX1.out.step hb3)
    replace HX2 := Lib.hid (HX2.out.step hb3)
    clear hb3
    obtain ⟨d0, d1, d2, d3⟩ := HX1.out.four
    have HG := Lib.hid (HX1.out.small 60 (by omega) (by omega))
    cases hv : decide (0 ≤ fewE (.node sk sn sz sl) 60 600)
    · rw [hv] at HG
      clear hv
      go_wp2_with fail
      refine HG.out.mono ?_
      rintro e w5 ⟨rfl, hb5⟩
      clear HG d0 d1 d2 d3
      replace HX0 := Lib.hid (HX0.out.step hb5)
      replace HX1 := Lib.hid (HX1.out.step hb5)
      replace HX2 := Lib.hid (HX2.out.step hb5)
      clear hb5
      go_wp2_with fail
      refine (fixed8_any w5).mono ?_
      rintro e w6 ⟨rfl, hb6⟩
      have hbw := HX0.out.bw.trans (hb6.mono HX0.out.bw.size)
      go_wp2_with fail
      go_ret
      exact ⟨rfl, hbw⟩
    · rw [hv] at HG
      have hm1 := small8 hv (by omega)
      clear hv
      go_wp2_with fail
      refine HG.out.mono ?_
      rintro e w5 ⟨rfl, hb5⟩
      clear HG d0 d1 d2 d3
      replace HX0 := Lib.hid (HX0.out.step hb5)
      replace HX1 := Lib.hid (HX1.out.step hb5)
      replace HX2 := Lib.hid (HX2.out.step hb5)
      clear hb5
      obtain ⟨d0, d1, d2, d3⟩ := HX2.out.four
      have HG := Lib.hid (HX2.out.small 60 (by omega) (by omega))
      cases hv : decide (0 ≤ fewE (.node rk rn rz rl) 60 600)
      · rw [hv] at HG
        clear hv
        go_wp2_with fail
        refine HG.out.mono ?_
        rintro e w7 ⟨rfl, hb7⟩
        clear HG d0 d1 d2 d3
        replace HX0 := Lib.hid (HX0.out.step hb7)
        replace HX1 := Lib.hid (HX1.out.step hb7)
        replace HX2 := Lib.hid (HX2.out.step hb7)
        clear hb7
        go_wp2_with fail
        refine (fixed8_any w7).mono ?_
        rintro e w8 ⟨rfl, hb8⟩
        have hbw := HX0.out.bw.trans (hb8.mono HX0.out.bw.size)
        go_wp2_with fail
        go_ret
        exact ⟨rfl, hbw⟩
      · rw [hv] at HG
        have hm2 := small8 hv (by omega)
        clear hv
        go_wp2_with fail
        refine HG.out.mono ?_
        rintro e w7 ⟨rfl, hb7⟩
        clear HG d0 d1 d2 d3
        replace HX0 := Lib.hid (HX0.out.step hb7)
        replace HX1 := Lib.hid (HX1.out.step hb7)
        replace HX2 := Lib.hid (HX2.out.step hb7)
        clear hb7
        obtain ⟨d0, d1, d2, d3⟩ := HX0.out.four
        have HG := Lib.hid (rMay6_any (.node tk tn tz tl) A0 c0 5 _ HX0.out.tin (by omega) (by omega) (by omega))
        cases hv : mayQ (.node tk tn tz tl) 5 false
        · rw [hv] at HG
          clear hv
          go_wp2_with fail
          refine HG.out.mono ?_
          rintro e w9 ⟨rfl, hb9⟩
          clear HG d0 d1 d2 d3
          replace HX0 := Lib.hid (HX0.out.step hb9)
          replace HX1 := Lib.hid (HX1.out.step hb9)
          replace HX2 := Lib.hid (HX2.out.step hb9)
          clear hb9
          go_wp2_with fail
          refine (fixed8_any w9).mono ?_
          rintro e w10 ⟨rfl, hb10⟩
          have hbw := HX0.out.bw.trans (hb10.mono HX0.out.bw.size)
          go_wp2_with fail
          go_ret
          exact ⟨rfl, hbw⟩
        · rw [hv] at HG
          have hmt := hv
          clear hv
          go_wp2_with fail
          refine HG.out.mono ?_
          rintro e w9 ⟨rfl, hb9⟩
          clear HG d0 d1 d2 d3
          replace HX0 := Lib.hid (HX0.out.step hb9)
          replace HX1 := Lib.hid (HX1.out.step hb9)
          replace HX2 := Lib.hid (HX2.out.step hb9)
          clear hb9
          obtain ⟨d0, d1, d2, d3⟩ := HX1.out.four
          have HG := Lib.hid (rMay6_any (.node sk sn sz sl) A1 c1 5 _ HX1.out.tin (by omega) (by omega) (by omega))
          cases hv : mayQ (.node sk sn sz sl) 5 false
          · rw [hv] at HG
            clear hv
            go_wp2_with fail
            refine HG.out.mono ?_
            rintro e w11 ⟨rfl, hb11⟩
            clear HG d0 d1 d2 d3
            replace HX0 := Lib.hid (HX0.out.step hb11)
            replace HX1 := Lib.hid (HX1.out.step hb11)
            replace HX2 := Lib.hid (HX2.out.step hb11)
            clear hb11
            go_wp2_with fail
            refine (fixed8_any w11).mono ?_
            rintro e w12 ⟨rfl, hb12⟩
            have hbw := HX0.out.bw.trans (hb12.mono HX0.out.bw.size)
            go_wp2_with fail
            go_ret
            exact ⟨rfl, hbw⟩
          · rw [hv] at HG
            have hms := hv
            clear hv
            go_wp2_with fail
            refine HG.out.mono ?_
            rintro e w11 ⟨rfl, hb11⟩
            clear HG d0 d1 d2 d3
            replace HX0 := Lib.hid (HX0.out.step hb11)
            replace HX1 := Lib.hid (HX1.out.step hb11)
            replace HX2 := Lib.hid (HX2.out.step hb11)
            clear hb11
            obtain ⟨d0, d1, d2, d3⟩ := HX2.out.four
            have HG := Lib.hid (rMay6_any (.node rk rn rz rl) A2 c2 5 _ HX2.out.tin (by omega) (by omega) (by omega))
            cases hv : mayQ (.node rk rn rz rl) 5 false
            · rw [hv] at HG
              clear hv
              go_wp2_with fail
              refine HG.out.mono ?_
              rintro e w13 ⟨rfl, hb13⟩
              clear HG d0 d1 d2 d3
              replace HX0 := Lib.hid (HX0.out.step hb13)
              replace HX1 := Lib.hid (HX1.out.step hb13)
              replace HX2 := Lib.hid (HX2.out.step hb13)
              clear hb13
              go_wp2_with fail
              refine (fixed8_any w13).mono ?_
              rintro e w14 ⟨rfl, hb14⟩
              have hbw := HX0.out.bw.trans (hb14.mono HX0.out.bw.size)
              go_wp2_with fail
              go_ret
              exact ⟨rfl, hbw⟩
            · rw [hv] at HG
              have hmr := hv
              clear hv
              go_wp2_with fail
              refine HG.out.mono ?_
              rintro e w13 ⟨rfl, hb13⟩
              clear HG d0 d1 d2 d3
              replace HX0 := Lib.hid (HX0.out.step hb13)
              replace HX1 := Lib.hid (HX1.out.step hb13)
              replace HX2 := Lib.hid (HX2.out.step hb13)
              clear hb13
              have hct := may_cl _ _ _ hmt
              have hcs := may_cl _ _ _ hms
              have hcr := may_cl _ _ _ hmr
              have hwt := clE_wf _ _ hct
              have hws := clE_wf _ _ hcs
              have hwr := clE_wf _ _ hcr
              have hqt : tameE 7000 8 (.node tk tn tz tl) := tameE_mono (by omega) (by omega) _ (clE_tame _ _ hct)
              have hqs : tameE 7000 8 (.node sk sn sz sl) := tameE_mono (by omega) (by omega) _ (clE_tame _ _ hcs)
              have hqr : tameE 7000 8 (.node rk rn rz rl) := tameE_mono (by omega) (by omega) _ (clE_tame _ _ hcr)
              obtain ⟨M, hM⟩ : ∃ X, X = putE (.node tk tn tz tl) 0 (.node sk sn sz sl) := ⟨_, rfl⟩
              obtain ⟨X, hX⟩ : ∃ X, X = putE M 0 (.node rk rn rz rl) := ⟨_, rfl⟩
              obtain ⟨U, hU⟩ : ∃ X, X = upE (.node rk rn rz rl) 1 0 := ⟨_, rfl⟩
              obtain ⟨Y, hY⟩ : ∃ X, X = putE (.node tk tn tz tl) 1 U := ⟨_, rfl⟩
              obtain ⟨Q, hQ⟩ : ∃ X, X = putE (.node sk sn sz sl) 0 (.node rk rn rz rl) := ⟨_, rfl⟩
              obtain ⟨P, hP⟩ : ∃ X, X = upE (.node tk tn tz tl) 1 0 := ⟨_, rfl⟩
              obtain ⟨O, hO⟩ : ∃ X, X = upE (.node tk tn tz tl) 1 2 := ⟨_, rfl⟩
              have hXY : putE Y 0 Q = X := by rw [hX, hM, hY, hU, hQ]; exact (put_put hwt hws hwr).symm
              have hPt : putE P 0 (.node sk sn sz sl) = (.node tk tn tz tl) := by rw [hP, putE, upE]; exact put_back hwt hct 0
              have hOt : putE O 2 (.node sk sn sz sl) = (.node tk tn tz tl) := by rw [hO, putE, upE]; exact put_back hwt hct 2
              have hTt : upE (.node tk tn tz tl) 0 0 = (.node tk tn tz tl) := up_none hct
              have hdm := putE_depth (.node tk tn tz tl) 0 (.node sk sn sz sl)
              have hsm := Nat.le_trans (putE_size (.node tk tn tz tl) 0 (.node sk sn sz sl)) (Nat.mul_le_mul (show _ ≤ 60 by omega) (show _ ≤ 60 by omega))
              rw [← hM] at hdm hsm
              have hqm : tameE 50000 8 M := by rw [hM]; exact tameE_mono (by omega) (by omega) _ (putE_tame (K := 50000 - 32001) (by omega) (tameE_mono (by omega) (by omega) _ hqt) (tameE_mono (by omega) (by omega) _ hqs) 0)
              have hdu := upE_depth (.node rk rn rz rl) 1 0
              have hsu := upE_size (.node rk rn rz rl) 1 0
              rw [← hU] at hdu hsu
              have hqu : tameE 8000 8 U := by rw [hU]; exact tameE_mono (by omega) (by omega) _ (upE_tame (U := 1) (by omega) hqr 1 0 (by omega) (by omega) (by omega))
              have hdy := putE_depth (.node tk tn tz tl) 1 U
              have hsy := Nat.le_trans (putE_size (.node tk tn tz tl) 1 U) (Nat.mul_le_mul (show _ ≤ 60 by omega) (show _ ≤ 60 by omega))
              rw [← hY] at hdy hsy
              have hqy : tameE 50000 8 Y := by rw [hY]; exact tameE_mono (by omega) (by omega) _ (putE_tame (K := 50000 - 32001) (by omega) (tameE_mono (by omega) (by omega) _ hqt) (tameE_mono (by omega) (by omega) _ hqu) 1)
              have hdq := putE_depth (.node sk sn sz sl) 0 (.node rk rn rz rl)
              have hsq := Nat.le_trans (putE_size (.node sk sn sz sl) 0 (.node rk rn rz rl)) (Nat.mul_le_mul (show _ ≤ 60 by omega) (show _ ≤ 60 by omega))
              rw [← hQ] at hdq hsq
              have hqq : tameE 50000 8 Q := by rw [hQ]; exact tameE_mono (by omega) (by omega) _ (putE_tame (K := 50000 - 32001) (by omega) (tameE_mono (by omega) (by omega) _ hqs) (tameE_mono (by omega) (by omega) _ hqr) 0)
              have hdg := upE_depth (.node tk tn tz tl) 1 0
              have hsg := upE_size (.node tk tn tz tl) 1 0
              rw [← hP] at hdg hsg
              have hqg : tameE 8000 8 P := by rw [hP]; exact tameE_mono (by omega) (by omega) _ (upE_tame (U := 1) (by omega) hqt 1 0 (by omega) (by omega) (by omega))
              have hdh := upE_depth (.node tk tn tz tl) 1 2
              have hsh := upE_size (.node tk tn tz tl) 1 2
              rw [← hO] at hdh hsh
              have hqh : tameE 8000 8 O := by rw [hO]; exact tameE_mono (by omega) (by omega) _ (upE_tame (U := 1) (by omega) hqt 1 2 (by omega) (by omega) (by omega))
              have hdx := putE_depth M 0 (.node rk rn rz rl)
              have hsx := Nat.le_trans (putE_size M 0 (.node rk rn rz rl)) (Nat.mul_le_mul (show _ ≤ 3600 by omega) (show _ ≤ 60 by omega))
              rw [← hX] at hdx hsx
              obtain ⟨mk, mn, mz, ml⟩ := M
              obtain ⟨xk, xn, xz, xl⟩ := X
              obtain ⟨uk, un, uz, ul⟩ := U
              obtain ⟨yk, yn, yz, yl⟩ := Y
              obtain ⟨qk, qn, qz, ql⟩ := Q
              obtain ⟨gk, gn, gz, gl⟩ := P
              obtain ⟨hk, hn, hz, hl⟩ := O
              have HM9 := Lib.hid hM
              have HX9 := Lib.hid hX
              have HU9 := Lib.hid hU
              have HY9 := Lib.hid hY
              have HQ9 := Lib.hid hQ
              have HP9 := Lib.hid hP
              have HO9 := Lib.hid hO
              have HXY9 := Lib.hid hXY
              have HPT9 := Lib.hid hPt
              have HOT9 := Lib.hid hOt
              have HTT9 := Lib.hid hTt
              clear hM hX hU hY hQ hP hO hXY hPt hOt hTt hct hcs hcr hmt hms hmr hwt hws hwr
              go_upto_region 3 with fail
              have hx0 := HX0.out
              have hx1 := HX1.out
              have hx2 := HX2.out
              obtain ⟨g0, hg0⟩ : ∃ g, g = w.heap.size := ⟨_, rfl⟩
              obtain ⟨g1, hg1⟩ : ∃ g, g = w.heap.size + 1 := ⟨_, rfl⟩
              obtain ⟨g2, hg2⟩ : ∃ g, g = w.heap.size + 1 + 1 := ⟨_, rfl⟩
              rw [← hg0] at hx0
              rw [← hg1] at hx1
              rw [← hg2] at hx2
              rw [← hg2, ← hg1, ← hg0]
              clear hg0 hg1 hg2 HX0 HX1 HX2
              generalize w13 = V at hx0 hx1 hx2 ⊢
              have hg0t := hx0.tin
              have hg1t := hx1.tin
              have hg2t := hx2.tin
              have HSS : Hid (∀ V', Below V.heap.size V V' → (fun V' : World => (V'.cell? ⟨g0, 0, none⟩ = some (.int .i64 tk) ∧ V'.cell? ⟨g0, 1, none⟩ = some (.int .i64 tn) ∧ V'.cell? ⟨g0, 2, none⟩ = some (.string tz) ∧ V'.cell? ⟨g0, 3, none⟩ = some (.slice A0 tl.length (capF tl.length c0)) ∧ V'.cell? ⟨g1, 0, none⟩ = some (.int .i64 sk) ∧ V'.cell? ⟨g1, 1, none⟩ = some (.int .i64 sn) ∧ V'.cell? ⟨g1, 2, none⟩ = some (.string sz) ∧ V'.cell? ⟨g1, 3, none⟩ = some (.slice A1 sl.length (capF sl.length c1)) ∧ V'.cell? ⟨g2, 0, none⟩ = some (.int .i64 rk) ∧ V'.cell? ⟨g2, 1, none⟩ = some (.int .i64 rn) ∧ V'.cell? ⟨g2, 2, none⟩ = some (.string rz) ∧ V'.cell? ⟨g2, 3, none⟩ = some (.slice A2 rl.length (capF rl.length c2)))) V') := Lib.hid fun V' h =>
                ⟨(h.cell (p := ⟨g0, 0, none⟩) hx0.box.lt).trans (hx0.box.cell 0), (h.cell (p := ⟨g0, 1, none⟩) hx0.box.lt).trans (hx0.box.cell 1), (h.cell (p := ⟨g0, 2, none⟩) hx0.box.lt).trans (hx0.box.cell 2), (h.cell (p := ⟨g0, 3, none⟩) hx0.box.lt).trans (hx0.box.cell 3), (h.cell (p := ⟨g1, 0, none⟩) hx1.box.lt).trans (hx1.box.cell 0), (h.cell (p := ⟨g1, 1, none⟩) hx1.box.lt).trans (hx1.box.cell 1), (h.cell (p := ⟨g1, 2, none⟩) hx1.box.lt).trans (hx1.box.cell 2), (h.cell (p := ⟨g1, 3, none⟩) hx1.box.lt).trans (hx1.box.cell 3), (h.cell (p := ⟨g2, 0, none⟩) hx2.box.lt).trans (hx2.box.cell 0), (h.cell (p := ⟨g2, 1, none⟩) hx2.box.lt).trans (hx2.box.cell 1), (h.cell (p := ⟨g2, 2, none⟩) hx2.box.lt).trans (hx2.box.cell 2), (h.cell (p := ⟨g2, 3, none⟩) hx2.box.lt).trans (hx2.box.cell 3)⟩
              have HX0 := Lib.hid hx0
              have HX1 := Lib.hid hx1
              have HX2 := Lib.hid hx2
              clear hx0 hx1 hx2
              have HP3 : Hid (∀ X, Below V.heap.size V X → ∀ (Z : Nat → Prop) (hZ : ∀ g, X.heap.size ≤ g → Z g) (A : Option Addr) (c : Nat) (hA : EIn X Z (.node tk tn tz tl) A) (B : Option Addr) (d : Nat) (hB : EIn X Z (.node sk sn sz sl) B), Calls Try.prog 15 #[.agg #[.int .i64 tk, .int .i64 tn, .string tz, .slice A tl.length (capF tl.length c)], .int .i64 0, .agg #[.int .i64 sk, .int .i64 sn, .string sz, .slice B sl.length (capF sl.length d)]] X fun e w' => ∃ A c, e = .returned (.agg #[.int .i64 mk, .int .i64 mn, .string mz, .slice A ml.length (capF ml.length c)]) ∧ EIn w' Z (.node mk mn mz ml) A ∧ Below X.heap.size X w') := Lib.hid fun X hX Z hZ A c hA B d hB => by
                have h := put_any (.node tk tn tz tl) (.node sk sn sz sl) A B c d 0 X (EIn.any _ hA) (by omega) (by omega) (tameE_mono (by omega) (by omega) _ hqt) (EIn.any _ hB) (by omega) (by omega) (tameE_mono (by omega) (by omega) _ hqs) (by omega) (by omega)
                rw [← HM9.out] at h
                exact h.mono fun e w' ⟨A2, c2, h1, h2, h3⟩ => ⟨A2, c2, h1, EIn.wide _ h2 (fun g hg _ => hZ g hg), h3⟩
              have HP7 : Hid (∀ X, Below V.heap.size V X → ∀ (Z : Nat → Prop) (hZ : ∀ g, X.heap.size ≤ g → Z g) (A : Option Addr) (c : Nat) (hA : EIn X Z (.node mk mn mz ml) A) (B : Option Addr) (d : Nat) (hB : EIn X Z (.node rk rn rz rl) B), Calls Try.prog 15 #[.agg #[.int .i64 mk, .int .i64 mn, .string mz, .slice A ml.length (capF ml.length c)], .int .i64 0, .agg #[.int .i64 rk, .int .i64 rn, .string rz, .slice B rl.length (capF rl.length d)]] X fun e w' => ∃ A c, e = .returned (.agg #[.int .i64 xk, .int .i64 xn, .string xz, .slice A xl.length (capF xl.length c)]) ∧ EIn w' Z (.node xk xn xz xl) A ∧ Below X.heap.size X w') := Lib.hid fun X hX Z hZ A c hA B d hB => by
                have h := put_any (.node mk mn mz ml) (.node rk rn rz rl) A B c d 0 X (EIn.any _ hA) (by omega) (by omega) (tameE_mono (by omega) (by omega) _ hqm) (EIn.any _ hB) (by omega) (by omega) (tameE_mono (by omega) (by omega) _ hqr) (by omega) (by omega)
                rw [← HX9.out] at h
                exact h.mono fun e w' ⟨A2, c2, h1, h2, h3⟩ => ⟨A2, c2, h1, EIn.wide _ h2 (fun g hg _ => hZ g hg), h3⟩
              go_cut [7] (fun v wx => ∃ (g : Nat) (A : Option Addr) (c : Nat), v = .pointer (some ⟨g, 0, none⟩) ∧ V.heap.size ≤ g ∧ g < wx.heap.size ∧ Lies wx g 24 #[.int .i64 xk, .int .i64 xn, .string xz, .slice A xl.length (capF xl.length c)] ∧ EIn wx Any (.node xk xn xz xl) A ∧ Below V.heap.size V wx)
              case first =>
                have hb_1 : Below V.heap.size V V := Below.refl _ _
                refine wp_region_K (S := (fun V' : World => (V'.cell? ⟨g0, 0, none⟩ = some (.int .i64 tk) ∧ V'.cell? ⟨g0, 1, none⟩ = some (.int .i64 tn) ∧ V'.cell? ⟨g0, 2, none⟩ = some (.string tz) ∧ V'.cell? ⟨g0, 3, none⟩ = some (.slice A0 tl.length (capF tl.length c0)) ∧ V'.cell? ⟨g1, 0, none⟩ = some (.int .i64 sk) ∧ V'.cell? ⟨g1, 1, none⟩ = some (.int .i64 sn) ∧ V'.cell? ⟨g1, 2, none⟩ = some (.string sz) ∧ V'.cell? ⟨g1, 3, none⟩ = some (.slice A1 sl.length (capF sl.length c1)) ∧ V'.cell? ⟨g2, 0, none⟩ = some (.int .i64 rk) ∧ V'.cell? ⟨g2, 1, none⟩ = some (.int .i64 rn) ∧ V'.cell? ⟨g2, 2, none⟩ = some (.string rz) ∧ V'.cell? ⟨g2, 3, none⟩ = some (.slice A2 rl.length (capF rl.length c2))))) 6 rfl (HSS.out _ hb_1.drew) (fun hSs => ?_)
                change wpAnyK _ _ _ _ _ _ 7 (Array.replicate 7 false) _ _
                refine wpAnyK_take (i := 0) (oi := ⟨some 42, _, _, _, _, _⟩) (v := .agg #[.int .i64 tk, .int .i64 tn, .string tz, .slice A0 tl.length (capF tl.length c0)]) rfl (by kernel_rfl) (by kernel_rfl) (by kernel_rfl) (by kernel_rfl) (fun _ _ _ h => h) (.inl ⟨by kernel_rfl, fun W hW => by first | (obtain ⟨z0, z1, z2, z3, z4, z5, z6, z7, z8, z9, z10, z11⟩ := hW; go_simp; done) | (obtain ⟨z0, z1, z2, z3, z4, z5, z6, z7, z8, z9, z10, z11⟩ := hW; go_simp; omega) | (obtain ⟨z0, z1, z2, z3, z4, z5, z6, z7, z8, z9, z10, z11⟩ := hW; go_simp; exact IntWalk.i64_in _ (by omega)) | (obtain ⟨z0, z1, z2, z3, z4, z5, z6, z7, z8, z9, z10, z11⟩ := hW; go_simp; simp [*]; done)⟩) hSs ?_
                try simp only [Act.put, List.setIfInBounds_toArray, List.set_cons_zero, List.set_cons_succ]
                refine wpAnyK_take (i := 1) (oi := ⟨some 43, _, _, _, _, _⟩) (v := .agg #[.int .i64 sk, .int .i64 sn, .string sz, .slice A1 sl.length (capF sl.length c1)]) rfl (by kernel_rfl) (by kernel_rfl) (by kernel_rfl) (by kernel_rfl) (fun _ _ _ h => h) (.inl ⟨by kernel_rfl, fun W hW => by first | (obtain ⟨z0, z1, z2, z3, z4, z5, z6, z7, z8, z9, z10, z11⟩ := hW; go_simp; done) | (obtain ⟨z0, z1, z2, z3, z4, z5, z6, z7, z8, z9, z10, z11⟩ := hW; go_simp; omega) | (obtain ⟨z0, z1, z2, z3, z4, z5, z6, z7, z8, z9, z10, z11⟩ := hW; go_simp; exact IntWalk.i64_in _ (by omega)) | (obtain ⟨z0, z1, z2, z3, z4, z5, z6, z7, z8, z9, z10, z11⟩ := hW; go_simp; simp [*]; done)⟩) hSs ?_
                try simp only [Act.put, List.setIfInBounds_toArray, List.set_cons_zero, List.set_cons_succ]
                refine wpAnyK_take (i := 3) (oi := ⟨some 45, _, _, _, _, _⟩) (v := .agg #[.int .i64 rk, .int .i64 rn, .string rz, .slice A2 rl.length (capF rl.length c2)]) rfl (by kernel_rfl) (by kernel_rfl) (by kernel_rfl) (by kernel_rfl) (fun _ _ _ h => h) (.inl ⟨by kernel_rfl, fun W hW => by first | (obtain ⟨z0, z1, z2, z3, z4, z5, z6, z7, z8, z9, z10, z11⟩ := hW; go_simp; done) | (obtain ⟨z0, z1, z2, z3, z4, z5, z6, z7, z8, z9, z10, z11⟩ := hW; go_simp; omega) | (obtain ⟨z0, z1, z2, z3, z4, z5, z6, z7, z8, z9, z10, z11⟩ := hW; go_simp; exact IntWalk.i64_in _ (by omega)) | (obtain ⟨z0, z1, z2, z3, z4, z5, z6, z7, z8, z9, z10, z11⟩ := hW; go_simp; simp [*]; done)⟩) hSs ?_
                try simp only [Act.put, List.setIfInBounds_toArray, List.set_cons_zero, List.set_cons_succ]
                refine wpAnyK_both (i := 2) (j := 5) rfl rfl rfl rfl (by kernel_rfl) (fun K hK => ?_) (fun K hK => ?_)
                · go_simp
                  refine (HP3.out _ (hb_1.drew) Any (fun _ _ => trivial) A0 c0 (EIn.below _ hg0t (Below.refl _ _).drew (Nat.le_refl _)) A1 c1 (EIn.below _ hg1t (Below.refl _ _).drew (Nat.le_refl _))).mono ?_
                  rintro e u_2 ⟨A_2, c_2, rfl, hT_2, hq_2⟩
                  have hb_2 := (hb_1.drew).trans (hq_2.mono (hb_1.drew).size)
                  have hg0t_2 := EIn.below _ (EIn.below _ hg0t (Below.refl _ _).drew (Nat.le_refl _)) hq_2 (Nat.le_refl _)
                  have hg1t_2 := EIn.below _ (EIn.below _ hg1t (Below.refl _ _).drew (Nat.le_refl _)) hq_2 (Nat.le_refl _)
                  have hg2t_2 := EIn.below _ (EIn.below _ hg2t (Below.refl _ _).drew (Nat.le_refl _)) hq_2 (Nat.le_refl _)
                  refine hK.out _ _ (fun _ => HSS.out _ hb_2) (fun hS9 => ?_)
                  have hS_2 := hS9 (by decide)
                  clear hK K hS9
                  try simp only [Act.put, List.setIfInBounds_toArray, List.set_cons_zero, List.set_cons_succ]
                  refine wpAnyK_both (i := 4) (j := 5) rfl rfl rfl rfl (by kernel_rfl) (fun K hK => ?_) (fun K hK => ?_)
                  · go_simp
                    refine (HP7.out _ hb_2 Any (fun _ _ => trivial) A_2 c_2 hT_2 A2 c2 hg2t_2).mono ?_
                    rintro e u_3 ⟨A_3, c_3, rfl, hT_3, hq_3⟩
                    have hb_3 := hb_2.trans (hq_3.mono hb_2.size)
                    have hg0t_2_3 := EIn.below _ hg0t_2 hq_3 (Nat.le_refl _)
                    have hg1t_2_3 := EIn.below _ hg1t_2 hq_3 (Nat.le_refl _)
                    have hg2t_2_3 := EIn.below _ hg2t_2 hq_3 (Nat.le_refl _)
                    have hT_2_3 := EIn.below _ hT_2 hq_3 (Nat.le_refl _)
                    refine hK.out _ _ (fun _ => HSS.out _ hb_3) (fun hS9 => ?_)
                    have hS_3 := hS9 (by decide)
                    clear hK K hS9
                    try simp only [Act.put, List.setIfInBounds_toArray, List.set_cons_zero, List.set_cons_succ]
                    refine wpAnyK_one (i := 5) rfl rfl (by kernel_rfl) (fun K hK => ?_)
                    go_simp
                    have hb_4 := Below.alloc hb_3 hb_3.size (.cells #[.int .i64 0, .int .i64 0, .string (⟨#[]⟩ : ByteArray), .slice none 0 0] 24)
                    have hl_4 : Lies (u_3.alloc (.cells #[.int .i64 0, .int .i64 0, .string (⟨#[]⟩ : ByteArray), .slice none 0 0] 24)) (u_3.heap.size) 24 #[.int .i64 0, .int .i64 0, .string (⟨#[]⟩ : ByteArray), .slice none 0 0] := Lies.new _ _ _
                    refine hK.out _ _ (fun _ => HSS.out _ hb_4) (fun hS9 => ?_)
                    have hS_4 := hS9 (by decide)
                    clear hK K hS9
                    try simp only [Act.put, List.setIfInBounds_toArray, List.set_cons_zero, List.set_cons_succ]
                    have hg0t_2_3_4 : EIn (u_3.alloc (.cells #[.int .i64 0, .int .i64 0, .string (⟨#[]⟩ : ByteArray), .slice none 0 0] 24)) (fun g => g ≠ u_3.heap.size) (.node tk tn tz tl) A0 := EIn.keep _ hg0t_2_3 (fun g j _ hlt => ⟨World.cell?_alloc_lt _ _ _ hlt, Nat.ne_of_lt hlt⟩)
                    have hg1t_2_3_4 : EIn (u_3.alloc (.cells #[.int .i64 0, .int .i64 0, .string (⟨#[]⟩ : ByteArray), .slice none 0 0] 24)) (fun g => g ≠ u_3.heap.size) (.node sk sn sz sl) A1 := EIn.keep _ hg1t_2_3 (fun g j _ hlt => ⟨World.cell?_alloc_lt _ _ _ hlt, Nat.ne_of_lt hlt⟩)
                    have hg2t_2_3_4 : EIn (u_3.alloc (.cells #[.int .i64 0, .int .i64 0, .string (⟨#[]⟩ : ByteArray), .slice none 0 0] 24)) (fun g => g ≠ u_3.heap.size) (.node rk rn rz rl) A2 := EIn.keep _ hg2t_2_3 (fun g j _ hlt => ⟨World.cell?_alloc_lt _ _ _ hlt, Nat.ne_of_lt hlt⟩)
                    have hT_2_3_4 : EIn (u_3.alloc (.cells #[.int .i64 0, .int .i64 0, .string (⟨#[]⟩ : ByteArray), .slice none 0 0] 24)) (fun g => g ≠ u_3.heap.size) (.node mk mn mz ml) A_2 := EIn.keep _ hT_2_3 (fun g j _ hlt => ⟨World.cell?_alloc_lt _ _ _ hlt, Nat.ne_of_lt hlt⟩)
                    have hT_3_4 : EIn (u_3.alloc (.cells #[.int .i64 0, .int .i64 0, .string (⟨#[]⟩ : ByteArray), .slice none 0 0] 24)) (fun g => g ≠ u_3.heap.size) (.node xk xn xz xl) A_3 := EIn.keep _ hT_3 (fun g j _ hlt => ⟨World.cell?_alloc_lt _ _ _ hlt, Nat.ne_of_lt hlt⟩)
                    refine wpAnyK_one (i := 6) rfl rfl (by kernel_rfl) (fun K hK => ?_)
                    refine wp_store_as (F := fun W9 => Below V.heap.size V W9 ∧ Lies W9 (u_3.heap.size) 24 #[.int .i64 xk, .int .i64 xn, .string xz, .slice A_3 xl.length (capF xl.length c_3)] ∧ EIn W9 Any (.node xk xn xz xl) A_3) _ _ _ rfl (u_3.heap.size) 0 #[.int .i64 xk, .int .i64 xn, .string xz, .slice A_3 xl.length (capF xl.length c_3)] rfl rfl (lies_is hl_4 rfl) (by kernel_rfl) (by simp [Value.oneCell']) ⟨below_cells hb_4 (hb_3.size) _ _, lies_set4 hl_4 _ _ _ _, EIn.any _ (ein_offs _ hT_3_4 (fun h => h rfl) _ _)⟩ (fun W_5 hF_5 => ?_)
                    refine hK.out _ _ (fun h => absurd rfl h) (fun _ => ?_)
                    clear hK K
                    try simp only [Act.put, List.setIfInBounds_toArray]
                    refine wpAnyK_done (by kernel_rfl) ?_ _
                    obtain ⟨f1, f2, f3⟩ := hF_5
                    go_wp2_with fail
                    go_meet
                    exact ⟨_, A_3, c_3, rfl, hb_3.size, f2.lt, f2, f3, f1⟩
                  · go_simp
                    have hb_6 := Below.alloc hb_2 hb_2.size (.cells #[.int .i64 0, .int .i64 0, .string (⟨#[]⟩ : ByteArray), .slice none 0 0] 24)
                    have hl_6 : Lies (u_2.alloc (.cells #[.int .i64 0, .int .i64 0, .string (⟨#[]⟩ : ByteArray), .slice none 0 0] 24)) (u_2.heap.size) 24 #[.int .i64 0, .int .i64 0, .string (⟨#[]⟩ : ByteArray), .slice none 0 0] := Lies.new _ _ _
                    refine hK.out _ _ (fun _ => HSS.out _ hb_6) (fun hS9 => ?_)
                    have hS_6 := hS9 (by decide)
                    clear hK K hS9
                    try simp only [Act.put, List.setIfInBounds_toArray, List.set_cons_zero, List.set_cons_succ]
                    have hg0t_2_6 : EIn (u_2.alloc (.cells #[.int .i64 0, .int .i64 0, .string (⟨#[]⟩ : ByteArray), .slice none 0 0] 24)) (fun g => g ≠ u_2.heap.size) (.node tk tn tz tl) A0 := EIn.keep _ hg0t_2 (fun g j _ hlt => ⟨World.cell?_alloc_lt _ _ _ hlt, Nat.ne_of_lt hlt⟩)
                    have hg1t_2_6 : EIn (u_2.alloc (.cells #[.int .i64 0, .int .i64 0, .string (⟨#[]⟩ : ByteArray), .slice none 0 0] 24)) (fun g => g ≠ u_2.heap.size) (.node sk sn sz sl) A1 := EIn.keep _ hg1t_2 (fun g j _ hlt => ⟨World.cell?_alloc_lt _ _ _ hlt, Nat.ne_of_lt hlt⟩)
                    have hg2t_2_6 : EIn (u_2.alloc (.cells #[.int .i64 0, .int .i64 0, .string (⟨#[]⟩ : ByteArray), .slice none 0 0] 24)) (fun g => g ≠ u_2.heap.size) (.node rk rn rz rl) A2 := EIn.keep _ hg2t_2 (fun g j _ hlt => ⟨World.cell?_alloc_lt _ _ _ hlt, Nat.ne_of_lt hlt⟩)
                    have hT_2_6 : EIn (u_2.alloc (.cells #[.int .i64 0, .int .i64 0, .string (⟨#[]⟩ : ByteArray), .slice none 0 0] 24)) (fun g => g ≠ u_2.heap.size) (.node mk mn mz ml) A_2 := EIn.keep _ hT_2 (fun g j _ hlt => ⟨World.cell?_alloc_lt _ _ _ hlt, Nat.ne_of_lt hlt⟩)
                    refine wpAnyK_one (i := 4) rfl rfl (by kernel_rfl) (fun K hK => ?_)
                    go_simp
                    refine (HP7.out _ hb_6 (fun g => g ≠ u_2.heap.size) (fun g h => Nat.ne_of_gt (Nat.lt_of_lt_of_le hl_6.lt h)) A_2 c_2 hT_2_6 A2 c2 hg2t_2_6).mono ?_
                    rintro e u_7 ⟨A_7, c_7, rfl, hT_7, hq_7⟩
                    have hb_7 := hb_6.trans (hq_7.mono hb_6.size)
                    have hl_6_7 := hl_6.below hq_7 hl_6.lt
                    have hg0t_2_6_7 := EIn.below _ hg0t_2_6 hq_7 (Nat.le_refl _)
                    have hg1t_2_6_7 := EIn.below _ hg1t_2_6 hq_7 (Nat.le_refl _)
                    have hg2t_2_6_7 := EIn.below _ hg2t_2_6 hq_7 (Nat.le_refl _)
                    have hT_2_6_7 := EIn.below _ hT_2_6 hq_7 (Nat.le_refl _)
                    refine hK.out _ _ (fun _ => HSS.out _ hb_7) (fun hS9 => ?_)
                    have hS_7 := hS9 (by decide)
                    clear hK K hS9
                    try simp only [Act.put, List.setIfInBounds_toArray, List.set_cons_zero, List.set_cons_succ]
                    refine wpAnyK_one (i := 6) rfl rfl (by kernel_rfl) (fun K hK => ?_)
                    refine wp_store_as (F := fun W9 => Below V.heap.size V W9 ∧ Lies W9 (u_2.heap.size) 24 #[.int .i64 xk, .int .i64 xn, .string xz, .slice A_7 xl.length (capF xl.length c_7)] ∧ EIn W9 Any (.node xk xn xz xl) A_7) _ _ _ rfl (u_2.heap.size) 0 #[.int .i64 xk, .int .i64 xn, .string xz, .slice A_7 xl.length (capF xl.length c_7)] rfl rfl (lies_is hl_6_7 rfl) (by kernel_rfl) (by simp [Value.oneCell']) ⟨below_cells hb_7 (hb_2.size) _ _, lies_set4 hl_6_7 _ _ _ _, EIn.any _ (ein_offs _ hT_7 (fun h => h rfl) _ _)⟩ (fun W_8 hF_8 => ?_)
                    refine hK.out _ _ (fun h => absurd rfl h) (fun _ => ?_)
                    clear hK K
                    try simp only [Act.put, List.setIfInBounds_toArray]
                    refine wpAnyK_done (by kernel_rfl) ?_ _
                    obtain ⟨f1, f2, f3⟩ := hF_8
                    go_wp2_with fail
                    go_meet
                    exact ⟨_, A_7, c_7, rfl, hb_2.size, f2.lt, f2, f3, f1⟩
                · go_simp
                  have hb_9 := Below.alloc hb_1 hb_1.size (.cells #[.int .i64 0, .int .i64 0, .string (⟨#[]⟩ : ByteArray), .slice none 0 0] 24)
                  have hl_9 : Lies (V.alloc (.cells #[.int .i64 0, .int .i64 0, .string (⟨#[]⟩ : ByteArray), .slice none 0 0] 24)) (V.heap.size) 24 #[.int .i64 0, .int .i64 0, .string (⟨#[]⟩ : ByteArray), .slice none 0 0] := Lies.new _ _ _
                  refine hK.out _ _ (fun _ => HSS.out _ (hb_9.drew)) (fun hS9 => ?_)
                  have hS_9 := hS9 (by decide)
                  clear hK K hS9
                  try simp only [Act.put, List.setIfInBounds_toArray, List.set_cons_zero, List.set_cons_succ]
                  have hg0t_9 : EIn (V.alloc (.cells #[.int .i64 0, .int .i64 0, .string (⟨#[]⟩ : ByteArray), .slice none 0 0] 24)) (fun g => g ≠ V.heap.size) (.node tk tn tz tl) A0 := EIn.keep _ hg0t (fun g j _ hlt => ⟨World.cell?_alloc_lt _ _ _ hlt, Nat.ne_of_lt hlt⟩)
                  have hg1t_9 : EIn (V.alloc (.cells #[.int .i64 0, .int .i64 0, .string (⟨#[]⟩ : ByteArray), .slice none 0 0] 24)) (fun g => g ≠ V.heap.size) (.node sk sn sz sl) A1 := EIn.keep _ hg1t (fun g j _ hlt => ⟨World.cell?_alloc_lt _ _ _ hlt, Nat.ne_of_lt hlt⟩)
                  have hg2t_9 : EIn (V.alloc (.cells #[.int .i64 0, .int .i64 0, .string (⟨#[]⟩ : ByteArray), .slice none 0 0] 24)) (fun g => g ≠ V.heap.size) (.node rk rn rz rl) A2 := EIn.keep _ hg2t (fun g j _ hlt => ⟨World.cell?_alloc_lt _ _ _ hlt, Nat.ne_of_lt hlt⟩)
                  refine wpAnyK_one (i := 2) rfl rfl (by kernel_rfl) (fun K hK => ?_)
                  go_simp
                  refine (HP3.out _ (hb_9.drew) (fun g => g ≠ V.heap.size) (fun g h => Nat.ne_of_gt (Nat.lt_of_lt_of_le hl_9.lt h)) A0 c0 (EIn.below _ hg0t_9 (Below.refl _ _).drew (Nat.le_refl _)) A1 c1 (EIn.below _ hg1t_9 (Below.refl _ _).drew (Nat.le_refl _))).mono ?_
                  rintro e u_10 ⟨A_10, c_10, rfl, hT_10, hq_10⟩
                  have hb_10 := (hb_9.drew).trans (hq_10.mono (hb_9.drew).size)
                  have hl_9_10 := (hl_9.drew).below hq_10 hl_9.lt
                  have hg0t_9_10 := EIn.below _ (EIn.below _ hg0t_9 (Below.refl _ _).drew (Nat.le_refl _)) hq_10 (Nat.le_refl _)
                  have hg1t_9_10 := EIn.below _ (EIn.below _ hg1t_9 (Below.refl _ _).drew (Nat.le_refl _)) hq_10 (Nat.le_refl _)
                  have hg2t_9_10 := EIn.below _ (EIn.below _ hg2t_9 (Below.refl _ _).drew (Nat.le_refl _)) hq_10 (Nat.le_refl _)
                  refine hK.out _ _ (fun _ => HSS.out _ hb_10) (fun hS9 => ?_)
                  have hS_10 := hS9 (by decide)
                  clear hK K hS9
                  try simp only [Act.put, List.setIfInBounds_toArray, List.set_cons_zero, List.set_cons_succ]
                  refine wpAnyK_one (i := 4) rfl rfl (by kernel_rfl) (fun K hK => ?_)
                  go_simp
                  refine (HP7.out _ hb_10 (fun g => g ≠ V.heap.size) (fun g h => Nat.ne_of_gt (Nat.lt_of_lt_of_le hl_9_10.lt h)) A_10 c_10 hT_10 A2 c2 hg2t_9_10).mono ?_
                  rintro e u_11 ⟨A_11, c_11, rfl, hT_11, hq_11⟩
                  have hb_11 := hb_10.trans (hq_11.mono hb_10.size)
                  have hl_9_10_11 := hl_9_10.below hq_11 hl_9_10.lt
                  have hg0t_9_10_11 := EIn.below _ hg0t_9_10 hq_11 (Nat.le_refl _)
                  have hg1t_9_10_11 := EIn.below _ hg1t_9_10 hq_11 (Nat.le_refl _)
                  have hg2t_9_10_11 := EIn.below _ hg2t_9_10 hq_11 (Nat.le_refl _)
                  have hT_10_11 := EIn.below _ hT_10 hq_11 (Nat.le_refl _)
                  refine hK.out _ _ (fun _ => HSS.out _ hb_11) (fun hS9 => ?_)
                  have hS_11 := hS9 (by decide)
                  clear hK K hS9
                  try simp only [Act.put, List.setIfInBounds_toArray, List.set_cons_zero, List.set_cons_succ]
                  refine wpAnyK_one (i := 6) rfl rfl (by kernel_rfl) (fun K hK => ?_)
                  refine wp_store_as (F := fun W9 => Below V.heap.size V W9 ∧ Lies W9 (V.heap.size) 24 #[.int .i64 xk, .int .i64 xn, .string xz, .slice A_11 xl.length (capF xl.length c_11)] ∧ EIn W9 Any (.node xk xn xz xl) A_11) _ _ _ rfl (V.heap.size) 0 #[.int .i64 xk, .int .i64 xn, .string xz, .slice A_11 xl.length (capF xl.length c_11)] rfl rfl (lies_is hl_9_10_11 rfl) (by kernel_rfl) (by simp [Value.oneCell']) ⟨below_cells hb_11 (Nat.le_refl _) _ _, lies_set4 hl_9_10_11 _ _ _ _, EIn.any _ (ein_offs _ hT_11 (fun h => h rfl) _ _)⟩ (fun W_12 hF_12 => ?_)
                  refine hK.out _ _ (fun h => absurd rfl h) (fun _ => ?_)
                  clear hK K
                  try simp only [Act.put, List.setIfInBounds_toArray]
                  refine wpAnyK_done (by kernel_rfl) ?_ _
                  obtain ⟨f1, f2, f3⟩ := hF_12
                  go_wp2_with fail
                  go_meet
                  exact ⟨_, A_11, c_11, rfl, Nat.le_refl _, f2.lt, f2, f3, f1⟩
              case rest =>
                obtain ⟨ga, Aa, ca, rfl, _, _, hlx, htx, hbx⟩ := hcut
                have hxa : Bx8 w wc ga xk xn xz xl Aa ca := ⟨hlx, htx, HX0.out.bw.trans (hbx.mono HX0.out.bw.size)⟩
                have hx0 := HX0.out.step hbx
                have hx1 := HX1.out.step hbx
                have hx2 := HX2.out.step hbx
                clear hlx htx hbx HSS HX0 HX1 HX2 hg0t hg1t hg2t HP3 HP7
                go_upto_region 4 with fail
                have hg0t := hx0.tin
                have hg1t := hx1.tin
                have hg2t := hx2.tin
                have hgat := hxa.tin
                have HSS : Hid (∀ V', Below wc.heap.size wc V' → (fun V' : World => (V'.cell? ⟨g0, 0, none⟩ = some (.int .i64 tk) ∧ V'.cell? ⟨g0, 1, none⟩ = some (.int .i64 tn) ∧ V'.cell? ⟨g0, 2, none⟩ = some (.string tz) ∧ V'.cell? ⟨g0, 3, none⟩ = some (.slice A0 tl.length (capF tl.length c0)) ∧ V'.cell? ⟨g1, 0, none⟩ = some (.int .i64 sk) ∧ V'.cell? ⟨g1, 1, none⟩ = some (.int .i64 sn) ∧ V'.cell? ⟨g1, 2, none⟩ = some (.string sz) ∧ V'.cell? ⟨g1, 3, none⟩ = some (.slice A1 sl.length (capF sl.length c1)) ∧ V'.cell? ⟨g2, 0, none⟩ = some (.int .i64 rk) ∧ V'.cell? ⟨g2, 1, none⟩ = some (.int .i64 rn) ∧ V'.cell? ⟨g2, 2, none⟩ = some (.string rz) ∧ V'.cell? ⟨g2, 3, none⟩ = some (.slice A2 rl.length (capF rl.length c2)) ∧ V'.cell? ⟨ga, 0, none⟩ = some (.int .i64 xk) ∧ V'.cell? ⟨ga, 1, none⟩ = some (.int .i64 xn) ∧ V'.cell? ⟨ga, 2, none⟩ = some (.string xz) ∧ V'.cell? ⟨ga, 3, none⟩ = some (.slice Aa xl.length (capF xl.length ca)))) V') := Lib.hid fun V' h =>
                  ⟨(h.cell (p := ⟨g0, 0, none⟩) hx0.box.lt).trans (hx0.box.cell 0), (h.cell (p := ⟨g0, 1, none⟩) hx0.box.lt).trans (hx0.box.cell 1), (h.cell (p := ⟨g0, 2, none⟩) hx0.box.lt).trans (hx0.box.cell 2), (h.cell (p := ⟨g0, 3, none⟩) hx0.box.lt).trans (hx0.box.cell 3), (h.cell (p := ⟨g1, 0, none⟩) hx1.box.lt).trans (hx1.box.cell 0), (h.cell (p := ⟨g1, 1, none⟩) hx1.box.lt).trans (hx1.box.cell 1), (h.cell (p := ⟨g1, 2, none⟩) hx1.box.lt).trans (hx1.box.cell 2), (h.cell (p := ⟨g1, 3, none⟩) hx1.box.lt).trans (hx1.box.cell 3), (h.cell (p := ⟨g2, 0, none⟩) hx2.box.lt).trans (hx2.box.cell 0), (h.cell (p := ⟨g2, 1, none⟩) hx2.box.lt).trans (hx2.box.cell 1), (h.cell (p := ⟨g2, 2, none⟩) hx2.box.lt).trans (hx2.box.cell 2), (h.cell (p := ⟨g2, 3, none⟩) hx2.box.lt).trans (hx2.box.cell 3), (h.cell (p := ⟨ga, 0, none⟩) hxa.box.lt).trans (hxa.box.cell 0), (h.cell (p := ⟨ga, 1, none⟩) hxa.box.lt).trans (hxa.box.cell 1), (h.cell (p := ⟨ga, 2, none⟩) hxa.box.lt).trans (hxa.box.cell 2), (h.cell (p := ⟨ga, 3, none⟩) hxa.box.lt).trans (hxa.box.cell 3)⟩
                have HX0 := Lib.hid hx0
                have HX1 := Lib.hid hx1
                have HX2 := Lib.hid hx2
                have HXa := Lib.hid hxa
                clear hx0 hx1 hx2 hxa
                have HU4 : Hid (∀ X, Below wc.heap.size wc X → ∀ (Z : Nat → Prop) (hZ : ∀ g, X.heap.size ≤ g → Z g) (A : Option Addr) (c : Nat) (hA : EIn X Z (.node rk rn rz rl) A), Calls Try.prog 13 #[.agg #[.int .i64 rk, .int .i64 rn, .string rz, .slice A rl.length (capF rl.length c)], .int .i64 1, .int .i64 0] X fun e w' => ∃ A c, e = .returned (.agg #[.int .i64 uk, .int .i64 un, .string uz, .slice A ul.length (capF ul.length c)]) ∧ EIn w' Z (.node uk un uz ul) A ∧ Below X.heap.size X w') := Lib.hid fun X hX Z hZ A c hA => by
                  have h := up_any (.node rk rn rz rl) A c 1 0 X (EIn.any _ hA) (by omega) (by omega) (tameE_mono (by omega) (by omega) _ hqr) (by omega) (by omega) (by omega) (by omega)
                  rw [← HU9.out] at h
                  exact h.mono fun e w' ⟨A2, c2, h1, h2, h3⟩ => ⟨A2, c2, h1, EIn.wide _ h2 (fun g hg _ => hZ g hg), h3⟩
                have HP4 : Hid (∀ X, Below wc.heap.size wc X → ∀ (Z : Nat → Prop) (hZ : ∀ g, X.heap.size ≤ g → Z g) (A : Option Addr) (c : Nat) (hA : EIn X Z (.node tk tn tz tl) A) (B : Option Addr) (d : Nat) (hB : EIn X Z (.node uk un uz ul) B), Calls Try.prog 15 #[.agg #[.int .i64 tk, .int .i64 tn, .string tz, .slice A tl.length (capF tl.length c)], .int .i64 1, .agg #[.int .i64 uk, .int .i64 un, .string uz, .slice B ul.length (capF ul.length d)]] X fun e w' => ∃ A c, e = .returned (.agg #[.int .i64 yk, .int .i64 yn, .string yz, .slice A yl.length (capF yl.length c)]) ∧ EIn w' Z (.node yk yn yz yl) A ∧ Below X.heap.size X w') := Lib.hid fun X hX Z hZ A c hA B d hB => by
                  have h := put_any (.node tk tn tz tl) (.node uk un uz ul) A B c d 1 X (EIn.any _ hA) (by omega) (by omega) (tameE_mono (by omega) (by omega) _ hqt) (EIn.any _ hB) (by omega) (by omega) (tameE_mono (by omega) (by omega) _ hqu) (by omega) (by omega)
                  rw [← HY9.out] at h
                  exact h.mono fun e w' ⟨A2, c2, h1, h2, h3⟩ => ⟨A2, c2, h1, EIn.wide _ h2 (fun g hg _ => hZ g hg), h3⟩
                have HP5 : Hid (∀ X, Below wc.heap.size wc X → ∀ (Z : Nat → Prop) (hZ : ∀ g, X.heap.size ≤ g → Z g) (A : Option Addr) (c : Nat) (hA : EIn X Z (.node sk sn sz sl) A) (B : Option Addr) (d : Nat) (hB : EIn X Z (.node rk rn rz rl) B), Calls Try.prog 15 #[.agg #[.int .i64 sk, .int .i64 sn, .string sz, .slice A sl.length (capF sl.length c)], .int .i64 0, .agg #[.int .i64 rk, .int .i64 rn, .string rz, .slice B rl.length (capF rl.length d)]] X fun e w' => ∃ A c, e = .returned (.agg #[.int .i64 qk, .int .i64 qn, .string qz, .slice A ql.length (capF ql.length c)]) ∧ EIn w' Z (.node qk qn qz ql) A ∧ Below X.heap.size X w') := Lib.hid fun X hX Z hZ A c hA B d hB => by
                  have h := put_any (.node sk sn sz sl) (.node rk rn rz rl) A B c d 0 X (EIn.any _ hA) (by omega) (by omega) (tameE_mono (by omega) (by omega) _ hqs) (EIn.any _ hB) (by omega) (by omega) (tameE_mono (by omega) (by omega) _ hqr) (by omega) (by omega)
                  rw [← HQ9.out] at h
                  exact h.mono fun e w' ⟨A2, c2, h1, h2, h3⟩ => ⟨A2, c2, h1, EIn.wide _ h2 (fun g hg _ => hZ g hg), h3⟩
                have HP6 : Hid (∀ X, Below wc.heap.size wc X → ∀ (Z : Nat → Prop) (hZ : ∀ g, X.heap.size ≤ g → Z g) (A : Option Addr) (c : Nat) (hA : EIn X Z (.node yk yn yz yl) A) (B : Option Addr) (d : Nat) (hB : EIn X Z (.node qk qn qz ql) B), Calls Try.prog 15 #[.agg #[.int .i64 yk, .int .i64 yn, .string yz, .slice A yl.length (capF yl.length c)], .int .i64 0, .agg #[.int .i64 qk, .int .i64 qn, .string qz, .slice B ql.length (capF ql.length d)]] X fun e w' => ∃ A c, e = .returned (.agg #[.int .i64 xk, .int .i64 xn, .string xz, .slice A xl.length (capF xl.length c)]) ∧ EIn w' Z (.node xk xn xz xl) A ∧ Below X.heap.size X w') := Lib.hid fun X hX Z hZ A c hA B d hB => by
                  have h := put_any (.node yk yn yz yl) (.node qk qn qz ql) A B c d 0 X (EIn.any _ hA) (by omega) (by omega) (tameE_mono (by omega) (by omega) _ hqy) (EIn.any _ hB) (by omega) (by omega) (tameE_mono (by omega) (by omega) _ hqq) (by omega) (by omega)
                  rw [HXY9.out] at h
                  exact h.mono fun e w' ⟨A2, c2, h1, h2, h3⟩ => ⟨A2, c2, h1, EIn.wide _ h2 (fun g hg _ => hZ g hg), h3⟩
                go_cut [8] (fun v wx => ∃ (g : Nat) (A : Option Addr) (c : Nat), v = .pointer (some ⟨g, 0, none⟩) ∧ wc.heap.size ≤ g ∧ g < wx.heap.size ∧ Lies wx g 24 #[.int .i64 xk, .int .i64 xn, .string xz, .slice A xl.length (capF xl.length c)] ∧ EIn wx Any (.node xk xn xz xl) A ∧ Below wc.heap.size wc wx)
                case first =>
                  have hb_1 : Below wc.heap.size wc wc := Below.refl _ _
                  refine wp_region_K (S := (fun V' : World => (V'.cell? ⟨g0, 0, none⟩ = some (.int .i64 tk) ∧ V'.cell? ⟨g0, 1, none⟩ = some (.int .i64 tn) ∧ V'.cell? ⟨g0, 2, none⟩ = some (.string tz) ∧ V'.cell? ⟨g0, 3, none⟩ = some (.slice A0 tl.length (capF tl.length c0)) ∧ V'.cell? ⟨g1, 0, none⟩ = some (.int .i64 sk) ∧ V'.cell? ⟨g1, 1, none⟩ = some (.int .i64 sn) ∧ V'.cell? ⟨g1, 2, none⟩ = some (.string sz) ∧ V'.cell? ⟨g1, 3, none⟩ = some (.slice A1 sl.length (capF sl.length c1)) ∧ V'.cell? ⟨g2, 0, none⟩ = some (.int .i64 rk) ∧ V'.cell? ⟨g2, 1, none⟩ = some (.int .i64 rn) ∧ V'.cell? ⟨g2, 2, none⟩ = some (.string rz) ∧ V'.cell? ⟨g2, 3, none⟩ = some (.slice A2 rl.length (capF rl.length c2)) ∧ V'.cell? ⟨ga, 0, none⟩ = some (.int .i64 xk) ∧ V'.cell? ⟨ga, 1, none⟩ = some (.int .i64 xn) ∧ V'.cell? ⟨ga, 2, none⟩ = some (.string xz) ∧ V'.cell? ⟨ga, 3, none⟩ = some (.slice Aa xl.length (capF xl.length ca))))) 9 rfl (HSS.out _ hb_1.drew) (fun hSs => ?_)
                  change wpAnyK _ _ _ _ _ _ 10 (Array.replicate 10 false) _ _
                  refine wpAnyK_take (i := 0) (oi := ⟨some 47, _, _, _, _, _⟩) (v := .agg #[.int .i64 tk, .int .i64 tn, .string tz, .slice A0 tl.length (capF tl.length c0)]) rfl (by kernel_rfl) (by kernel_rfl) (by kernel_rfl) (by kernel_rfl) (fun _ _ _ h => h) (.inl ⟨by kernel_rfl, fun W hW => by first | (obtain ⟨z0, z1, z2, z3, z4, z5, z6, z7, z8, z9, z10, z11, z12, z13, z14, z15⟩ := hW; go_simp; done) | (obtain ⟨z0, z1, z2, z3, z4, z5, z6, z7, z8, z9, z10, z11, z12, z13, z14, z15⟩ := hW; go_simp; omega) | (obtain ⟨z0, z1, z2, z3, z4, z5, z6, z7, z8, z9, z10, z11, z12, z13, z14, z15⟩ := hW; go_simp; exact IntWalk.i64_in _ (by omega)) | (obtain ⟨z0, z1, z2, z3, z4, z5, z6, z7, z8, z9, z10, z11, z12, z13, z14, z15⟩ := hW; go_simp; simp [*]; done)⟩) hSs ?_
                  try simp only [Act.put, List.setIfInBounds_toArray, List.set_cons_zero, List.set_cons_succ]
                  refine wpAnyK_take (i := 1) (oi := ⟨some 48, _, _, _, _, _⟩) (v := .agg #[.int .i64 rk, .int .i64 rn, .string rz, .slice A2 rl.length (capF rl.length c2)]) rfl (by kernel_rfl) (by kernel_rfl) (by kernel_rfl) (by kernel_rfl) (fun _ _ _ h => h) (.inl ⟨by kernel_rfl, fun W hW => by first | (obtain ⟨z0, z1, z2, z3, z4, z5, z6, z7, z8, z9, z10, z11, z12, z13, z14, z15⟩ := hW; go_simp; done) | (obtain ⟨z0, z1, z2, z3, z4, z5, z6, z7, z8, z9, z10, z11, z12, z13, z14, z15⟩ := hW; go_simp; omega) | (obtain ⟨z0, z1, z2, z3, z4, z5, z6, z7, z8, z9, z10, z11, z12, z13, z14, z15⟩ := hW; go_simp; exact IntWalk.i64_in _ (by omega)) | (obtain ⟨z0, z1, z2, z3, z4, z5, z6, z7, z8, z9, z10, z11, z12, z13, z14, z15⟩ := hW; go_simp; simp [*]; done)⟩) hSs ?_
                  try simp only [Act.put, List.setIfInBounds_toArray, List.set_cons_zero, List.set_cons_succ]
                  refine wpAnyK_take (i := 4) (oi := ⟨some 51, _, _, _, _, _⟩) (v := .agg #[.int .i64 sk, .int .i64 sn, .string sz, .slice A1 sl.length (capF sl.length c1)]) rfl (by kernel_rfl) (by kernel_rfl) (by kernel_rfl) (by kernel_rfl) (fun _ _ _ h => h) (.inl ⟨by kernel_rfl, fun W hW => by first | (obtain ⟨z0, z1, z2, z3, z4, z5, z6, z7, z8, z9, z10, z11, z12, z13, z14, z15⟩ := hW; go_simp; done) | (obtain ⟨z0, z1, z2, z3, z4, z5, z6, z7, z8, z9, z10, z11, z12, z13, z14, z15⟩ := hW; go_simp; omega) | (obtain ⟨z0, z1, z2, z3, z4, z5, z6, z7, z8, z9, z10, z11, z12, z13, z14, z15⟩ := hW; go_simp; exact IntWalk.i64_in _ (by omega)) | (obtain ⟨z0, z1, z2, z3, z4, z5, z6, z7, z8, z9, z10, z11, z12, z13, z14, z15⟩ := hW; go_simp; simp [*]; done)⟩) hSs ?_
                  try simp only [Act.put, List.setIfInBounds_toArray, List.set_cons_zero, List.set_cons_succ]
                  refine wpAnyK_take (i := 5) (oi := ⟨some 52, _, _, _, _, _⟩) (v := .agg #[.int .i64 rk, .int .i64 rn, .string rz, .slice A2 rl.length (capF rl.length c2)]) rfl (by kernel_rfl) (by kernel_rfl) (by kernel_rfl) (by kernel_rfl) (fun _ _ _ h => h) (.inl ⟨by kernel_rfl, fun W hW => by first | (obtain ⟨z0, z1, z2, z3, z4, z5, z6, z7, z8, z9, z10, z11, z12, z13, z14, z15⟩ := hW; go_simp; done) | (obtain ⟨z0, z1, z2, z3, z4, z5, z6, z7, z8, z9, z10, z11, z12, z13, z14, z15⟩ := hW; go_simp; omega) | (obtain ⟨z0, z1, z2, z3, z4, z5, z6, z7, z8, z9, z10, z11, z12, z13, z14, z15⟩ := hW; go_simp; exact IntWalk.i64_in _ (by omega)) | (obtain ⟨z0, z1, z2, z3, z4, z5, z6, z7, z8, z9, z10, z11, z12, z13, z14, z15⟩ := hW; go_simp; simp [*]; done)⟩) hSs ?_
                  try simp only [Act.put, List.setIfInBounds_toArray, List.set_cons_zero, List.set_cons_succ]
                  refine wpAnyK_both (i := 2) (j := 8) rfl rfl rfl rfl (by kernel_rfl) (fun K hK => ?_) (fun K hK => ?_)
                  · go_simp
                    refine (HU4.out _ (hb_1.drew) Any (fun _ _ => trivial) A2 c2 (EIn.below _ hg2t (Below.refl _ _).drew (Nat.le_refl _))).mono ?_
                    rintro e u_2 ⟨A_2, c_2, rfl, hT_2, hq_2⟩
                    have hb_2 := (hb_1.drew).trans (hq_2.mono (hb_1.drew).size)
                    have hg0t_2 := EIn.below _ (EIn.below _ hg0t (Below.refl _ _).drew (Nat.le_refl _)) hq_2 (Nat.le_refl _)
                    have hg1t_2 := EIn.below _ (EIn.below _ hg1t (Below.refl _ _).drew (Nat.le_refl _)) hq_2 (Nat.le_refl _)
                    have hg2t_2 := EIn.below _ (EIn.below _ hg2t (Below.refl _ _).drew (Nat.le_refl _)) hq_2 (Nat.le_refl _)
                    have hgat_2 := EIn.below _ (EIn.below _ hgat (Below.refl _ _).drew (Nat.le_refl _)) hq_2 (Nat.le_refl _)
                    refine hK.out _ _ (fun _ => HSS.out _ hb_2) (fun hS9 => ?_)
                    have hS_2 := hS9 (by decide)
                    clear hK K hS9
                    try simp only [Act.put, List.setIfInBounds_toArray, List.set_cons_zero, List.set_cons_succ]
                    refine wpAnyK_both (i := 3) (j := 8) rfl rfl rfl rfl (by kernel_rfl) (fun K hK => ?_) (fun K hK => ?_)
                    · go_simp
                      refine (HP4.out _ hb_2 Any (fun _ _ => trivial) A0 c0 hg0t_2 A_2 c_2 hT_2).mono ?_
                      rintro e u_3 ⟨A_3, c_3, rfl, hT_3, hq_3⟩
                      have hb_3 := hb_2.trans (hq_3.mono hb_2.size)
                      have hg0t_2_3 := EIn.below _ hg0t_2 hq_3 (Nat.le_refl _)
                      have hg1t_2_3 := EIn.below _ hg1t_2 hq_3 (Nat.le_refl _)
                      have hg2t_2_3 := EIn.below _ hg2t_2 hq_3 (Nat.le_refl _)
                      have hgat_2_3 := EIn.below _ hgat_2 hq_3 (Nat.le_refl _)
                      have hT_2_3 := EIn.below _ hT_2 hq_3 (Nat.le_refl _)
                      refine hK.out _ _ (fun _ => HSS.out _ hb_3) (fun hS9 => ?_)
                      have hS_3 := hS9 (by decide)
                      clear hK K hS9
                      try simp only [Act.put, List.setIfInBounds_toArray, List.set_cons_zero, List.set_cons_succ]
                      refine wpAnyK_both (i := 6) (j := 8) rfl rfl rfl rfl (by kernel_rfl) (fun K hK => ?_) (fun K hK => ?_)
                      · go_simp
                        refine (HP5.out _ hb_3 Any (fun _ _ => trivial) A1 c1 hg1t_2_3 A2 c2 hg2t_2_3).mono ?_
                        rintro e u_4 ⟨A_4, c_4, rfl, hT_4, hq_4⟩
                        have hb_4 := hb_3.trans (hq_4.mono hb_3.size)
                        have hg0t_2_3_4 := EIn.below _ hg0t_2_3 hq_4 (Nat.le_refl _)
                        have hg1t_2_3_4 := EIn.below _ hg1t_2_3 hq_4 (Nat.le_refl _)
                        have hg2t_2_3_4 := EIn.below _ hg2t_2_3 hq_4 (Nat.le_refl _)
                        have hgat_2_3_4 := EIn.below _ hgat_2_3 hq_4 (Nat.le_refl _)
                        have hT_2_3_4 := EIn.below _ hT_2_3 hq_4 (Nat.le_refl _)
                        have hT_3_4 := EIn.below _ hT_3 hq_4 (Nat.le_refl _)
                        refine hK.out _ _ (fun _ => HSS.out _ hb_4) (fun hS9 => ?_)
                        have hS_4 := hS9 (by decide)
                        clear hK K hS9
                        try simp only [Act.put, List.setIfInBounds_toArray, List.set_cons_zero, List.set_cons_succ]
                        refine wpAnyK_both (i := 7) (j := 8) rfl rfl rfl rfl (by kernel_rfl) (fun K hK => ?_) (fun K hK => ?_)
                        · go_simp
                          refine (HP6.out _ hb_4 Any (fun _ _ => trivial) A_3 c_3 hT_3_4 A_4 c_4 hT_4).mono ?_
                          rintro e u_5 ⟨A_5, c_5, rfl, hT_5, hq_5⟩
                          have hb_5 := hb_4.trans (hq_5.mono hb_4.size)
                          have hg0t_2_3_4_5 := EIn.below _ hg0t_2_3_4 hq_5 (Nat.le_refl _)
                          have hg1t_2_3_4_5 := EIn.below _ hg1t_2_3_4 hq_5 (Nat.le_refl _)
                          have hg2t_2_3_4_5 := EIn.below _ hg2t_2_3_4 hq_5 (Nat.le_refl _)
                          have hgat_2_3_4_5 := EIn.below _ hgat_2_3_4 hq_5 (Nat.le_refl _)
                          have hT_2_3_4_5 := EIn.below _ hT_2_3_4 hq_5 (Nat.le_refl _)
                          have hT_3_4_5 := EIn.below _ hT_3_4 hq_5 (Nat.le_refl _)
                          have hT_4_5 := EIn.below _ hT_4 hq_5 (Nat.le_refl _)
                          refine hK.out _ _ (fun _ => HSS.out _ hb_5) (fun hS9 => ?_)
                          have hS_5 := hS9 (by decide)
                          clear hK K hS9
                          try simp only [Act.put, List.setIfInBounds_toArray, List.set_cons_zero, List.set_cons_succ]
                          refine wpAnyK_one (i := 8) rfl rfl (by kernel_rfl) (fun K hK => ?_)
                          go_simp
                          have hb_6 := Below.alloc hb_5 hb_5.size (.cells #[.int .i64 0, .int .i64 0, .string (⟨#[]⟩ : ByteArray), .slice none 0 0] 24)
                          have hl_6 : Lies (u_5.alloc (.cells #[.int .i64 0, .int .i64 0, .string (⟨#[]⟩ : ByteArray), .slice none 0 0] 24)) (u_5.heap.size) 24 #[.int .i64 0, .int .i64 0, .string (⟨#[]⟩ : ByteArray), .slice none 0 0] := Lies.new _ _ _
                          refine hK.out _ _ (fun _ => HSS.out _ hb_6) (fun hS9 => ?_)
                          have hS_6 := hS9 (by decide)
                          clear hK K hS9
                          try simp only [Act.put, List.setIfInBounds_toArray, List.set_cons_zero, List.set_cons_succ]
                          have hg0t_2_3_4_5_6 : EIn (u_5.alloc (.cells #[.int .i64 0, .int .i64 0, .string (⟨#[]⟩ : ByteArray), .slice none 0 0] 24)) (fun g => g ≠ u_5.heap.size) (.node tk tn tz tl) A0 := EIn.keep _ hg0t_2_3_4_5 (fun g j _ hlt => ⟨World.cell?_alloc_lt _ _ _ hlt, Nat.ne_of_lt hlt⟩)
                          have hg1t_2_3_4_5_6 : EIn (u_5.alloc (.cells #[.int .i64 0, .int .i64 0, .string (⟨#[]⟩ : ByteArray), .slice none 0 0] 24)) (fun g => g ≠ u_5.heap.size) (.node sk sn sz sl) A1 := EIn.keep _ hg1t_2_3_4_5 (fun g j _ hlt => ⟨World.cell?_alloc_lt _ _ _ hlt, Nat.ne_of_lt hlt⟩)
                          have hg2t_2_3_4_5_6 : EIn (u_5.alloc (.cells #[.int .i64 0, .int .i64 0, .string (⟨#[]⟩ : ByteArray), .slice none 0 0] 24)) (fun g => g ≠ u_5.heap.size) (.node rk rn rz rl) A2 := EIn.keep _ hg2t_2_3_4_5 (fun g j _ hlt => ⟨World.cell?_alloc_lt _ _ _ hlt, Nat.ne_of_lt hlt⟩)
                          have hgat_2_3_4_5_6 : EIn (u_5.alloc (.cells #[.int .i64 0, .int .i64 0, .string (⟨#[]⟩ : ByteArray), .slice none 0 0] 24)) (fun g => g ≠ u_5.heap.size) (.node xk xn xz xl) Aa := EIn.keep _ hgat_2_3_4_5 (fun g j _ hlt => ⟨World.cell?_alloc_lt _ _ _ hlt, Nat.ne_of_lt hlt⟩)
                          have hT_2_3_4_5_6 : EIn (u_5.alloc (.cells #[.int .i64 0, .int .i64 0, .string (⟨#[]⟩ : ByteArray), .slice none 0 0] 24)) (fun g => g ≠ u_5.heap.size) (.node uk un uz ul) A_2 := EIn.keep _ hT_2_3_4_5 (fun g j _ hlt => ⟨World.cell?_alloc_lt _ _ _ hlt, Nat.ne_of_lt hlt⟩)
                          have hT_3_4_5_6 : EIn (u_5.alloc (.cells #[.int .i64 0, .int .i64 0, .string (⟨#[]⟩ : ByteArray), .slice none 0 0] 24)) (fun g => g ≠ u_5.heap.size) (.node yk yn yz yl) A_3 := EIn.keep _ hT_3_4_5 (fun g j _ hlt => ⟨World.cell?_alloc_lt _ _ _ hlt, Nat.ne_of_lt hlt⟩)
                          have hT_4_5_6 : EIn (u_5.alloc (.cells #[.int .i64 0, .int .i64 0, .string (⟨#[]⟩ : ByteArray), .slice none 0 0] 24)) (fun g => g ≠ u_5.heap.size) (.node qk qn qz ql) A_4 := EIn.keep _ hT_4_5 (fun g j _ hlt => ⟨World.cell?_alloc_lt _ _ _ hlt, Nat.ne_of_lt hlt⟩)
                          have hT_5_6 : EIn (u_5.alloc (.cells #[.int .i64 0, .int .i64 0, .string (⟨#[]⟩ : ByteArray), .slice none 0 0] 24)) (fun g => g ≠ u_5.heap.size) (.node xk xn xz xl) A_5 := EIn.keep _ hT_5 (fun g j _ hlt => ⟨World.cell?_alloc_lt _ _ _ hlt, Nat.ne_of_lt hlt⟩)
                          refine wpAnyK_one (i := 9) rfl rfl (by kernel_rfl) (fun K hK => ?_)
                          refine wp_store_as (F := fun W9 => Below wc.heap.size wc W9 ∧ Lies W9 (u_5.heap.size) 24 #[.int .i64 xk, .int .i64 xn, .string xz, .slice A_5 xl.length (capF xl.length c_5)] ∧ EIn W9 Any (.node xk xn xz xl) A_5) _ _ _ rfl (u_5.heap.size) 0 #[.int .i64 xk, .int .i64 xn, .string xz, .slice A_5 xl.length (capF xl.length c_5)] rfl rfl (lies_is hl_6 rfl) (by kernel_rfl) (by simp [Value.oneCell']) ⟨below_cells hb_6 (hb_5.size) _ _, lies_set4 hl_6 _ _ _ _, EIn.any _ (ein_offs _ hT_5_6 (fun h => h rfl) _ _)⟩ (fun W_7 hF_7 => ?_)
                          refine hK.out _ _ (fun h => absurd rfl h) (fun _ => ?_)
                          clear hK K
                          try simp only [Act.put, List.setIfInBounds_toArray]
                          refine wpAnyK_done (by kernel_rfl) ?_ _
                          obtain ⟨f1, f2, f3⟩ := hF_7
                          go_wp2_with fail
                          go_meet
                          exact ⟨_, A_5, c_5, rfl, hb_5.size, f2.lt, f2, f3, f1⟩
                        · go_simp
                          have hb_8 := Below.alloc hb_4 hb_4.size (.cells #[.int .i64 0, .int .i64 0, .string (⟨#[]⟩ : ByteArray), .slice none 0 0] 24)
                          have hl_8 : Lies (u_4.alloc (.cells #[.int .i64 0, .int .i64 0, .string (⟨#[]⟩ : ByteArray), .slice none 0 0] 24)) (u_4.heap.size) 24 #[.int .i64 0, .int .i64 0, .string (⟨#[]⟩ : ByteArray), .slice none 0 0] := Lies.new _ _ _
                          refine hK.out _ _ (fun _ => HSS.out _ hb_8) (fun hS9 => ?_)
                          have hS_8 := hS9 (by decide)
                          clear hK K hS9
                          try simp only [Act.put, List.setIfInBounds_toArray, List.set_cons_zero, List.set_cons_succ]
                          have hg0t_2_3_4_8 : EIn (u_4.alloc (.cells #[.int .i64 0, .int .i64 0, .string (⟨#[]⟩ : ByteArray), .slice none 0 0] 24)) (fun g => g ≠ u_4.heap.size) (.node tk tn tz tl) A0 := EIn.keep _ hg0t_2_3_4 (fun g j _ hlt => ⟨World.cell?_alloc_lt _ _ _ hlt, Nat.ne_of_lt hlt⟩)
                          have hg1t_2_3_4_8 : EIn (u_4.alloc (.cells #[.int .i64 0, .int .i64 0, .string (⟨#[]⟩ : ByteArray), .slice none 0 0] 24)) (fun g => g ≠ u_4.heap.size) (.node sk sn sz sl) A1 := EIn.keep _ hg1t_2_3_4 (fun g j _ hlt => ⟨World.cell?_alloc_lt _ _ _ hlt, Nat.ne_of_lt hlt⟩)
                          have hg2t_2_3_4_8 : EIn (u_4.alloc (.cells #[.int .i64 0, .int .i64 0, .string (⟨#[]⟩ : ByteArray), .slice none 0 0] 24)) (fun g => g ≠ u_4.heap.size) (.node rk rn rz rl) A2 := EIn.keep _ hg2t_2_3_4 (fun g j _ hlt => ⟨World.cell?_alloc_lt _ _ _ hlt, Nat.ne_of_lt hlt⟩)
                          have hgat_2_3_4_8 : EIn (u_4.alloc (.cells #[.int .i64 0, .int .i64 0, .string (⟨#[]⟩ : ByteArray), .slice none 0 0] 24)) (fun g => g ≠ u_4.heap.size) (.node xk xn xz xl) Aa := EIn.keep _ hgat_2_3_4 (fun g j _ hlt => ⟨World.cell?_alloc_lt _ _ _ hlt, Nat.ne_of_lt hlt⟩)
                          have hT_2_3_4_8 : EIn (u_4.alloc (.cells #[.int .i64 0, .int .i64 0, .string (⟨#[]⟩ : ByteArray), .slice none 0 0] 24)) (fun g => g ≠ u_4.heap.size) (.node uk un uz ul) A_2 := EIn.keep _ hT_2_3_4 (fun g j _ hlt => ⟨World.cell?_alloc_lt _ _ _ hlt, Nat.ne_of_lt hlt⟩)
                          have hT_3_4_8 : EIn (u_4.alloc (.cells #[.int .i64 0, .int .i64 0, .string (⟨#[]⟩ : ByteArray), .slice none 0 0] 24)) (fun g => g ≠ u_4.heap.size) (.node yk yn yz yl) A_3 := EIn.keep _ hT_3_4 (fun g j _ hlt => ⟨World.cell?_alloc_lt _ _ _ hlt, Nat.ne_of_lt hlt⟩)
                          have hT_4_8 : EIn (u_4.alloc (.cells #[.int .i64 0, .int .i64 0, .string (⟨#[]⟩ : ByteArray), .slice none 0 0] 24)) (fun g => g ≠ u_4.heap.size) (.node qk qn qz ql) A_4 := EIn.keep _ hT_4 (fun g j _ hlt => ⟨World.cell?_alloc_lt _ _ _ hlt, Nat.ne_of_lt hlt⟩)
                          refine wpAnyK_one (i := 7) rfl rfl (by kernel_rfl) (fun K hK => ?_)
                          go_simp
                          refine (HP6.out _ hb_8 (fun g => g ≠ u_4.heap.size) (fun g h => Nat.ne_of_gt (Nat.lt_of_lt_of_le hl_8.lt h)) A_3 c_3 hT_3_4_8 A_4 c_4 hT_4_8).mono ?_
                          rintro e u_9 ⟨A_9, c_9, rfl, hT_9, hq_9⟩
                          have hb_9 := hb_8.trans (hq_9.mono hb_8.size)
                          have hl_8_9 := hl_8.below hq_9 hl_8.lt
                          have hg0t_2_3_4_8_9 := EIn.below _ hg0t_2_3_4_8 hq_9 (Nat.le_refl _)
                          have hg1t_2_3_4_8_9 := EIn.below _ hg1t_2_3_4_8 hq_9 (Nat.le_refl _)
                          have hg2t_2_3_4_8_9 := EIn.below _ hg2t_2_3_4_8 hq_9 (Nat.le_refl _)
                          have hgat_2_3_4_8_9 := EIn.below _ hgat_2_3_4_8 hq_9 (Nat.le_refl _)
                          have hT_2_3_4_8_9 := EIn.below _ hT_2_3_4_8 hq_9 (Nat.le_refl _)
                          have hT_3_4_8_9 := EIn.below _ hT_3_4_8 hq_9 (Nat.le_refl _)
                          have hT_4_8_9 := EIn.below _ hT_4_8 hq_9 (Nat.le_refl _)
                          refine hK.out _ _ (fun _ => HSS.out _ hb_9) (fun hS9 => ?_)
                          have hS_9 := hS9 (by decide)
                          clear hK K hS9
                          try simp only [Act.put, List.setIfInBounds_toArray, List.set_cons_zero, List.set_cons_succ]
                          refine wpAnyK_one (i := 9) rfl rfl (by kernel_rfl) (fun K hK => ?_)
                          refine wp_store_as (F := fun W9 => Below wc.heap.size wc W9 ∧ Lies W9 (u_4.heap.size) 24 #[.int .i64 xk, .int .i64 xn, .string xz, .slice A_9 xl.length (capF xl.length c_9)] ∧ EIn W9 Any (.node xk xn xz xl) A_9) _ _ _ rfl (u_4.heap.size) 0 #[.int .i64 xk, .int .i64 xn, .string xz, .slice A_9 xl.length (capF xl.length c_9)] rfl rfl (lies_is hl_8_9 rfl) (by kernel_rfl) (by simp [Value.oneCell']) ⟨below_cells hb_9 (hb_4.size) _ _, lies_set4 hl_8_9 _ _ _ _, EIn.any _ (ein_offs _ hT_9 (fun h => h rfl) _ _)⟩ (fun W_10 hF_10 => ?_)
                          refine hK.out _ _ (fun h => absurd rfl h) (fun _ => ?_)
                          clear hK K
                          try simp only [Act.put, List.setIfInBounds_toArray]
                          refine wpAnyK_done (by kernel_rfl) ?_ _
                          obtain ⟨f1, f2, f3⟩ := hF_10
                          go_wp2_with fail
                          go_meet
                          exact ⟨_, A_9, c_9, rfl, hb_4.size, f2.lt, f2, f3, f1⟩
                      · go_simp
                        have hb_11 := Below.alloc hb_3 hb_3.size (.cells #[.int .i64 0, .int .i64 0, .string (⟨#[]⟩ : ByteArray), .slice none 0 0] 24)
                        have hl_11 : Lies (u_3.alloc (.cells #[.int .i64 0, .int .i64 0, .string (⟨#[]⟩ : ByteArray), .slice none 0 0] 24)) (u_3.heap.size) 24 #[.int .i64 0, .int .i64 0, .string (⟨#[]⟩ : ByteArray), .slice none 0 0] := Lies.new _ _ _
                        refine hK.out _ _ (fun _ => HSS.out _ hb_11) (fun hS9 => ?_)
                        have hS_11 := hS9 (by decide)
                        clear hK K hS9
                        try simp only [Act.put, List.setIfInBounds_toArray, List.set_cons_zero, List.set_cons_succ]
                        have hg0t_2_3_11 : EIn (u_3.alloc (.cells #[.int .i64 0, .int .i64 0, .string (⟨#[]⟩ : ByteArray), .slice none 0 0] 24)) (fun g => g ≠ u_3.heap.size) (.node tk tn tz tl) A0 := EIn.keep _ hg0t_2_3 (fun g j _ hlt => ⟨World.cell?_alloc_lt _ _ _ hlt, Nat.ne_of_lt hlt⟩)
                        have hg1t_2_3_11 : EIn (u_3.alloc (.cells #[.int .i64 0, .int .i64 0, .string (⟨#[]⟩ : ByteArray), .slice none 0 0] 24)) (fun g => g ≠ u_3.heap.size) (.node sk sn sz sl) A1 := EIn.keep _ hg1t_2_3 (fun g j _ hlt => ⟨World.cell?_alloc_lt _ _ _ hlt, Nat.ne_of_lt hlt⟩)
                        have hg2t_2_3_11 : EIn (u_3.alloc (.cells #[.int .i64 0, .int .i64 0, .string (⟨#[]⟩ : ByteArray), .slice none 0 0] 24)) (fun g => g ≠ u_3.heap.size) (.node rk rn rz rl) A2 := EIn.keep _ hg2t_2_3 (fun g j _ hlt => ⟨World.cell?_alloc_lt _ _ _ hlt, Nat.ne_of_lt hlt⟩)
                        have hgat_2_3_11 : EIn (u_3.alloc (.cells #[.int .i64 0, .int .i64 0, .string (⟨#[]⟩ : ByteArray), .slice none 0 0] 24)) (fun g => g ≠ u_3.heap.size) (.node xk xn xz xl) Aa := EIn.keep _ hgat_2_3 (fun g j _ hlt => ⟨World.cell?_alloc_lt _ _ _ hlt, Nat.ne_of_lt hlt⟩)
                        have hT_2_3_11 : EIn (u_3.alloc (.cells #[.int .i64 0, .int .i64 0, .string (⟨#[]⟩ : ByteArray), .slice none 0 0] 24)) (fun g => g ≠ u_3.heap.size) (.node uk un uz ul) A_2 := EIn.keep _ hT_2_3 (fun g j _ hlt => ⟨World.cell?_alloc_lt _ _ _ hlt, Nat.ne_of_lt hlt⟩)
                        have hT_3_11 : EIn (u_3.alloc (.cells #[.int .i64 0, .int .i64 0, .string (⟨#[]⟩ : ByteArray), .slice none 0 0] 24)) (fun g => g ≠ u_3.heap.size) (.node yk yn yz yl) A_3 := EIn.keep _ hT_3 (fun g j _ hlt => ⟨World.cell?_alloc_lt _ _ _ hlt, Nat.ne_of_lt hlt⟩)
                        refine wpAnyK_one (i := 6) rfl rfl (by kernel_rfl) (fun K hK => ?_)
                        go_simp
                        refine (HP5.out _ hb_11 (fun g => g ≠ u_3.heap.size) (fun g h => Nat.ne_of_gt (Nat.lt_of_lt_of_le hl_11.lt h)) A1 c1 hg1t_2_3_11 A2 c2 hg2t_2_3_11).mono ?_
                        rintro e u_12 ⟨A_12, c_12, rfl, hT_12, hq_12⟩
                        have hb_12 := hb_11.trans (hq_12.mono hb_11.size)
                        have hl_11_12 := hl_11.below hq_12 hl_11.lt
                        have hg0t_2_3_11_12 := EIn.below _ hg0t_2_3_11 hq_12 (Nat.le_refl _)
                        have hg1t_2_3_11_12 := EIn.below _ hg1t_2_3_11 hq_12 (Nat.le_refl _)
                        have hg2t_2_3_11_12 := EIn.below _ hg2t_2_3_11 hq_12 (Nat.le_refl _)
                        have hgat_2_3_11_12 := EIn.below _ hgat_2_3_11 hq_12 (Nat.le_refl _)
                        have hT_2_3_11_12 := EIn.below _ hT_2_3_11 hq_12 (Nat.le_refl _)
                        have hT_3_11_12 := EIn.below _ hT_3_11 hq_12 (Nat.le_refl _)
                        refine hK.out _ _ (fun _ => HSS.out _ hb_12) (fun hS9 => ?_)
                        have hS_12 := hS9 (by decide)
                        clear hK K hS9
                        try simp only [Act.put, List.setIfInBounds_toArray, List.set_cons_zero, List.set_cons_succ]
                        refine wpAnyK_one (i := 7) rfl rfl (by kernel_rfl) (fun K hK => ?_)
                        go_simp
                        refine (HP6.out _ hb_12 (fun g => g ≠ u_3.heap.size) (fun g h => Nat.ne_of_gt (Nat.lt_of_lt_of_le hl_11_12.lt h)) A_3 c_3 hT_3_11_12 A_12 c_12 hT_12).mono ?_
                        rintro e u_13 ⟨A_13, c_13, rfl, hT_13, hq_13⟩
                        have hb_13 := hb_12.trans (hq_13.mono hb_12.size)
                        have hl_11_12_13 := hl_11_12.below hq_13 hl_11_12.lt
                        have hg0t_2_3_11_12_13 := EIn.below _ hg0t_2_3_11_12 hq_13 (Nat.le_refl _)
                        have hg1t_2_3_11_12_13 := EIn.below _ hg1t_2_3_11_12 hq_13 (Nat.le_refl _)
                        have hg2t_2_3_11_12_13 := EIn.below _ hg2t_2_3_11_12 hq_13 (Nat.le_refl _)
                        have hgat_2_3_11_12_13 := EIn.below _ hgat_2_3_11_12 hq_13 (Nat.le_refl _)
                        have hT_2_3_11_12_13 := EIn.below _ hT_2_3_11_12 hq_13 (Nat.le_refl _)
                        have hT_3_11_12_13 := EIn.below _ hT_3_11_12 hq_13 (Nat.le_refl _)
                        have hT_12_13 := EIn.below _ hT_12 hq_13 (Nat.le_refl _)
                        refine hK.out _ _ (fun _ => HSS.out _ hb_13) (fun hS9 => ?_)
                        have hS_13 := hS9 (by decide)
                        clear hK K hS9
                        try simp only [Act.put, List.setIfInBounds_toArray, List.set_cons_zero, List.set_cons_succ]
                        refine wpAnyK_one (i := 9) rfl rfl (by kernel_rfl) (fun K hK => ?_)
                        refine wp_store_as (F := fun W9 => Below wc.heap.size wc W9 ∧ Lies W9 (u_3.heap.size) 24 #[.int .i64 xk, .int .i64 xn, .string xz, .slice A_13 xl.length (capF xl.length c_13)] ∧ EIn W9 Any (.node xk xn xz xl) A_13) _ _ _ rfl (u_3.heap.size) 0 #[.int .i64 xk, .int .i64 xn, .string xz, .slice A_13 xl.length (capF xl.length c_13)] rfl rfl (lies_is hl_11_12_13 rfl) (by kernel_rfl) (by simp [Value.oneCell']) ⟨below_cells hb_13 (hb_3.size) _ _, lies_set4 hl_11_12_13 _ _ _ _, EIn.any _ (ein_offs _ hT_13 (fun h => h rfl) _ _)⟩ (fun W_14 hF_14 => ?_)
                        refine hK.out _ _ (fun h => absurd rfl h) (fun _ => ?_)
                        clear hK K
                        try simp only [Act.put, List.setIfInBounds_toArray]
                        refine wpAnyK_done (by kernel_rfl) ?_ _
                        obtain ⟨f1, f2, f3⟩ := hF_14
                        go_wp2_with fail
                        go_meet
                        exact ⟨_, A_13, c_13, rfl, hb_3.size, f2.lt, f2, f3, f1⟩
                    · go_simp
                      have hb_15 := Below.alloc hb_2 hb_2.size (.cells #[.int .i64 0, .int .i64 0, .string (⟨#[]⟩ : ByteArray), .slice none 0 0] 24)
                      have hl_15 : Lies (u_2.alloc (.cells #[.int .i64 0, .int .i64 0, .string (⟨#[]⟩ : ByteArray), .slice none 0 0] 24)) (u_2.heap.size) 24 #[.int .i64 0, .int .i64 0, .string (⟨#[]⟩ : ByteArray), .slice none 0 0] := Lies.new _ _ _
                      refine hK.out _ _ (fun _ => HSS.out _ hb_15) (fun hS9 => ?_)
                      have hS_15 := hS9 (by decide)
                      clear hK K hS9
                      try simp only [Act.put, List.setIfInBounds_toArray, List.set_cons_zero, List.set_cons_succ]
                      have hg0t_2_15 : EIn (u_2.alloc (.cells #[.int .i64 0, .int .i64 0, .string (⟨#[]⟩ : ByteArray), .slice none 0 0] 24)) (fun g => g ≠ u_2.heap.size) (.node tk tn tz tl) A0 := EIn.keep _ hg0t_2 (fun g j _ hlt => ⟨World.cell?_alloc_lt _ _ _ hlt, Nat.ne_of_lt hlt⟩)
                      have hg1t_2_15 : EIn (u_2.alloc (.cells #[.int .i64 0, .int .i64 0, .string (⟨#[]⟩ : ByteArray), .slice none 0 0] 24)) (fun g => g ≠ u_2.heap.size) (.node sk sn sz sl) A1 := EIn.keep _ hg1t_2 (fun g j _ hlt => ⟨World.cell?_alloc_lt _ _ _ hlt, Nat.ne_of_lt hlt⟩)
                      have hg2t_2_15 : EIn (u_2.alloc (.cells #[.int .i64 0, .int .i64 0, .string (⟨#[]⟩ : ByteArray), .slice none 0 0] 24)) (fun g => g ≠ u_2.heap.size) (.node rk rn rz rl) A2 := EIn.keep _ hg2t_2 (fun g j _ hlt => ⟨World.cell?_alloc_lt _ _ _ hlt, Nat.ne_of_lt hlt⟩)
                      have hgat_2_15 : EIn (u_2.alloc (.cells #[.int .i64 0, .int .i64 0, .string (⟨#[]⟩ : ByteArray), .slice none 0 0] 24)) (fun g => g ≠ u_2.heap.size) (.node xk xn xz xl) Aa := EIn.keep _ hgat_2 (fun g j _ hlt => ⟨World.cell?_alloc_lt _ _ _ hlt, Nat.ne_of_lt hlt⟩)
                      have hT_2_15 : EIn (u_2.alloc (.cells #[.int .i64 0, .int .i64 0, .string (⟨#[]⟩ : ByteArray), .slice none 0 0] 24)) (fun g => g ≠ u_2.heap.size) (.node uk un uz ul) A_2 := EIn.keep _ hT_2 (fun g j _ hlt => ⟨World.cell?_alloc_lt _ _ _ hlt, Nat.ne_of_lt hlt⟩)
                      refine wpAnyK_one (i := 3) rfl rfl (by kernel_rfl) (fun K hK => ?_)
                      go_simp
                      refine (HP4.out _ hb_15 (fun g => g ≠ u_2.heap.size) (fun g h => Nat.ne_of_gt (Nat.lt_of_lt_of_le hl_15.lt h)) A0 c0 hg0t_2_15 A_2 c_2 hT_2_15).mono ?_
                      rintro e u_16 ⟨A_16, c_16, rfl, hT_16, hq_16⟩
                      have hb_16 := hb_15.trans (hq_16.mono hb_15.size)
                      have hl_15_16 := hl_15.below hq_16 hl_15.lt
                      have hg0t_2_15_16 := EIn.below _ hg0t_2_15 hq_16 (Nat.le_refl _)
                      have hg1t_2_15_16 := EIn.below _ hg1t_2_15 hq_16 (Nat.le_refl _)
                      have hg2t_2_15_16 := EIn.below _ hg2t_2_15 hq_16 (Nat.le_refl _)
                      have hgat_2_15_16 := EIn.below _ hgat_2_15 hq_16 (Nat.le_refl _)
                      have hT_2_15_16 := EIn.below _ hT_2_15 hq_16 (Nat.le_refl _)
                      refine hK.out _ _ (fun _ => HSS.out _ hb_16) (fun hS9 => ?_)
                      have hS_16 := hS9 (by decide)
                      clear hK K hS9
                      try simp only [Act.put, List.setIfInBounds_toArray, List.set_cons_zero, List.set_cons_succ]
                      refine wpAnyK_one (i := 6) rfl rfl (by kernel_rfl) (fun K hK => ?_)
                      go_simp
                      refine (HP5.out _ hb_16 (fun g => g ≠ u_2.heap.size) (fun g h => Nat.ne_of_gt (Nat.lt_of_lt_of_le hl_15_16.lt h)) A1 c1 hg1t_2_15_16 A2 c2 hg2t_2_15_16).mono ?_
                      rintro e u_17 ⟨A_17, c_17, rfl, hT_17, hq_17⟩
                      have hb_17 := hb_16.trans (hq_17.mono hb_16.size)
                      have hl_15_16_17 := hl_15_16.below hq_17 hl_15_16.lt
                      have hg0t_2_15_16_17 := EIn.below _ hg0t_2_15_16 hq_17 (Nat.le_refl _)
                      have hg1t_2_15_16_17 := EIn.below _ hg1t_2_15_16 hq_17 (Nat.le_refl _)
                      have hg2t_2_15_16_17 := EIn.below _ hg2t_2_15_16 hq_17 (Nat.le_refl _)
                      have hgat_2_15_16_17 := EIn.below _ hgat_2_15_16 hq_17 (Nat.le_refl _)
                      have hT_2_15_16_17 := EIn.below _ hT_2_15_16 hq_17 (Nat.le_refl _)
                      have hT_16_17 := EIn.below _ hT_16 hq_17 (Nat.le_refl _)
                      refine hK.out _ _ (fun _ => HSS.out _ hb_17) (fun hS9 => ?_)
                      have hS_17 := hS9 (by decide)
                      clear hK K hS9
                      try simp only [Act.put, List.setIfInBounds_toArray, List.set_cons_zero, List.set_cons_succ]
                      refine wpAnyK_one (i := 7) rfl rfl (by kernel_rfl) (fun K hK => ?_)
                      go_simp
                      refine (HP6.out _ hb_17 (fun g => g ≠ u_2.heap.size) (fun g h => Nat.ne_of_gt (Nat.lt_of_lt_of_le hl_15_16_17.lt h)) A_16 c_16 hT_16_17 A_17 c_17 hT_17).mono ?_
                      rintro e u_18 ⟨A_18, c_18, rfl, hT_18, hq_18⟩
                      have hb_18 := hb_17.trans (hq_18.mono hb_17.size)
                      have hl_15_16_17_18 := hl_15_16_17.below hq_18 hl_15_16_17.lt
                      have hg0t_2_15_16_17_18 := EIn.below _ hg0t_2_15_16_17 hq_18 (Nat.le_refl _)
                      have hg1t_2_15_16_17_18 := EIn.below _ hg1t_2_15_16_17 hq_18 (Nat.le_refl _)
                      have hg2t_2_15_16_17_18 := EIn.below _ hg2t_2_15_16_17 hq_18 (Nat.le_refl _)
                      have hgat_2_15_16_17_18 := EIn.below _ hgat_2_15_16_17 hq_18 (Nat.le_refl _)
                      have hT_2_15_16_17_18 := EIn.below _ hT_2_15_16_17 hq_18 (Nat.le_refl _)
                      have hT_16_17_18 := EIn.below _ hT_16_17 hq_18 (Nat.le_refl _)
                      have hT_17_18 := EIn.below _ hT_17 hq_18 (Nat.le_refl _)
                      refine hK.out _ _ (fun _ => HSS.out _ hb_18) (fun hS9 => ?_)
                      have hS_18 := hS9 (by decide)
                      clear hK K hS9
                      try simp only [Act.put, List.setIfInBounds_toArray, List.set_cons_zero, List.set_cons_succ]
                      refine wpAnyK_one (i := 9) rfl rfl (by kernel_rfl) (fun K hK => ?_)
                      refine wp_store_as (F := fun W9 => Below wc.heap.size wc W9 ∧ Lies W9 (u_2.heap.size) 24 #[.int .i64 xk, .int .i64 xn, .string xz, .slice A_18 xl.length (capF xl.length c_18)] ∧ EIn W9 Any (.node xk xn xz xl) A_18) _ _ _ rfl (u_2.heap.size) 0 #[.int .i64 xk, .int .i64 xn, .string xz, .slice A_18 xl.length (capF xl.length c_18)] rfl rfl (lies_is hl_15_16_17_18 rfl) (by kernel_rfl) (by simp [Value.oneCell']) ⟨below_cells hb_18 (hb_2.size) _ _, lies_set4 hl_15_16_17_18 _ _ _ _, EIn.any _ (ein_offs _ hT_18 (fun h => h rfl) _ _)⟩ (fun W_19 hF_19 => ?_)
                      refine hK.out _ _ (fun h => absurd rfl h) (fun _ => ?_)
                      clear hK K
                      try simp only [Act.put, List.setIfInBounds_toArray]
                      refine wpAnyK_done (by kernel_rfl) ?_ _
                      obtain ⟨f1, f2, f3⟩ := hF_19
                      go_wp2_with fail
                      go_meet
                      exact ⟨_, A_18, c_18, rfl, hb_2.size, f2.lt, f2, f3, f1⟩
                  · go_simp
                    have hb_20 := Below.alloc hb_1 hb_1.size (.cells #[.int .i64 0, .int .i64 0, .string (⟨#[]⟩ : ByteArray), .slice none 0 0] 24)
                    have hl_20 : Lies (wc.alloc (.cells #[.int .i64 0, .int .i64 0, .string (⟨#[]⟩ : ByteArray), .slice none 0 0] 24)) (wc.heap.size) 24 #[.int .i64 0, .int .i64 0, .string (⟨#[]⟩ : ByteArray), .slice none 0 0] := Lies.new _ _ _
                    refine hK.out _ _ (fun _ => HSS.out _ (hb_20.drew)) (fun hS9 => ?_)
                    have hS_20 := hS9 (by decide)
                    clear hK K hS9
                    try simp only [Act.put, List.setIfInBounds_toArray, List.set_cons_zero, List.set_cons_succ]
                    have hg0t_20 : EIn (wc.alloc (.cells #[.int .i64 0, .int .i64 0, .string (⟨#[]⟩ : ByteArray), .slice none 0 0] 24)) (fun g => g ≠ wc.heap.size) (.node tk tn tz tl) A0 := EIn.keep _ hg0t (fun g j _ hlt => ⟨World.cell?_alloc_lt _ _ _ hlt, Nat.ne_of_lt hlt⟩)
                    have hg1t_20 : EIn (wc.alloc (.cells #[.int .i64 0, .int .i64 0, .string (⟨#[]⟩ : ByteArray), .slice none 0 0] 24)) (fun g => g ≠ wc.heap.size) (.node sk sn sz sl) A1 := EIn.keep _ hg1t (fun g j _ hlt => ⟨World.cell?_alloc_lt _ _ _ hlt, Nat.ne_of_lt hlt⟩)
                    have hg2t_20 : EIn (wc.alloc (.cells #[.int .i64 0, .int .i64 0, .string (⟨#[]⟩ : ByteArray), .slice none 0 0] 24)) (fun g => g ≠ wc.heap.size) (.node rk rn rz rl) A2 := EIn.keep _ hg2t (fun g j _ hlt => ⟨World.cell?_alloc_lt _ _ _ hlt, Nat.ne_of_lt hlt⟩)
                    have hgat_20 : EIn (wc.alloc (.cells #[.int .i64 0, .int .i64 0, .string (⟨#[]⟩ : ByteArray), .slice none 0 0] 24)) (fun g => g ≠ wc.heap.size) (.node xk xn xz xl) Aa := EIn.keep _ hgat (fun g j _ hlt => ⟨World.cell?_alloc_lt _ _ _ hlt, Nat.ne_of_lt hlt⟩)
                    refine wpAnyK_one (i := 2) rfl rfl (by kernel_rfl) (fun K hK => ?_)
                    go_simp
                    refine (HU4.out _ (hb_20.drew) (fun g => g ≠ wc.heap.size) (fun g h => Nat.ne_of_gt (Nat.lt_of_lt_of_le hl_20.lt h)) A2 c2 (EIn.below _ hg2t_20 (Below.refl _ _).drew (Nat.le_refl _))).mono ?_
                    rintro e u_21 ⟨A_21, c_21, rfl, hT_21, hq_21⟩
                    have hb_21 := (hb_20.drew).trans (hq_21.mono (hb_20.drew).size)
                    have hl_20_21 := (hl_20.drew).below hq_21 hl_20.lt
                    have hg0t_20_21 := EIn.below _ (EIn.below _ hg0t_20 (Below.refl _ _).drew (Nat.le_refl _)) hq_21 (Nat.le_refl _)
                    have hg1t_20_21 := EIn.below _ (EIn.below _ hg1t_20 (Below.refl _ _).drew (Nat.le_refl _)) hq_21 (Nat.le_refl _)
                    have hg2t_20_21 := EIn.below _ (EIn.below _ hg2t_20 (Below.refl _ _).drew (Nat.le_refl _)) hq_21 (Nat.le_refl _)
                    have hgat_20_21 := EIn.below _ (EIn.below _ hgat_20 (Below.refl _ _).drew (Nat.le_refl _)) hq_21 (Nat.le_refl _)
                    refine hK.out _ _ (fun _ => HSS.out _ hb_21) (fun hS9 => ?_)
                    have hS_21 := hS9 (by decide)
                    clear hK K hS9
                    try simp only [Act.put, List.setIfInBounds_toArray, List.set_cons_zero, List.set_cons_succ]
                    refine wpAnyK_one (i := 3) rfl rfl (by kernel_rfl) (fun K hK => ?_)
                    go_simp
                    refine (HP4.out _ hb_21 (fun g => g ≠ wc.heap.size) (fun g h => Nat.ne_of_gt (Nat.lt_of_lt_of_le hl_20_21.lt h)) A0 c0 hg0t_20_21 A_21 c_21 hT_21).mono ?_
                    rintro e u_22 ⟨A_22, c_22, rfl, hT_22, hq_22⟩
                    have hb_22 := hb_21.trans (hq_22.mono hb_21.size)
                    have hl_20_21_22 := hl_20_21.below hq_22 hl_20_21.lt
                    have hg0t_20_21_22 := EIn.below _ hg0t_20_21 hq_22 (Nat.le_refl _)
                    have hg1t_20_21_22 := EIn.below _ hg1t_20_21 hq_22 (Nat.le_refl _)
                    have hg2t_20_21_22 := EIn.below _ hg2t_20_21 hq_22 (Nat.le_refl _)
                    have hgat_20_21_22 := EIn.below _ hgat_20_21 hq_22 (Nat.le_refl _)
                    have hT_21_22 := EIn.below _ hT_21 hq_22 (Nat.le_refl _)
                    refine hK.out _ _ (fun _ => HSS.out _ hb_22) (fun hS9 => ?_)
                    have hS_22 := hS9 (by decide)
                    clear hK K hS9
                    try simp only [Act.put, List.setIfInBounds_toArray, List.set_cons_zero, List.set_cons_succ]
                    refine wpAnyK_one (i := 6) rfl rfl (by kernel_rfl) (fun K hK => ?_)
                    go_simp
                    refine (HP5.out _ hb_22 (fun g => g ≠ wc.heap.size) (fun g h => Nat.ne_of_gt (Nat.lt_of_lt_of_le hl_20_21_22.lt h)) A1 c1 hg1t_20_21_22 A2 c2 hg2t_20_21_22).mono ?_
                    rintro e u_23 ⟨A_23, c_23, rfl, hT_23, hq_23⟩
                    have hb_23 := hb_22.trans (hq_23.mono hb_22.size)
                    have hl_20_21_22_23 := hl_20_21_22.below hq_23 hl_20_21_22.lt
                    have hg0t_20_21_22_23 := EIn.below _ hg0t_20_21_22 hq_23 (Nat.le_refl _)
                    have hg1t_20_21_22_23 := EIn.below _ hg1t_20_21_22 hq_23 (Nat.le_refl _)
                    have hg2t_20_21_22_23 := EIn.below _ hg2t_20_21_22 hq_23 (Nat.le_refl _)
                    have hgat_20_21_22_23 := EIn.below _ hgat_20_21_22 hq_23 (Nat.le_refl _)
                    have hT_21_22_23 := EIn.below _ hT_21_22 hq_23 (Nat.le_refl _)
                    have hT_22_23 := EIn.below _ hT_22 hq_23 (Nat.le_refl _)
                    refine hK.out _ _ (fun _ => HSS.out _ hb_23) (fun hS9 => ?_)
                    have hS_23 := hS9 (by decide)
                    clear hK K hS9
                    try simp only [Act.put, List.setIfInBounds_toArray, List.set_cons_zero, List.set_cons_succ]
                    refine wpAnyK_one (i := 7) rfl rfl (by kernel_rfl) (fun K hK => ?_)
                    go_simp
                    refine (HP6.out _ hb_23 (fun g => g ≠ wc.heap.size) (fun g h => Nat.ne_of_gt (Nat.lt_of_lt_of_le hl_20_21_22_23.lt h)) A_22 c_22 hT_22_23 A_23 c_23 hT_23).mono ?_
                    rintro e u_24 ⟨A_24, c_24, rfl, hT_24, hq_24⟩
                    have hb_24 := hb_23.trans (hq_24.mono hb_23.size)
                    have hl_20_21_22_23_24 := hl_20_21_22_23.below hq_24 hl_20_21_22_23.lt
                    have hg0t_20_21_22_23_24 := EIn.below _ hg0t_20_21_22_23 hq_24 (Nat.le_refl _)
                    have hg1t_20_21_22_23_24 := EIn.below _ hg1t_20_21_22_23 hq_24 (Nat.le_refl _)
                    have hg2t_20_21_22_23_24 := EIn.below _ hg2t_20_21_22_23 hq_24 (Nat.le_refl _)
                    have hgat_20_21_22_23_24 := EIn.below _ hgat_20_21_22_23 hq_24 (Nat.le_refl _)
                    have hT_21_22_23_24 := EIn.below _ hT_21_22_23 hq_24 (Nat.le_refl _)
                    have hT_22_23_24 := EIn.below _ hT_22_23 hq_24 (Nat.le_refl _)
                    have hT_23_24 := EIn.below _ hT_23 hq_24 (Nat.le_refl _)
                    refine hK.out _ _ (fun _ => HSS.out _ hb_24) (fun hS9 => ?_)
                    have hS_24 := hS9 (by decide)
                    clear hK K hS9
                    try simp only [Act.put, List.setIfInBounds_toArray, List.set_cons_zero, List.set_cons_succ]
                    refine wpAnyK_one (i := 9) rfl rfl (by kernel_rfl) (fun K hK => ?_)
                    refine wp_store_as (F := fun W9 => Below wc.heap.size wc W9 ∧ Lies W9 (wc.heap.size) 24 #[.int .i64 xk, .int .i64 xn, .string xz, .slice A_24 xl.length (capF xl.length c_24)] ∧ EIn W9 Any (.node xk xn xz xl) A_24) _ _ _ rfl (wc.heap.size) 0 #[.int .i64 xk, .int .i64 xn, .string xz, .slice A_24 xl.length (capF xl.length c_24)] rfl rfl (lies_is hl_20_21_22_23_24 rfl) (by kernel_rfl) (by simp [Value.oneCell']) ⟨below_cells hb_24 (Nat.le_refl _) _ _, lies_set4 hl_20_21_22_23_24 _ _ _ _, EIn.any _ (ein_offs _ hT_24 (fun h => h rfl) _ _)⟩ (fun W_25 hF_25 => ?_)
                    refine hK.out _ _ (fun h => absurd rfl h) (fun _ => ?_)
                    clear hK K
                    try simp only [Act.put, List.setIfInBounds_toArray]
                    refine wpAnyK_done (by kernel_rfl) ?_ _
                    obtain ⟨f1, f2, f3⟩ := hF_25
                    go_wp2_with fail
                    go_meet
                    exact ⟨_, A_24, c_24, rfl, Nat.le_refl _, f2.lt, f2, f3, f1⟩
                case rest =>
                  obtain ⟨gb, Ab, cb, rfl, _, _, hlx, htx, hbx⟩ := hcut
                  have hxb : Bx8 w wc gb xk xn xz xl Ab cb := ⟨hlx, htx, HX0.out.bw.trans (hbx.mono HX0.out.bw.size)⟩
                  have hx0 := HX0.out.step hbx
                  have hx1 := HX1.out.step hbx
                  have hx2 := HX2.out.step hbx
                  have hxa := HXa.out.step hbx
                  clear hlx htx hbx HSS HX0 HX1 HX2 HXa hg0t hg1t hg2t hgat HU4 HP4 HP5 HP6
                  go_upto_region 5 with fail
                  have hg0t := hx0.tin
                  have hg1t := hx1.tin
                  have hg2t := hx2.tin
                  have hgat := hxa.tin
                  have hgbt := hxb.tin
                  have HSS : Hid (∀ V', Below wc.heap.size wc V' → (fun V' : World => (V'.cell? ⟨g0, 0, none⟩ = some (.int .i64 tk) ∧ V'.cell? ⟨g0, 1, none⟩ = some (.int .i64 tn) ∧ V'.cell? ⟨g0, 2, none⟩ = some (.string tz) ∧ V'.cell? ⟨g0, 3, none⟩ = some (.slice A0 tl.length (capF tl.length c0)) ∧ V'.cell? ⟨g1, 0, none⟩ = some (.int .i64 sk) ∧ V'.cell? ⟨g1, 1, none⟩ = some (.int .i64 sn) ∧ V'.cell? ⟨g1, 2, none⟩ = some (.string sz) ∧ V'.cell? ⟨g1, 3, none⟩ = some (.slice A1 sl.length (capF sl.length c1)) ∧ V'.cell? ⟨g2, 0, none⟩ = some (.int .i64 rk) ∧ V'.cell? ⟨g2, 1, none⟩ = some (.int .i64 rn) ∧ V'.cell? ⟨g2, 2, none⟩ = some (.string rz) ∧ V'.cell? ⟨g2, 3, none⟩ = some (.slice A2 rl.length (capF rl.length c2)) ∧ V'.cell? ⟨ga, 0, none⟩ = some (.int .i64 xk) ∧ V'.cell? ⟨ga, 1, none⟩ = some (.int .i64 xn) ∧ V'.cell? ⟨ga, 2, none⟩ = some (.string xz) ∧ V'.cell? ⟨ga, 3, none⟩ = some (.slice Aa xl.length (capF xl.length ca)) ∧ V'.cell? ⟨gb, 0, none⟩ = some (.int .i64 xk) ∧ V'.cell? ⟨gb, 1, none⟩ = some (.int .i64 xn) ∧ V'.cell? ⟨gb, 2, none⟩ = some (.string xz) ∧ V'.cell? ⟨gb, 3, none⟩ = some (.slice Ab xl.length (capF xl.length cb)))) V') := Lib.hid fun V' h =>
                    ⟨(h.cell (p := ⟨g0, 0, none⟩) hx0.box.lt).trans (hx0.box.cell 0), (h.cell (p := ⟨g0, 1, none⟩) hx0.box.lt).trans (hx0.box.cell 1), (h.cell (p := ⟨g0, 2, none⟩) hx0.box.lt).trans (hx0.box.cell 2), (h.cell (p := ⟨g0, 3, none⟩) hx0.box.lt).trans (hx0.box.cell 3), (h.cell (p := ⟨g1, 0, none⟩) hx1.box.lt).trans (hx1.box.cell 0), (h.cell (p := ⟨g1, 1, none⟩) hx1.box.lt).trans (hx1.box.cell 1), (h.cell (p := ⟨g1, 2, none⟩) hx1.box.lt).trans (hx1.box.cell 2), (h.cell (p := ⟨g1, 3, none⟩) hx1.box.lt).trans (hx1.box.cell 3), (h.cell (p := ⟨g2, 0, none⟩) hx2.box.lt).trans (hx2.box.cell 0), (h.cell (p := ⟨g2, 1, none⟩) hx2.box.lt).trans (hx2.box.cell 1), (h.cell (p := ⟨g2, 2, none⟩) hx2.box.lt).trans (hx2.box.cell 2), (h.cell (p := ⟨g2, 3, none⟩) hx2.box.lt).trans (hx2.box.cell 3), (h.cell (p := ⟨ga, 0, none⟩) hxa.box.lt).trans (hxa.box.cell 0), (h.cell (p := ⟨ga, 1, none⟩) hxa.box.lt).trans (hxa.box.cell 1), (h.cell (p := ⟨ga, 2, none⟩) hxa.box.lt).trans (hxa.box.cell 2), (h.cell (p := ⟨ga, 3, none⟩) hxa.box.lt).trans (hxa.box.cell 3), (h.cell (p := ⟨gb, 0, none⟩) hxb.box.lt).trans (hxb.box.cell 0), (h.cell (p := ⟨gb, 1, none⟩) hxb.box.lt).trans (hxb.box.cell 1), (h.cell (p := ⟨gb, 2, none⟩) hxb.box.lt).trans (hxb.box.cell 2), (h.cell (p := ⟨gb, 3, none⟩) hxb.box.lt).trans (hxb.box.cell 3)⟩
                  have HX0 := Lib.hid hx0
                  have HX1 := Lib.hid hx1
                  have HX2 := Lib.hid hx2
                  have HXa := Lib.hid hxa
                  have HXb := Lib.hid hxb
                  clear hx0 hx1 hx2 hxa hxb
                  have HS1 : Hid (∀ X, Below wc.heap.size wc X → ∀ (A : Option Addr) (c : Nat) (hA : EIn X Any (.node xk xn xz xl) A) (B : Option Addr) (d : Nat) (hB : EIn X Any (.node xk xn xz xl) B), Calls Try.prog 12 #[.agg #[.int .i64 xk, .int .i64 xn, .string xz, .slice A xl.length (capF xl.length c)], .agg #[.int .i64 xk, .int .i64 xn, .string xz, .slice B xl.length (capF xl.length d)]] X fun e w' => e = .returned (.bool true) ∧ Below X.heap.size X w') := Lib.hid fun X hX A c hA B d hB => by
                    have h := rsame6_any (depthE (.node xk xn xz xl)) (.node xk xn xz xl) (.node xk xn xz xl) A B c d X (Nat.le_refl _) hA hB
                    rw [sameE_refl] at h
                    exact h
                  have HU1 : Hid (∀ X, Below wc.heap.size wc X → ∀ (A : Option Addr) (c : Nat) (hA : EIn X Any (.node tk tn tz tl) A), Calls Try.prog 13 #[.agg #[.int .i64 tk, .int .i64 tn, .string tz, .slice A tl.length (capF tl.length c)], .int .i64 1, .int .i64 0] X fun e w' => ∃ A c, e = .returned (.agg #[.int .i64 gk, .int .i64 gn, .string gz, .slice A gl.length (capF gl.length c)]) ∧ EIn w' Any (.node gk gn gz gl) A ∧ Below X.heap.size X w') := Lib.hid fun X hX A c hA => by
                    have h := up_any (.node tk tn tz tl) A c 1 0 X hA (by omega) (by omega) (tameE_mono (by omega) (by omega) _ hqt) (by omega) (by omega) (by omega) (by omega)
                    rw [← HP9.out] at h
                    exact h.mono fun e w' h => h.any
                  have HP1 : Hid (∀ X, Below wc.heap.size wc X → ∀ (A : Option Addr) (c : Nat) (hA : EIn X Any (.node gk gn gz gl) A) (B : Option Addr) (d : Nat) (hB : EIn X Any (.node sk sn sz sl) B), Calls Try.prog 15 #[.agg #[.int .i64 gk, .int .i64 gn, .string gz, .slice A gl.length (capF gl.length c)], .int .i64 0, .agg #[.int .i64 sk, .int .i64 sn, .string sz, .slice B sl.length (capF sl.length d)]] X fun e w' => ∃ A c, e = .returned (.agg #[.int .i64 tk, .int .i64 tn, .string tz, .slice A tl.length (capF tl.length c)]) ∧ EIn w' Any (.node tk tn tz tl) A ∧ Below X.heap.size X w') := Lib.hid fun X hX A c hA B d hB => by
                    have h := put_any (.node gk gn gz gl) (.node sk sn sz sl) A B c d 0 X hA (by omega) (by omega) (tameE_mono (by omega) (by omega) _ hqg) hB (by omega) (by omega) (tameE_mono (by omega) (by omega) _ hqs) (by omega) (by omega)
                    rw [HPT9.out] at h
                    exact h.mono fun e w' h => h.any
                  have HS2 : Hid (∀ X, Below wc.heap.size wc X → ∀ (A : Option Addr) (c : Nat) (hA : EIn X Any (.node tk tn tz tl) A) (B : Option Addr) (d : Nat) (hB : EIn X Any (.node tk tn tz tl) B), Calls Try.prog 12 #[.agg #[.int .i64 tk, .int .i64 tn, .string tz, .slice A tl.length (capF tl.length c)], .agg #[.int .i64 tk, .int .i64 tn, .string tz, .slice B tl.length (capF tl.length d)]] X fun e w' => e = .returned (.bool true) ∧ Below X.heap.size X w') := Lib.hid fun X hX A c hA B d hB => by
                    have h := rsame6_any (depthE (.node tk tn tz tl)) (.node tk tn tz tl) (.node tk tn tz tl) A B c d X (Nat.le_refl _) hA hB
                    rw [sameE_refl] at h
                    exact h
                  have HU2 : Hid (∀ X, Below wc.heap.size wc X → ∀ (A : Option Addr) (c : Nat) (hA : EIn X Any (.node tk tn tz tl) A), Calls Try.prog 13 #[.agg #[.int .i64 tk, .int .i64 tn, .string tz, .slice A tl.length (capF tl.length c)], .int .i64 1, .int .i64 2] X fun e w' => ∃ A c, e = .returned (.agg #[.int .i64 hk, .int .i64 hn, .string hz, .slice A hl.length (capF hl.length c)]) ∧ EIn w' Any (.node hk hn hz hl) A ∧ Below X.heap.size X w') := Lib.hid fun X hX A c hA => by
                    have h := up_any (.node tk tn tz tl) A c 1 2 X hA (by omega) (by omega) (tameE_mono (by omega) (by omega) _ hqt) (by omega) (by omega) (by omega) (by omega)
                    rw [← HO9.out] at h
                    exact h.mono fun e w' h => h.any
                  have HP2 : Hid (∀ X, Below wc.heap.size wc X → ∀ (A : Option Addr) (c : Nat) (hA : EIn X Any (.node hk hn hz hl) A) (B : Option Addr) (d : Nat) (hB : EIn X Any (.node sk sn sz sl) B), Calls Try.prog 15 #[.agg #[.int .i64 hk, .int .i64 hn, .string hz, .slice A hl.length (capF hl.length c)], .int .i64 2, .agg #[.int .i64 sk, .int .i64 sn, .string sz, .slice B sl.length (capF sl.length d)]] X fun e w' => ∃ A c, e = .returned (.agg #[.int .i64 tk, .int .i64 tn, .string tz, .slice A tl.length (capF tl.length c)]) ∧ EIn w' Any (.node tk tn tz tl) A ∧ Below X.heap.size X w') := Lib.hid fun X hX A c hA B d hB => by
                    have h := put_any (.node hk hn hz hl) (.node sk sn sz sl) A B c d 2 X hA (by omega) (by omega) (tameE_mono (by omega) (by omega) _ hqh) hB (by omega) (by omega) (tameE_mono (by omega) (by omega) _ hqs) (by omega) (by omega)
                    rw [HOT9.out] at h
                    exact h.mono fun e w' h => h.any
                  have HU3 : Hid (∀ X, Below wc.heap.size wc X → ∀ (A : Option Addr) (c : Nat) (hA : EIn X Any (.node tk tn tz tl) A), Calls Try.prog 13 #[.agg #[.int .i64 tk, .int .i64 tn, .string tz, .slice A tl.length (capF tl.length c)], .int .i64 0, .int .i64 0] X fun e w' => ∃ A c, e = .returned (.agg #[.int .i64 tk, .int .i64 tn, .string tz, .slice A tl.length (capF tl.length c)]) ∧ EIn w' Any (.node tk tn tz tl) A ∧ Below X.heap.size X w') := Lib.hid fun X hX A c hA => by
                    have h := up_any (.node tk tn tz tl) A c 0 0 X hA (by omega) (by omega) (tameE_mono (by omega) (by omega) _ hqt) (by omega) (by omega) (by omega) (by omega)
                    rw [HTT9.out] at h
                    exact h.mono fun e w' h => h.any
                  have hb_1 : Below wc.heap.size wc wc := Below.refl _ _
                  refine wp_region_K (S := (fun V' : World => (V'.cell? ⟨g0, 0, none⟩ = some (.int .i64 tk) ∧ V'.cell? ⟨g0, 1, none⟩ = some (.int .i64 tn) ∧ V'.cell? ⟨g0, 2, none⟩ = some (.string tz) ∧ V'.cell? ⟨g0, 3, none⟩ = some (.slice A0 tl.length (capF tl.length c0)) ∧ V'.cell? ⟨g1, 0, none⟩ = some (.int .i64 sk) ∧ V'.cell? ⟨g1, 1, none⟩ = some (.int .i64 sn) ∧ V'.cell? ⟨g1, 2, none⟩ = some (.string sz) ∧ V'.cell? ⟨g1, 3, none⟩ = some (.slice A1 sl.length (capF sl.length c1)) ∧ V'.cell? ⟨g2, 0, none⟩ = some (.int .i64 rk) ∧ V'.cell? ⟨g2, 1, none⟩ = some (.int .i64 rn) ∧ V'.cell? ⟨g2, 2, none⟩ = some (.string rz) ∧ V'.cell? ⟨g2, 3, none⟩ = some (.slice A2 rl.length (capF rl.length c2)) ∧ V'.cell? ⟨ga, 0, none⟩ = some (.int .i64 xk) ∧ V'.cell? ⟨ga, 1, none⟩ = some (.int .i64 xn) ∧ V'.cell? ⟨ga, 2, none⟩ = some (.string xz) ∧ V'.cell? ⟨ga, 3, none⟩ = some (.slice Aa xl.length (capF xl.length ca)) ∧ V'.cell? ⟨gb, 0, none⟩ = some (.int .i64 xk) ∧ V'.cell? ⟨gb, 1, none⟩ = some (.int .i64 xn) ∧ V'.cell? ⟨gb, 2, none⟩ = some (.string xz) ∧ V'.cell? ⟨gb, 3, none⟩ = some (.slice Ab xl.length (capF xl.length cb))))) 25 rfl (HSS.out _ hb_1.drew) (fun hSs => ?_)
                  change wpAnyK _ _ _ _ _ _ 26 (Array.replicate 26 false) _ _
                  refine wpAnyK_take (i := 0) (oi := ⟨some 55, _, _, _, _, _⟩) (v := .agg #[.int .i64 xk, .int .i64 xn, .string xz, .slice Aa xl.length (capF xl.length ca)]) rfl (by kernel_rfl) (by kernel_rfl) (by kernel_rfl) (by kernel_rfl) (fun _ _ _ h => h) (.inl ⟨by kernel_rfl, fun W hW => by first | (obtain ⟨z0, z1, z2, z3, z4, z5, z6, z7, z8, z9, z10, z11, z12, z13, z14, z15, z16, z17, z18, z19⟩ := hW; go_simp; done) | (obtain ⟨z0, z1, z2, z3, z4, z5, z6, z7, z8, z9, z10, z11, z12, z13, z14, z15, z16, z17, z18, z19⟩ := hW; go_simp; omega) | (obtain ⟨z0, z1, z2, z3, z4, z5, z6, z7, z8, z9, z10, z11, z12, z13, z14, z15, z16, z17, z18, z19⟩ := hW; go_simp; exact IntWalk.i64_in _ (by omega)) | (obtain ⟨z0, z1, z2, z3, z4, z5, z6, z7, z8, z9, z10, z11, z12, z13, z14, z15, z16, z17, z18, z19⟩ := hW; go_simp; simp [*]; done)⟩) hSs ?_
                  try simp only [Act.put, List.setIfInBounds_toArray, List.set_cons_zero, List.set_cons_succ]
                  refine wpAnyK_take (i := 1) (oi := ⟨some 56, _, _, _, _, _⟩) (v := .agg #[.int .i64 xk, .int .i64 xn, .string xz, .slice Ab xl.length (capF xl.length cb)]) rfl (by kernel_rfl) (by kernel_rfl) (by kernel_rfl) (by kernel_rfl) (fun _ _ _ h => h) (.inl ⟨by kernel_rfl, fun W hW => by first | (obtain ⟨z0, z1, z2, z3, z4, z5, z6, z7, z8, z9, z10, z11, z12, z13, z14, z15, z16, z17, z18, z19⟩ := hW; go_simp; done) | (obtain ⟨z0, z1, z2, z3, z4, z5, z6, z7, z8, z9, z10, z11, z12, z13, z14, z15, z16, z17, z18, z19⟩ := hW; go_simp; omega) | (obtain ⟨z0, z1, z2, z3, z4, z5, z6, z7, z8, z9, z10, z11, z12, z13, z14, z15, z16, z17, z18, z19⟩ := hW; go_simp; exact IntWalk.i64_in _ (by omega)) | (obtain ⟨z0, z1, z2, z3, z4, z5, z6, z7, z8, z9, z10, z11, z12, z13, z14, z15, z16, z17, z18, z19⟩ := hW; go_simp; simp [*]; done)⟩) hSs ?_
                  try simp only [Act.put, List.setIfInBounds_toArray, List.set_cons_zero, List.set_cons_succ]
                  refine wpAnyK_one (i := 2) rfl rfl (by kernel_rfl) (fun K hK => ?_)
                  go_simp
                  refine (HS1.out _ (hb_1.drew) Aa ca (EIn.below _ hgat (Below.refl _ _).drew (Nat.le_refl _)) Ab cb (EIn.below _ hgbt (Below.refl _ _).drew (Nat.le_refl _))).mono ?_
                  rintro e u_2 ⟨rfl, hq_2⟩
                  have hb_2 := (hb_1.drew).trans (hq_2.mono (hb_1.drew).size)
                  have hg0t_2 := EIn.below _ (EIn.below _ hg0t (Below.refl _ _).drew (Nat.le_refl _)) hq_2 (Nat.le_refl _)
                  have hg1t_2 := EIn.below _ (EIn.below _ hg1t (Below.refl _ _).drew (Nat.le_refl _)) hq_2 (Nat.le_refl _)
                  have hg2t_2 := EIn.below _ (EIn.below _ hg2t (Below.refl _ _).drew (Nat.le_refl _)) hq_2 (Nat.le_refl _)
                  have hgat_2 := EIn.below _ (EIn.below _ hgat (Below.refl _ _).drew (Nat.le_refl _)) hq_2 (Nat.le_refl _)
                  have hgbt_2 := EIn.below _ (EIn.below _ hgbt (Below.refl _ _).drew (Nat.le_refl _)) hq_2 (Nat.le_refl _)
                  clear hg0t hg1t hg2t hgat hgbt
                  refine hK.out _ _ (fun _ => HSS.out _ hb_2) (fun hS9 => ?_)
                  have hS_2 := hS9 (by decide)
                  clear hK K hS9
                  try simp only [Act.put, List.setIfInBounds_toArray, List.set_cons_zero, List.set_cons_succ]
                  refine wpAnyK_take (i := 3) (oi := ⟨some 58, _, _, _, _, _⟩) (v := .bool true) rfl (by kernel_rfl) (by kernel_rfl) (by kernel_rfl) (by kernel_rfl) (fun _ _ _ h => h) (.inl ⟨by kernel_rfl, fun W hW => by kernel_rfl⟩) hS_2 ?_
                  try simp only [Act.put, List.setIfInBounds_toArray, List.set_cons_zero, List.set_cons_succ]
                  refine wpAnyK_take (i := 4) (oi := ⟨some 59, _, _, _, _, _⟩) (v := .agg #[.int .i64 tk, .int .i64 tn, .string tz, .slice A0 tl.length (capF tl.length c0)]) rfl (by kernel_rfl) (by kernel_rfl) (by kernel_rfl) (by kernel_rfl) (fun _ _ _ h => h) (.inl ⟨by kernel_rfl, fun W hW => by first | (obtain ⟨z0, z1, z2, z3, z4, z5, z6, z7, z8, z9, z10, z11, z12, z13, z14, z15, z16, z17, z18, z19⟩ := hW; go_simp; done) | (obtain ⟨z0, z1, z2, z3, z4, z5, z6, z7, z8, z9, z10, z11, z12, z13, z14, z15, z16, z17, z18, z19⟩ := hW; go_simp; omega) | (obtain ⟨z0, z1, z2, z3, z4, z5, z6, z7, z8, z9, z10, z11, z12, z13, z14, z15, z16, z17, z18, z19⟩ := hW; go_simp; exact IntWalk.i64_in _ (by omega)) | (obtain ⟨z0, z1, z2, z3, z4, z5, z6, z7, z8, z9, z10, z11, z12, z13, z14, z15, z16, z17, z18, z19⟩ := hW; go_simp; simp [*]; done)⟩) hS_2 ?_
                  try simp only [Act.put, List.setIfInBounds_toArray, List.set_cons_zero, List.set_cons_succ]
                  refine wpAnyK_take (i := 6) (oi := ⟨some 61, _, _, _, _, _⟩) (v := .agg #[.int .i64 sk, .int .i64 sn, .string sz, .slice A1 sl.length (capF sl.length c1)]) rfl (by kernel_rfl) (by kernel_rfl) (by kernel_rfl) (by kernel_rfl) (fun _ _ _ h => h) (.inl ⟨by kernel_rfl, fun W hW => by first | (obtain ⟨z0, z1, z2, z3, z4, z5, z6, z7, z8, z9, z10, z11, z12, z13, z14, z15, z16, z17, z18, z19⟩ := hW; go_simp; done) | (obtain ⟨z0, z1, z2, z3, z4, z5, z6, z7, z8, z9, z10, z11, z12, z13, z14, z15, z16, z17, z18, z19⟩ := hW; go_simp; omega) | (obtain ⟨z0, z1, z2, z3, z4, z5, z6, z7, z8, z9, z10, z11, z12, z13, z14, z15, z16, z17, z18, z19⟩ := hW; go_simp; exact IntWalk.i64_in _ (by omega)) | (obtain ⟨z0, z1, z2, z3, z4, z5, z6, z7, z8, z9, z10, z11, z12, z13, z14, z15, z16, z17, z18, z19⟩ := hW; go_simp; simp [*]; done)⟩) hS_2 ?_
                  try simp only [Act.put, List.setIfInBounds_toArray, List.set_cons_zero, List.set_cons_succ]
                  refine wpAnyK_take (i := 8) (oi := ⟨some 63, _, _, _, _, _⟩) (v := .agg #[.int .i64 tk, .int .i64 tn, .string tz, .slice A0 tl.length (capF tl.length c0)]) rfl (by kernel_rfl) (by kernel_rfl) (by kernel_rfl) (by kernel_rfl) (fun _ _ _ h => h) (.inl ⟨by kernel_rfl, fun W hW => by first | (obtain ⟨z0, z1, z2, z3, z4, z5, z6, z7, z8, z9, z10, z11, z12, z13, z14, z15, z16, z17, z18, z19⟩ := hW; go_simp; done) | (obtain ⟨z0, z1, z2, z3, z4, z5, z6, z7, z8, z9, z10, z11, z12, z13, z14, z15, z16, z17, z18, z19⟩ := hW; go_simp; omega) | (obtain ⟨z0, z1, z2, z3, z4, z5, z6, z7, z8, z9, z10, z11, z12, z13, z14, z15, z16, z17, z18, z19⟩ := hW; go_simp; exact IntWalk.i64_in _ (by omega)) | (obtain ⟨z0, z1, z2, z3, z4, z5, z6, z7, z8, z9, z10, z11, z12, z13, z14, z15, z16, z17, z18, z19⟩ := hW; go_simp; simp [*]; done)⟩) hS_2 ?_
                  try simp only [Act.put, List.setIfInBounds_toArray, List.set_cons_zero, List.set_cons_succ]
                  refine wpAnyK_oneW (i := 5) rfl (by kernel_rfl) (by kernel_rfl) (fun K hK => ?_)
                  go_simp
                  refine (HU1.out _ hb_2 A0 c0 hg0t_2).mono ?_
                  rintro e u_3 ⟨A_3, c_3, rfl, hT_3, hq_3⟩
                  have hb_3 := hb_2.trans (hq_3.mono hb_2.size)
                  have hg0t_2_3 := EIn.below _ hg0t_2 hq_3 (Nat.le_refl _)
                  have hg1t_2_3 := EIn.below _ hg1t_2 hq_3 (Nat.le_refl _)
                  have hg2t_2_3 := EIn.below _ hg2t_2 hq_3 (Nat.le_refl _)
                  have hgat_2_3 := EIn.below _ hgat_2 hq_3 (Nat.le_refl _)
                  have hgbt_2_3 := EIn.below _ hgbt_2 hq_3 (Nat.le_refl _)
                  clear hg0t_2 hg1t_2 hg2t_2 hgat_2 hgbt_2
                  refine hK.out _ _ (fun _ => HSS.out _ hb_3) (fun hS9 => ?_)
                  have hS_3 := hS9 (by decide)
                  clear hK K hS9
                  try simp only [Act.put, List.setIfInBounds_toArray, List.set_cons_zero, List.set_cons_succ]
                  refine wpAnyK_oneW (i := 7) rfl (by kernel_rfl) (by kernel_rfl) (fun K hK => ?_)
                  go_simp
                  refine (HP1.out _ hb_3 A_3 c_3 hT_3 A1 c1 hg1t_2_3).mono ?_
                  rintro e u_4 ⟨A_4, c_4, rfl, hT_4, hq_4⟩
                  have hb_4 := hb_3.trans (hq_4.mono hb_3.size)
                  have hg0t_2_3_4 := EIn.below _ hg0t_2_3 hq_4 (Nat.le_refl _)
                  have hg1t_2_3_4 := EIn.below _ hg1t_2_3 hq_4 (Nat.le_refl _)
                  have hg2t_2_3_4 := EIn.below _ hg2t_2_3 hq_4 (Nat.le_refl _)
                  have hgat_2_3_4 := EIn.below _ hgat_2_3 hq_4 (Nat.le_refl _)
                  have hgbt_2_3_4 := EIn.below _ hgbt_2_3 hq_4 (Nat.le_refl _)
                  have hT_3_4 := EIn.below _ hT_3 hq_4 (Nat.le_refl _)
                  clear hg0t_2_3 hg1t_2_3 hg2t_2_3 hgat_2_3 hgbt_2_3 hT_3
                  refine hK.out _ _ (fun _ => HSS.out _ hb_4) (fun hS9 => ?_)
                  have hS_4 := hS9 (by decide)
                  clear hK K hS9
                  try simp only [Act.put, List.setIfInBounds_toArray, List.set_cons_zero, List.set_cons_succ]
                  refine wpAnyK_oneW (i := 9) rfl (by kernel_rfl) (by kernel_rfl) (fun K hK => ?_)
                  go_simp
                  refine (HS2.out _ hb_4 A_4 c_4 hT_4 A0 c0 hg0t_2_3_4).mono ?_
                  rintro e u_5 ⟨rfl, hq_5⟩
                  have hb_5 := hb_4.trans (hq_5.mono hb_4.size)
                  have hg0t_2_3_4_5 := EIn.below _ hg0t_2_3_4 hq_5 (Nat.le_refl _)
                  have hg1t_2_3_4_5 := EIn.below _ hg1t_2_3_4 hq_5 (Nat.le_refl _)
                  have hg2t_2_3_4_5 := EIn.below _ hg2t_2_3_4 hq_5 (Nat.le_refl _)
                  have hgat_2_3_4_5 := EIn.below _ hgat_2_3_4 hq_5 (Nat.le_refl _)
                  have hgbt_2_3_4_5 := EIn.below _ hgbt_2_3_4 hq_5 (Nat.le_refl _)
                  have hT_3_4_5 := EIn.below _ hT_3_4 hq_5 (Nat.le_refl _)
                  have hT_4_5 := EIn.below _ hT_4 hq_5 (Nat.le_refl _)
                  clear hg0t_2_3_4 hg1t_2_3_4 hg2t_2_3_4 hgat_2_3_4 hgbt_2_3_4 hT_3_4 hT_4
                  refine hK.out _ _ (fun _ => HSS.out _ hb_5) (fun hS9 => ?_)
                  have hS_5 := hS9 (by decide)
                  clear hK K hS9
                  try simp only [Act.put, List.setIfInBounds_toArray, List.set_cons_zero, List.set_cons_succ]
                  refine wpAnyK_take (i := 10) (oi := ⟨some 65, _, _, _, _, _⟩) (v := .bool true) rfl (by kernel_rfl) (by kernel_rfl) (by kernel_rfl) (by kernel_rfl) (fun _ _ _ h => h) (.inl ⟨by kernel_rfl, fun W hW => by kernel_rfl⟩) hS_5 ?_
                  try simp only [Act.put, List.setIfInBounds_toArray, List.set_cons_zero, List.set_cons_succ]
                  refine wpAnyK_take (i := 11) (oi := ⟨some 66, _, _, _, _, _⟩) (v := .bool true) rfl (by kernel_rfl) (by kernel_rfl) (by kernel_rfl) (by kernel_rfl) (fun _ _ _ h => h) (.inl ⟨by kernel_rfl, fun W hW => by kernel_rfl⟩) hS_5 ?_
                  try simp only [Act.put, List.setIfInBounds_toArray, List.set_cons_zero, List.set_cons_succ]
                  refine wpAnyK_take (i := 12) (oi := ⟨some 67, _, _, _, _, _⟩) (v := .agg #[.int .i64 tk, .int .i64 tn, .string tz, .slice A0 tl.length (capF tl.length c0)]) rfl (by kernel_rfl) (by kernel_rfl) (by kernel_rfl) (by kernel_rfl) (fun _ _ _ h => h) (.inl ⟨by kernel_rfl, fun W hW => by first | (obtain ⟨z0, z1, z2, z3, z4, z5, z6, z7, z8, z9, z10, z11, z12, z13, z14, z15, z16, z17, z18, z19⟩ := hW; go_simp; done) | (obtain ⟨z0, z1, z2, z3, z4, z5, z6, z7, z8, z9, z10, z11, z12, z13, z14, z15, z16, z17, z18, z19⟩ := hW; go_simp; omega) | (obtain ⟨z0, z1, z2, z3, z4, z5, z6, z7, z8, z9, z10, z11, z12, z13, z14, z15, z16, z17, z18, z19⟩ := hW; go_simp; exact IntWalk.i64_in _ (by omega)) | (obtain ⟨z0, z1, z2, z3, z4, z5, z6, z7, z8, z9, z10, z11, z12, z13, z14, z15, z16, z17, z18, z19⟩ := hW; go_simp; simp [*]; done)⟩) hS_5 ?_
                  try simp only [Act.put, List.setIfInBounds_toArray, List.set_cons_zero, List.set_cons_succ]
                  refine wpAnyK_take (i := 14) (oi := ⟨some 69, _, _, _, _, _⟩) (v := .agg #[.int .i64 sk, .int .i64 sn, .string sz, .slice A1 sl.length (capF sl.length c1)]) rfl (by kernel_rfl) (by kernel_rfl) (by kernel_rfl) (by kernel_rfl) (fun _ _ _ h => h) (.inl ⟨by kernel_rfl, fun W hW => by first | (obtain ⟨z0, z1, z2, z3, z4, z5, z6, z7, z8, z9, z10, z11, z12, z13, z14, z15, z16, z17, z18, z19⟩ := hW; go_simp; done) | (obtain ⟨z0, z1, z2, z3, z4, z5, z6, z7, z8, z9, z10, z11, z12, z13, z14, z15, z16, z17, z18, z19⟩ := hW; go_simp; omega) | (obtain ⟨z0, z1, z2, z3, z4, z5, z6, z7, z8, z9, z10, z11, z12, z13, z14, z15, z16, z17, z18, z19⟩ := hW; go_simp; exact IntWalk.i64_in _ (by omega)) | (obtain ⟨z0, z1, z2, z3, z4, z5, z6, z7, z8, z9, z10, z11, z12, z13, z14, z15, z16, z17, z18, z19⟩ := hW; go_simp; simp [*]; done)⟩) hS_5 ?_
                  try simp only [Act.put, List.setIfInBounds_toArray, List.set_cons_zero, List.set_cons_succ]
                  refine wpAnyK_take (i := 16) (oi := ⟨some 71, _, _, _, _, _⟩) (v := .agg #[.int .i64 tk, .int .i64 tn, .string tz, .slice A0 tl.length (capF tl.length c0)]) rfl (by kernel_rfl) (by kernel_rfl) (by kernel_rfl) (by kernel_rfl) (fun _ _ _ h => h) (.inl ⟨by kernel_rfl, fun W hW => by first | (obtain ⟨z0, z1, z2, z3, z4, z5, z6, z7, z8, z9, z10, z11, z12, z13, z14, z15, z16, z17, z18, z19⟩ := hW; go_simp; done) | (obtain ⟨z0, z1, z2, z3, z4, z5, z6, z7, z8, z9, z10, z11, z12, z13, z14, z15, z16, z17, z18, z19⟩ := hW; go_simp; omega) | (obtain ⟨z0, z1, z2, z3, z4, z5, z6, z7, z8, z9, z10, z11, z12, z13, z14, z15, z16, z17, z18, z19⟩ := hW; go_simp; exact IntWalk.i64_in _ (by omega)) | (obtain ⟨z0, z1, z2, z3, z4, z5, z6, z7, z8, z9, z10, z11, z12, z13, z14, z15, z16, z17, z18, z19⟩ := hW; go_simp; simp [*]; done)⟩) hS_5 ?_
                  try simp only [Act.put, List.setIfInBounds_toArray, List.set_cons_zero, List.set_cons_succ]
                  refine wpAnyK_oneW (i := 13) rfl (by kernel_rfl) (by kernel_rfl) (fun K hK => ?_)
                  go_simp
                  refine (HU2.out _ hb_5 A0 c0 hg0t_2_3_4_5).mono ?_
                  rintro e u_6 ⟨A_6, c_6, rfl, hT_6, hq_6⟩
                  have hb_6 := hb_5.trans (hq_6.mono hb_5.size)
                  have hg0t_2_3_4_5_6 := EIn.below _ hg0t_2_3_4_5 hq_6 (Nat.le_refl _)
                  have hg1t_2_3_4_5_6 := EIn.below _ hg1t_2_3_4_5 hq_6 (Nat.le_refl _)
                  have hg2t_2_3_4_5_6 := EIn.below _ hg2t_2_3_4_5 hq_6 (Nat.le_refl _)
                  have hgat_2_3_4_5_6 := EIn.below _ hgat_2_3_4_5 hq_6 (Nat.le_refl _)
                  have hgbt_2_3_4_5_6 := EIn.below _ hgbt_2_3_4_5 hq_6 (Nat.le_refl _)
                  have hT_3_4_5_6 := EIn.below _ hT_3_4_5 hq_6 (Nat.le_refl _)
                  have hT_4_5_6 := EIn.below _ hT_4_5 hq_6 (Nat.le_refl _)
                  clear hg0t_2_3_4_5 hg1t_2_3_4_5 hg2t_2_3_4_5 hgat_2_3_4_5 hgbt_2_3_4_5 hT_3_4_5 hT_4_5
                  refine hK.out _ _ (fun _ => HSS.out _ hb_6) (fun hS9 => ?_)
                  have hS_6 := hS9 (by decide)
                  clear hK K hS9
                  try simp only [Act.put, List.setIfInBounds_toArray, List.set_cons_zero, List.set_cons_succ]
                  refine wpAnyK_oneW (i := 15) rfl (by kernel_rfl) (by kernel_rfl) (fun K hK => ?_)
                  go_simp
                  refine (HP2.out _ hb_6 A_6 c_6 hT_6 A1 c1 hg1t_2_3_4_5_6).mono ?_
                  rintro e u_7 ⟨A_7, c_7, rfl, hT_7, hq_7⟩
                  have hb_7 := hb_6.trans (hq_7.mono hb_6.size)
                  have hg0t_2_3_4_5_6_7 := EIn.below _ hg0t_2_3_4_5_6 hq_7 (Nat.le_refl _)
                  have hg1t_2_3_4_5_6_7 := EIn.below _ hg1t_2_3_4_5_6 hq_7 (Nat.le_refl _)
                  have hg2t_2_3_4_5_6_7 := EIn.below _ hg2t_2_3_4_5_6 hq_7 (Nat.le_refl _)
                  have hgat_2_3_4_5_6_7 := EIn.below _ hgat_2_3_4_5_6 hq_7 (Nat.le_refl _)
                  have hgbt_2_3_4_5_6_7 := EIn.below _ hgbt_2_3_4_5_6 hq_7 (Nat.le_refl _)
                  have hT_3_4_5_6_7 := EIn.below _ hT_3_4_5_6 hq_7 (Nat.le_refl _)
                  have hT_4_5_6_7 := EIn.below _ hT_4_5_6 hq_7 (Nat.le_refl _)
                  have hT_6_7 := EIn.below _ hT_6 hq_7 (Nat.le_refl _)
                  clear hg0t_2_3_4_5_6 hg1t_2_3_4_5_6 hg2t_2_3_4_5_6 hgat_2_3_4_5_6 hgbt_2_3_4_5_6 hT_3_4_5_6 hT_4_5_6 hT_6
                  refine hK.out _ _ (fun _ => HSS.out _ hb_7) (fun hS9 => ?_)
                  have hS_7 := hS9 (by decide)
                  clear hK K hS9
                  try simp only [Act.put, List.setIfInBounds_toArray, List.set_cons_zero, List.set_cons_succ]
                  refine wpAnyK_oneW (i := 17) rfl (by kernel_rfl) (by kernel_rfl) (fun K hK => ?_)
                  go_simp
                  refine (HS2.out _ hb_7 A_7 c_7 hT_7 A0 c0 hg0t_2_3_4_5_6_7).mono ?_
                  rintro e u_8 ⟨rfl, hq_8⟩
                  have hb_8 := hb_7.trans (hq_8.mono hb_7.size)
                  have hg0t_2_3_4_5_6_7_8 := EIn.below _ hg0t_2_3_4_5_6_7 hq_8 (Nat.le_refl _)
                  have hg1t_2_3_4_5_6_7_8 := EIn.below _ hg1t_2_3_4_5_6_7 hq_8 (Nat.le_refl _)
                  have hg2t_2_3_4_5_6_7_8 := EIn.below _ hg2t_2_3_4_5_6_7 hq_8 (Nat.le_refl _)
                  have hgat_2_3_4_5_6_7_8 := EIn.below _ hgat_2_3_4_5_6_7 hq_8 (Nat.le_refl _)
                  have hgbt_2_3_4_5_6_7_8 := EIn.below _ hgbt_2_3_4_5_6_7 hq_8 (Nat.le_refl _)
                  have hT_3_4_5_6_7_8 := EIn.below _ hT_3_4_5_6_7 hq_8 (Nat.le_refl _)
                  have hT_4_5_6_7_8 := EIn.below _ hT_4_5_6_7 hq_8 (Nat.le_refl _)
                  have hT_6_7_8 := EIn.below _ hT_6_7 hq_8 (Nat.le_refl _)
                  have hT_7_8 := EIn.below _ hT_7 hq_8 (Nat.le_refl _)
                  clear hg0t_2_3_4_5_6_7 hg1t_2_3_4_5_6_7 hg2t_2_3_4_5_6_7 hgat_2_3_4_5_6_7 hgbt_2_3_4_5_6_7 hT_3_4_5_6_7 hT_4_5_6_7 hT_6_7 hT_7
                  refine hK.out _ _ (fun _ => HSS.out _ hb_8) (fun hS9 => ?_)
                  have hS_8 := hS9 (by decide)
                  clear hK K hS9
                  try simp only [Act.put, List.setIfInBounds_toArray, List.set_cons_zero, List.set_cons_succ]
                  refine wpAnyK_take (i := 18) (oi := ⟨some 73, _, _, _, _, _⟩) (v := .bool true) rfl (by kernel_rfl) (by kernel_rfl) (by kernel_rfl) (by kernel_rfl) (fun _ _ _ h => h) (.inl ⟨by kernel_rfl, fun W hW => by kernel_rfl⟩) hS_8 ?_
                  try simp only [Act.put, List.setIfInBounds_toArray, List.set_cons_zero, List.set_cons_succ]
                  refine wpAnyK_take (i := 19) (oi := ⟨some 74, _, _, _, _, _⟩) (v := .bool true) rfl (by kernel_rfl) (by kernel_rfl) (by kernel_rfl) (by kernel_rfl) (fun _ _ _ h => h) (.inl ⟨by kernel_rfl, fun W hW => by kernel_rfl⟩) hS_8 ?_
                  try simp only [Act.put, List.setIfInBounds_toArray, List.set_cons_zero, List.set_cons_succ]
                  refine wpAnyK_take (i := 20) (oi := ⟨some 75, _, _, _, _, _⟩) (v := .agg #[.int .i64 tk, .int .i64 tn, .string tz, .slice A0 tl.length (capF tl.length c0)]) rfl (by kernel_rfl) (by kernel_rfl) (by kernel_rfl) (by kernel_rfl) (fun _ _ _ h => h) (.inl ⟨by kernel_rfl, fun W hW => by first | (obtain ⟨z0, z1, z2, z3, z4, z5, z6, z7, z8, z9, z10, z11, z12, z13, z14, z15, z16, z17, z18, z19⟩ := hW; go_simp; done) | (obtain ⟨z0, z1, z2, z3, z4, z5, z6, z7, z8, z9, z10, z11, z12, z13, z14, z15, z16, z17, z18, z19⟩ := hW; go_simp; omega) | (obtain ⟨z0, z1, z2, z3, z4, z5, z6, z7, z8, z9, z10, z11, z12, z13, z14, z15, z16, z17, z18, z19⟩ := hW; go_simp; exact IntWalk.i64_in _ (by omega)) | (obtain ⟨z0, z1, z2, z3, z4, z5, z6, z7, z8, z9, z10, z11, z12, z13, z14, z15, z16, z17, z18, z19⟩ := hW; go_simp; simp [*]; done)⟩) hS_8 ?_
                  try simp only [Act.put, List.setIfInBounds_toArray, List.set_cons_zero, List.set_cons_succ]
                  refine wpAnyK_take (i := 22) (oi := ⟨some 77, _, _, _, _, _⟩) (v := .agg #[.int .i64 tk, .int .i64 tn, .string tz, .slice A0 tl.length (capF tl.length c0)]) rfl (by kernel_rfl) (by kernel_rfl) (by kernel_rfl) (by kernel_rfl) (fun _ _ _ h => h) (.inl ⟨by kernel_rfl, fun W hW => by first | (obtain ⟨z0, z1, z2, z3, z4, z5, z6, z7, z8, z9, z10, z11, z12, z13, z14, z15, z16, z17, z18, z19⟩ := hW; go_simp; done) | (obtain ⟨z0, z1, z2, z3, z4, z5, z6, z7, z8, z9, z10, z11, z12, z13, z14, z15, z16, z17, z18, z19⟩ := hW; go_simp; omega) | (obtain ⟨z0, z1, z2, z3, z4, z5, z6, z7, z8, z9, z10, z11, z12, z13, z14, z15, z16, z17, z18, z19⟩ := hW; go_simp; exact IntWalk.i64_in _ (by omega)) | (obtain ⟨z0, z1, z2, z3, z4, z5, z6, z7, z8, z9, z10, z11, z12, z13, z14, z15, z16, z17, z18, z19⟩ := hW; go_simp; simp [*]; done)⟩) hS_8 ?_
                  try simp only [Act.put, List.setIfInBounds_toArray, List.set_cons_zero, List.set_cons_succ]
                  refine wpAnyK_oneW (i := 21) rfl (by kernel_rfl) (by kernel_rfl) (fun K hK => ?_)
                  go_simp
                  refine (HU3.out _ hb_8 A0 c0 hg0t_2_3_4_5_6_7_8).mono ?_
                  rintro e u_9 ⟨A_9, c_9, rfl, hT_9, hq_9⟩
                  have hb_9 := hb_8.trans (hq_9.mono hb_8.size)
                  have hg0t_2_3_4_5_6_7_8_9 := EIn.below _ hg0t_2_3_4_5_6_7_8 hq_9 (Nat.le_refl _)
                  have hg1t_2_3_4_5_6_7_8_9 := EIn.below _ hg1t_2_3_4_5_6_7_8 hq_9 (Nat.le_refl _)
                  have hg2t_2_3_4_5_6_7_8_9 := EIn.below _ hg2t_2_3_4_5_6_7_8 hq_9 (Nat.le_refl _)
                  have hgat_2_3_4_5_6_7_8_9 := EIn.below _ hgat_2_3_4_5_6_7_8 hq_9 (Nat.le_refl _)
                  have hgbt_2_3_4_5_6_7_8_9 := EIn.below _ hgbt_2_3_4_5_6_7_8 hq_9 (Nat.le_refl _)
                  have hT_3_4_5_6_7_8_9 := EIn.below _ hT_3_4_5_6_7_8 hq_9 (Nat.le_refl _)
                  have hT_4_5_6_7_8_9 := EIn.below _ hT_4_5_6_7_8 hq_9 (Nat.le_refl _)
                  have hT_6_7_8_9 := EIn.below _ hT_6_7_8 hq_9 (Nat.le_refl _)
                  have hT_7_8_9 := EIn.below _ hT_7_8 hq_9 (Nat.le_refl _)
                  clear hg0t_2_3_4_5_6_7_8 hg1t_2_3_4_5_6_7_8 hg2t_2_3_4_5_6_7_8 hgat_2_3_4_5_6_7_8 hgbt_2_3_4_5_6_7_8 hT_3_4_5_6_7_8 hT_4_5_6_7_8 hT_6_7_8 hT_7_8
                  refine hK.out _ _ (fun _ => HSS.out _ hb_9) (fun hS9 => ?_)
                  have hS_9 := hS9 (by decide)
                  clear hK K hS9
                  try simp only [Act.put, List.setIfInBounds_toArray, List.set_cons_zero, List.set_cons_succ]
                  refine wpAnyK_oneW (i := 23) rfl (by kernel_rfl) (by kernel_rfl) (fun K hK => ?_)
                  go_simp
                  refine (HS2.out _ hb_9 A_9 c_9 hT_9 A0 c0 hg0t_2_3_4_5_6_7_8_9).mono ?_
                  rintro e u_10 ⟨rfl, hq_10⟩
                  have hb_10 := hb_9.trans (hq_10.mono hb_9.size)
                  have hg0t_2_3_4_5_6_7_8_9_10 := EIn.below _ hg0t_2_3_4_5_6_7_8_9 hq_10 (Nat.le_refl _)
                  have hg1t_2_3_4_5_6_7_8_9_10 := EIn.below _ hg1t_2_3_4_5_6_7_8_9 hq_10 (Nat.le_refl _)
                  have hg2t_2_3_4_5_6_7_8_9_10 := EIn.below _ hg2t_2_3_4_5_6_7_8_9 hq_10 (Nat.le_refl _)
                  have hgat_2_3_4_5_6_7_8_9_10 := EIn.below _ hgat_2_3_4_5_6_7_8_9 hq_10 (Nat.le_refl _)
                  have hgbt_2_3_4_5_6_7_8_9_10 := EIn.below _ hgbt_2_3_4_5_6_7_8_9 hq_10 (Nat.le_refl _)
                  have hT_3_4_5_6_7_8_9_10 := EIn.below _ hT_3_4_5_6_7_8_9 hq_10 (Nat.le_refl _)
                  have hT_4_5_6_7_8_9_10 := EIn.below _ hT_4_5_6_7_8_9 hq_10 (Nat.le_refl _)
                  have hT_6_7_8_9_10 := EIn.below _ hT_6_7_8_9 hq_10 (Nat.le_refl _)
                  have hT_7_8_9_10 := EIn.below _ hT_7_8_9 hq_10 (Nat.le_refl _)
                  have hT_9_10 := EIn.below _ hT_9 hq_10 (Nat.le_refl _)
                  clear hg0t_2_3_4_5_6_7_8_9 hg1t_2_3_4_5_6_7_8_9 hg2t_2_3_4_5_6_7_8_9 hgat_2_3_4_5_6_7_8_9 hgbt_2_3_4_5_6_7_8_9 hT_3_4_5_6_7_8_9 hT_4_5_6_7_8_9 hT_6_7_8_9 hT_7_8_9 hT_9
                  refine hK.out _ _ (fun _ => HSS.out _ hb_10) (fun hS9 => ?_)
                  have hS_10 := hS9 (by decide)
                  clear hK K hS9
                  try simp only [Act.put, List.setIfInBounds_toArray, List.set_cons_zero, List.set_cons_succ]
                  refine wpAnyK_take (i := 24) (oi := ⟨some 79, _, _, _, _, _⟩) (v := .bool true) rfl (by kernel_rfl) (by kernel_rfl) (by kernel_rfl) (by kernel_rfl) (fun _ _ _ h => h) (.inl ⟨by kernel_rfl, fun W hW => by kernel_rfl⟩) hS_10 ?_
                  try simp only [Act.put, List.setIfInBounds_toArray, List.set_cons_zero, List.set_cons_succ]
                  refine wpAnyK_one (i := 25) rfl rfl (by kernel_rfl) (fun K hK => ?_)
                  go_simp
                  refine hK.out _ _ (fun h => absurd rfl h) (fun _ => ?_)
                  clear hK K
                  try simp only [Act.put, List.setIfInBounds_toArray, List.set_cons_zero, List.set_cons_succ]
                  refine wpAnyK_done (by kernel_rfl) ?_ _
                  have hbx := HX0.out.bw.trans (hb_10.mono HX0.out.bw.size)
                  go_wp2_with fail
                  go_ret
                  exact ⟨rfl, hbx⟩
end Lx
end Go.Proofs.Ytcgiloccmehbeaa
