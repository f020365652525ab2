/-
  The law SubstUses, walked.
-/
import Derived.Test.YtcgiloccmehbeaaYA
import Derived.Test.YtcgiloccmehbeaaY6
namespace Go.Proofs.Ytcgiloccmehbeaa
open Go.RowKit
namespace Lx
set_option maxRecDepth 100000
set_option maxHeartbeats 16000000 in
theorem uses8_any (t : Te) (A0 : Option Addr) (c0 : Nat) (s : Te) (A1 : Option Addr) (c1 : Nat) (j : Int) (w : World) (hI : EIn w Any t A0) (hJ : EIn w Any s A1) (_ : -9223372036854775808 ≤ j ∧ j ≤ 9223372036854775807) :
    Calls Try.prog 6 #[ev t A0 c0, ev s A1 c1, .int .i64 j] w fun e w' => e = .returned (.bool true) ∧ Below w.heap.size w w' := by
  obtain ⟨tk, tn, tz, tl⟩ := t
  obtain ⟨sk, sn, sz, sl⟩ := s
  show Calls Try.prog 6 #[.agg #[.int .i64 tk, .int .i64 tn, .string tz, .slice A0 tl.length (capF tl.length c0)], .agg #[.int .i64 sk, .int .i64 sn, .string sz, .slice A1 sl.length (capF sl.length c1)], .int .i64 j] w _
  have HX0 := Lib.hid ((Bx8.new (c := c0) hI (Below.refl _ w) rfl).old (.cells #[.int .i64 sk, .int .i64 sn, .string sz, .slice A1 sl.length (capF sl.length c1)] 24))
  have HX1 := Lib.hid (Bx8.new (c := c1) (g := w.heap.size + 1) hJ ((Below.refl _ w).alloc (Nat.le_refl _) (.cells #[.int .i64 tk, .int .i64 tn, .string tz, .slice A0 tl.length (capF tl.length c0)] 24)) (by simp))
  clear hI hJ
  go_enter Try.func6, Try.ntmps6
  go_wp2_with fail
  refine (fixed8_any _).mono ?_
  rintro e w2 ⟨rfl, hb2⟩
  replace HX0 := Lib.hid (HX0.out.step hb2)
  replace HX1 := Lib.hid (HX1.out.step hb2)
  clear hb2
  obtain ⟨d0, d1, d2, d3⟩ := HX0.out.four
  have HG := Lib.hid (HX0.out.small 100 (by omega) (by omega))
  cases hv : decide (0 ≤ fewE (.node tk tn tz tl) 100 600)
  · rw [hv] at HG
    clear hv
    go_wp2_with fail
    refine HG.out.mono ?_
    rintro e w3 ⟨rfl, hb3⟩
    clear HG d0 d1 d2 d3
    replace HX0 := Lib.hid (HX0.out.step hb3)
    replace HX1 := Lib.hid (HX1.out.step hb3)
    clear hb3
    go_wp2_with fail
    refine (fixed8_any w3).mono ?_
    rintro e w4 ⟨rfl, hb4⟩
    have hbw := HX0.out.bw.trans (hb4.mono HX0.out.bw.size)
    go_wp2_with fail
    go_ret
    exact ⟨rfl, hbw⟩
  · rw [hv] at HG
    have hm0 := small8 hv (by omega)
    clear hv
    go_wp2_with fail
    refine HG.out.mono ?_
    rintro e w3 ⟨rfl, hb3⟩
    clear HG d0 d1 d2 d3
    replace HX0 := Lib.hid (HX0.out.step hb3)
    replace HX1 := Lib.hid (HX1.out.step hb3)
    clear hb3
    obtain ⟨d0, d1, d2, d3⟩ := HX1.out.four
    have HG := Lib.hid (HX1.out.small 100 (by omega) (by omega))
    cases hv : decide (0 ≤ fewE (.node sk sn sz sl) 100 600)
    · rw [hv] at HG
      clear hv
      go_wp2_with fail
      refine HG.out.mono ?_
      rintro e w5 ⟨rfl, hb5⟩
      clear HG d0 d1 d2 d3
      replace HX0 := Lib.hid (HX0.out.step hb5)
      replace HX1 := Lib.hid (HX1.out.step hb5)
      clear hb5
      go_wp2_with fail
      refine (fixed8_any w5).mono ?_
      rintro e w6 ⟨rfl, hb6⟩
      have hbw := HX0.out.bw.trans (hb6.mono HX0.out.bw.size)
      go_wp2_with fail
      go_ret
      exact ⟨rfl, hbw⟩
    · rw [hv] at HG
      have hm1 := small8 hv (by omega)
      clear hv
      go_wp2_with fail
      refine HG.out.mono ?_
      rintro e w5 ⟨rfl, hb5⟩
      clear HG d0 d1 d2 d3
      replace HX0 := Lib.hid (HX0.out.step hb5)
      replace HX1 := Lib.hid (HX1.out.step hb5)
      clear hb5
      by_cases hc : j < 0
      · go_wp2_with fail
        refine (fixed8_any w5).mono ?_
        rintro e w7 ⟨rfl, hb7⟩
        have hbw := HX0.out.bw.trans (hb7.mono HX0.out.bw.size)
        go_wp2_with fail
        go_ret
        exact ⟨rfl, hbw⟩
      · have hj0 : 0 ≤ j := by omega
        by_cases hc : 4 < j
        · go_wp2_with fail
          refine (fixed8_any w5).mono ?_
          rintro e w8 ⟨rfl, hb8⟩
          have hbw := HX0.out.bw.trans (hb8.mono HX0.out.bw.size)
          go_wp2_with fail
          go_ret
          exact ⟨rfl, hbw⟩
        · have hj1 : j ≤ 4 := by omega
          obtain ⟨d0, d1, d2, d3⟩ := HX0.out.four
          have HG := Lib.hid (rMay6_any (.node tk tn tz tl) A0 c0 5 _ HX0.out.tin (by omega) (by omega) (by omega))
          cases hv : mayQ (.node tk tn tz tl) 5 false
          · rw [hv] at HG
            clear hv
            go_wp2_with fail
            refine HG.out.mono ?_
            rintro e w9 ⟨rfl, hb9⟩
            clear HG d0 d1 d2 d3
            replace HX0 := Lib.hid (HX0.out.step hb9)
            replace HX1 := Lib.hid (HX1.out.step hb9)
            clear hb9
            go_wp2_with fail
            refine (fixed8_any w9).mono ?_
            rintro e w10 ⟨rfl, hb10⟩
            have hbw := HX0.out.bw.trans (hb10.mono HX0.out.bw.size)
            go_wp2_with fail
            go_ret
            exact ⟨rfl, hbw⟩
          · rw [hv] at HG
            have hmt := hv
            clear hv
            go_wp2_with fail
            refine HG.out.mono ?_
            rintro e w9 ⟨rfl, hb9⟩
            clear HG d0 d1 d2 d3
            replace HX0 := Lib.hid (HX0.out.step hb9)
            replace HX1 := Lib.hid (HX1.out.step hb9)
            clear hb9
            obtain ⟨d0, d1, d2, d3⟩ := HX1.out.four
            have HG := Lib.hid (rMay6_any (.node sk sn sz sl) A1 c1 4 _ HX1.out.tin (by omega) (by omega) (by omega))
            cases hv : mayQ (.node sk sn sz sl) 4 false
            · rw [hv] at HG
              clear hv
              go_wp2_with fail
              refine HG.out.mono ?_
              rintro e w11 ⟨rfl, hb11⟩
              clear HG d0 d1 d2 d3
              replace HX0 := Lib.hid (HX0.out.step hb11)
              replace HX1 := Lib.hid (HX1.out.step hb11)
              clear hb11
              go_wp2_with fail
              refine (fixed8_any w11).mono ?_
              rintro e w12 ⟨rfl, hb12⟩
              have hbw := HX0.out.bw.trans (hb12.mono HX0.out.bw.size)
              go_wp2_with fail
              go_ret
              exact ⟨rfl, hbw⟩
            · rw [hv] at HG
              have hms := hv
              clear hv
              go_wp2_with fail
              refine HG.out.mono ?_
              rintro e w11 ⟨rfl, hb11⟩
              clear HG d0 d1 d2 d3
              replace HX0 := Lib.hid (HX0.out.step hb11)
              replace HX1 := Lib.hid (HX1.out.step hb11)
              clear hb11
              have hct := may_cl _ _ _ hmt
              have hcs := may_cl _ _ _ hms
              have hwt := clE_wf _ _ hct
              have hws := clE_wf _ _ hcs
              have htq : tameE 7000 8 (.node tk tn tz tl) := tameE_mono (by omega) (by omega) _ (clE_tame _ _ hct)
              have hsq : tameE 7000 8 (.node sk sn sz sl) := tameE_mono (by omega) (by omega) _ (clE_tame _ _ hcs)
              obtain ⟨P, hP⟩ : ∃ X, X = putE (.node tk tn tz tl) j (.node sk sn sz sl) := ⟨_, rfl⟩
              obtain ⟨nu, hnu⟩ : ∃ n, n = usesE (.node tk tn tz tl) j := ⟨_, rfl⟩
              have hmp : mayQ P 4 false = true := by rw [hP]; exact may_put (by omega) (by omega) (by omega) hmt hms
              have hdP := putE_depth (.node tk tn tz tl) j (.node sk sn sz sl)
              have hsz := put_size (.node tk tn tz tl) j (.node sk sn sz sl) 0 hws hwt
              have hzP := putE_size (.node tk tn tz tl) j (.node sk sn sz sl)
              rw [Int.add_zero, ← hnu] at hsz
              have hsz2 : sizeE P + nu = sizeE (.node tk tn tz tl) + nu * sizeE (.node sk sn sz sl) := by rw [hP]; exact hsz
              have hnz : nu ≤ sizeE (.node tk tn tz tl) := by rw [hnu]; exact usesE_le _ _
              have hPt : mayQ (.node tk tn tz tl) 0 false = true → P = (.node tk tn tz tl) := fun h => by rw [hP]; exact put_far (may_cl _ _ _ h) j (.node sk sn sz sl) (by omega)
              have hP0 : nu = 0 → putE (.node tk tn tz tl) j (vE 0) = P := fun h => by
                rw [hP, putE, putE]; exact put_none _ j _ _ 0 (by rw [Int.add_zero, ← hnu]; exact h)
              obtain ⟨zt, hzt⟩ : ∃ z, z = sizeE (.node tk tn tz tl) := ⟨_, rfl⟩
              obtain ⟨zs, hzs⟩ : ∃ z, z = sizeE (.node sk sn sz sl) := ⟨_, rfl⟩
              have hzs1 := sizeE_pos (.node sk sn sz sl)
              rw [← hzt, ← hzs] at hsz2
              rw [← hzt] at hnz
              rw [← hzs] at hzs1
              have hb1 : nu * zs ≤ 100 * 100 := Nat.mul_le_mul (by omega) (by omega)
              have hmul : (nu : Int) * ((zs : Int) - 1) = (nu * zs : Nat) - (nu : Int) := by rw [Int.mul_sub, Int.natCast_mul, Int.mul_one]
              have hmu0 : -10000 ≤ (nu : Int) * ((zs : Int) - 1) := by omega
              have hmu1 : (nu : Int) * ((zs : Int) - 1) ≤ 10000 := by omega
              have hza : ((sizeE P : Nat) : Int) = (zt : Int) + (nu : Int) * ((zs : Int) - 1) := by omega
              have hdP2 : depthE P ≤ 1200 := by rw [hP]; omega
              have hsP2 : sizeE P ≤ 1000000 := by omega
              obtain ⟨pk, pn, pz, pl⟩ := P
              have HP := Lib.hid hP
              have HNU := Lib.hid hnu
              have HPT := Lib.hid hPt
              have HP0 := Lib.hid hP0
              have HZA := Lib.hid hza
              have HZT := Lib.hid hzt
              have HZS := Lib.hid hzs
              clear hP hnu hPt hP0 hza hzt hzs hmul hsz hsz2 hdP hzP hct hcs hwt hws
              have hzt9 : zt ≤ 100 := by have := HZT.out; omega
              have hzs9 : zs ≤ 100 := by have := HZS.out; omega
              obtain ⟨e00, e01, e02, e03⟩ := HX0.out.four
              obtain ⟨e10, e11, e12, e13⟩ := HX1.out.four
              have HG : Hid (Calls Try.prog 15 #[.agg #[.int .i64 tk, .int .i64 tn, .string tz, .slice A0 tl.length (capF tl.length c0)], .int .i64 j, .agg #[.int .i64 sk, .int .i64 sn, .string sz, .slice A1 sl.length (capF sl.length c1)]] w11 (GivesL pk pn pz pl.length (.node pk pn pz pl) w11)) := Lib.hid (by
                have h := put_any (.node tk tn tz tl) (.node sk sn sz sl) A0 A1 c0 c1 j _ HX0.out.tin (by omega) (by omega) (tameE_mono (by omega) (by omega) _ htq) HX1.out.tin (by omega) (by omega) (tameE_mono (by omega) (by omega) _ hsq) (by omega) (by omega)
                rw [← HP.out] at h
                exact h.mono fun e w' h => h.any.lit)
              go_wp2_with fail
              refine HG.out.mono ?_
              rintro e w13 ⟨Ap, cp, rfl, hTp, hb13⟩
              replace HX0 := Lib.hid (HX0.out.step hb13)
              replace HX1 := Lib.hid (HX1.out.step hb13)
              clear e00 e01 e02 e03
              clear e10 e11 e12 e13
              clear HG
              have HXp : Hid (Bx8 w (w13.alloc (.cells #[.int .i64 pk, .int .i64 pn, .string pz, .slice Ap pl.length (capF pl.length cp)] 24)) w13.heap.size pk pn pz pl Ap cp) := Lib.hid ⟨Lies.new _ _ _, EIn.below _ hTp ((Below.refl _ w13).alloc (Nat.le_refl _) _) (Nat.le_refl _), HX0.out.bw.alloc HX0.out.bw.size _⟩
              replace HX0 := Lib.hid (HX0.out.old (.cells #[.int .i64 pk, .int .i64 pn, .string pz, .slice Ap pl.length (capF pl.length cp)] 24))
              replace HX1 := Lib.hid (HX1.out.old (.cells #[.int .i64 pk, .int .i64 pn, .string pz, .slice Ap pl.length (capF pl.length cp)] 24))
              clear hTp hb13
              obtain ⟨e0, e1, e2, e3⟩ := HX0.out.four
              have HG : Hid (Calls Try.prog 17 #[.agg #[.int .i64 tk, .int .i64 tn, .string tz, .slice A0 tl.length (capF tl.length c0)], .int .i64 j] (w13.alloc (.cells #[.int .i64 pk, .int .i64 pn, .string pz, .slice Ap pl.length (capF pl.length cp)] 24)) (fun e w' => e = .returned (.int .i64 (nu : Int)) ∧ Below (w13.alloc (.cells #[.int .i64 pk, .int .i64 pn, .string pz, .slice Ap pl.length (capF pl.length cp)] 24)).heap.size (w13.alloc (.cells #[.int .i64 pk, .int .i64 pn, .string pz, .slice Ap pl.length (capF pl.length cp)] 24)) w')) := Lib.hid (by
                have h := uses_any (depthE (.node tk tn tz tl)) (.node tk tn tz tl) A0 c0 j (w13.alloc (.cells #[.int .i64 pk, .int .i64 pn, .string pz, .slice Ap pl.length (capF pl.length cp)] 24)) (Nat.le_refl _) (by omega) (by omega) (tameE_mono (by omega) (by omega) _ htq) (by omega) (by omega) HX0.out.tin
                rw [← HNU.out] at h
                exact h)
              go_wp2_with fail
              refine HG.out.mono ?_
              rintro e w14 ⟨rfl, hb14⟩
              replace HX0 := Lib.hid (HX0.out.step hb14)
              replace HX1 := Lib.hid (HX1.out.step hb14)
              replace HXp := Lib.hid (HXp.out.step hb14)
              clear HG e0 e1 e2 e3 hb14
              go_upto_region 5 with fail
              have hx0 := HX0.out
              have hx1 := HX1.out
              have hxp := HXp.out
              obtain ⟨g0, hg0⟩ : ∃ g, g = w.heap.size := ⟨_, rfl⟩
              obtain ⟨g1, hg1⟩ : ∃ g, g = w.heap.size + 1 := ⟨_, rfl⟩
              obtain ⟨gp, hgp⟩ : ∃ g, g = w13.heap.size := ⟨_, rfl⟩
              rw [← hg0] at hx0
              rw [← hg1] at hx1
              rw [← hgp] at hxp
              rw [← hgp, ← hg1, ← hg0]
              clear hg0 hg1 hgp HX0 HX1 HXp
              generalize w14 = V at hx0 hx1 hxp ⊢
              cases hmt0 : mayQ (.node tk tn tz tl) 0 false
              · have ht0 := hx0.tin
                have ht1 := hx1.tin
                have htp := hxp.tin
                have HB := Lib.hid hx0.bw
                have HSS : Hid (∀ V', Below V.heap.size V V' → (fun V' : World => (V'.cell? ⟨g0, 0, none⟩ = some (.int .i64 tk) ∧ V'.cell? ⟨g0, 1, none⟩ = some (.int .i64 tn) ∧ V'.cell? ⟨g0, 2, none⟩ = some (.string tz) ∧ V'.cell? ⟨g0, 3, none⟩ = some (.slice A0 tl.length (capF tl.length c0)) ∧ V'.cell? ⟨g1, 0, none⟩ = some (.int .i64 sk) ∧ V'.cell? ⟨g1, 1, none⟩ = some (.int .i64 sn) ∧ V'.cell? ⟨g1, 2, none⟩ = some (.string sz) ∧ V'.cell? ⟨g1, 3, none⟩ = some (.slice A1 sl.length (capF sl.length c1)) ∧ V'.cell? ⟨gp, 0, none⟩ = some (.int .i64 pk) ∧ V'.cell? ⟨gp, 1, none⟩ = some (.int .i64 pn) ∧ V'.cell? ⟨gp, 2, none⟩ = some (.string pz) ∧ V'.cell? ⟨gp, 3, none⟩ = some (.slice Ap pl.length (capF pl.length cp)))) V') := Lib.hid fun V' h =>
                  ⟨(h.cell (p := ⟨g0, 0, none⟩) hx0.box.lt).trans (hx0.box.cell 0), (h.cell (p := ⟨g0, 1, none⟩) hx0.box.lt).trans (hx0.box.cell 1), (h.cell (p := ⟨g0, 2, none⟩) hx0.box.lt).trans (hx0.box.cell 2), (h.cell (p := ⟨g0, 3, none⟩) hx0.box.lt).trans (hx0.box.cell 3), (h.cell (p := ⟨g1, 0, none⟩) hx1.box.lt).trans (hx1.box.cell 0), (h.cell (p := ⟨g1, 1, none⟩) hx1.box.lt).trans (hx1.box.cell 1), (h.cell (p := ⟨g1, 2, none⟩) hx1.box.lt).trans (hx1.box.cell 2), (h.cell (p := ⟨g1, 3, none⟩) hx1.box.lt).trans (hx1.box.cell 3), (h.cell (p := ⟨gp, 0, none⟩) hxp.box.lt).trans (hxp.box.cell 0), (h.cell (p := ⟨gp, 1, none⟩) hxp.box.lt).trans (hxp.box.cell 1), (h.cell (p := ⟨gp, 2, none⟩) hxp.box.lt).trans (hxp.box.cell 2), (h.cell (p := ⟨gp, 3, none⟩) hxp.box.lt).trans (hxp.box.cell 3)⟩
                have HM4 : Hid (∀ X, Below V.heap.size V X → ∀ (A : Option Addr) (c : Nat) (hA : EIn X Any (.node pk pn pz pl) A), Calls Try.prog 21 #[.agg #[.int .i64 pk, .int .i64 pn, .string pz, .slice A pl.length (capF pl.length c)], .int .i64 4] X fun e w' => e = .returned (.bool true) ∧ Below X.heap.size X w') := Lib.hid fun X hX A c hA => by
                  have h := rMay6_any (.node pk pn pz pl) A c 4 X hA (by omega) (by omega) (by omega)
                  rw [hmp] at h
                  exact h
                have HZP : Hid (∀ X, Below V.heap.size V X → ∀ (A : Option Addr) (c : Nat) (hA : EIn X Any (.node pk pn pz pl) A), Calls Try.prog 22 #[.agg #[.int .i64 pk, .int .i64 pn, .string pz, .slice A pl.length (capF pl.length c)]] X fun e w' => e = .returned (.int .i64 ((zt : Int) + ((nu : Int) * ((zs : Int) - 1)))) ∧ Below X.heap.size X w') := Lib.hid fun X hX A c hA => by
                  have h := rsize6_any (depthE (.node pk pn pz pl)) (.node pk pn pz pl) A c X (Nat.le_refl _) (by omega) hA
                  rw [HZA.out] at h
                  exact h
                have HZt : Hid (∀ X, Below V.heap.size V X → ∀ (A : Option Addr) (c : Nat) (hA : EIn X Any (.node tk tn tz tl) A), Calls Try.prog 22 #[.agg #[.int .i64 tk, .int .i64 tn, .string tz, .slice A tl.length (capF tl.length c)]] X fun e w' => e = .returned (.int .i64 (zt : Int)) ∧ Below X.heap.size X w') := Lib.hid fun X hX A c hA => by
                  have h := rsize6_any (depthE (.node tk tn tz tl)) (.node tk tn tz tl) A c X (Nat.le_refl _) (by omega) hA
                  rw [← HZT.out] at h
                  exact h
                have HZs : Hid (∀ X, Below V.heap.size V X → ∀ (A : Option Addr) (c : Nat) (hA : EIn X Any (.node sk sn sz sl) A), Calls Try.prog 22 #[.agg #[.int .i64 sk, .int .i64 sn, .string sz, .slice A sl.length (capF sl.length c)]] X fun e w' => e = .returned (.int .i64 (zs : Int)) ∧ Below X.heap.size X w') := Lib.hid fun X hX A c hA => by
                  have h := rsize6_any (depthE (.node sk sn sz sl)) (.node sk sn sz sl) A c X (Nat.le_refl _) (by omega) hA
                  rw [← HZS.out] at h
                  exact h
                have HM0 : Hid (∀ X, Below V.heap.size V X → ∀ (A : Option Addr) (c : Nat) (hA : EIn X Any (.node tk tn tz tl) A), Calls Try.prog 21 #[.agg #[.int .i64 tk, .int .i64 tn, .string tz, .slice A tl.length (capF tl.length c)], .int .i64 0] X fun e w' => e = .returned (.bool false) ∧ Below X.heap.size X w') := Lib.hid fun X hX A c hA => by
                  have h := rMay6_any (.node tk tn tz tl) A c 0 X hA (by omega) (by omega) (by omega)
                  rw [hmt0] at h
                  exact h
                have HX0 := Lib.hid hx0
                have HX1 := Lib.hid hx1
                have HXp := Lib.hid hxp
                clear hx0 hx1 hxp
                have hb_1 : Below V.heap.size V V := Below.refl _ _
                refine wp_region_held_drew (S := (fun V' : World => (V'.cell? ⟨g0, 0, none⟩ = some (.int .i64 tk) ∧ V'.cell? ⟨g0, 1, none⟩ = some (.int .i64 tn) ∧ V'.cell? ⟨g0, 2, none⟩ = some (.string tz) ∧ V'.cell? ⟨g0, 3, none⟩ = some (.slice A0 tl.length (capF tl.length c0)) ∧ V'.cell? ⟨g1, 0, none⟩ = some (.int .i64 sk) ∧ V'.cell? ⟨g1, 1, none⟩ = some (.int .i64 sn) ∧ V'.cell? ⟨g1, 2, none⟩ = some (.string sz) ∧ V'.cell? ⟨g1, 3, none⟩ = some (.slice A1 sl.length (capF sl.length c1)) ∧ V'.cell? ⟨gp, 0, none⟩ = some (.int .i64 pk) ∧ V'.cell? ⟨gp, 1, none⟩ = some (.int .i64 pn) ∧ V'.cell? ⟨gp, 2, none⟩ = some (.string pz) ∧ V'.cell? ⟨gp, 3, none⟩ = some (.slice Ap pl.length (capF pl.length cp))))) rfl (HSS.out _ hb_1.drew) (fun hSs => ?_)
                change wpAnyH _ _ _ _ _ 26 (Array.replicate 26 false) _ _
                refine wpAnyH_take (i := 0) (oi := ⟨some 47, _, _, _, _, _⟩) (v := .agg #[.int .i64 pk, .int .i64 pn, .string pz, .slice Ap pl.length (capF pl.length cp)]) rfl (by kernel_rfl) (by kernel_rfl) (by kernel_rfl) (fun _ _ _ h => h) (.inl ⟨by kernel_rfl, fun W hW => by first | (obtain ⟨z0, z1, z2, z3, z4, z5, z6, z7, z8, z9, z10, z11⟩ := hW; go_simp; done) | (obtain ⟨z0, z1, z2, z3, z4, z5, z6, z7, z8, z9, z10, z11⟩ := hW; go_simp; omega) | (obtain ⟨z0, z1, z2, z3, z4, z5, z6, z7, z8, z9, z10, z11⟩ := hW; go_simp; exact IntWalk.i64_in _ (by omega)) | (obtain ⟨z0, z1, z2, z3, z4, z5, z6, z7, z8, z9, z10, z11⟩ := hW; go_simp; simp [*]; done)⟩) hSs ?_
                try simp only [Act.put, List.setIfInBounds_toArray, List.set_cons_zero, List.set_cons_succ]
                refine wpAnyH_ready (rs := [1]) (by kernel_rfl) (by simp) (AllReadyH.cons rfl (fun K hK => ?_) AllReadyH.nil)
                go_simp
                refine (HM4.out _ (hb_1.drew) Ap cp (EIn.below _ htp (Below.refl _ _).drew (Nat.le_refl _))).mono ?_
                rintro e u_2 ⟨rfl, hq_2⟩
                have hb_2 := (hb_1.drew).trans (hq_2.mono (hb_1.drew).size)
                have ht0_2 := EIn.below _ (EIn.below _ ht0 (Below.refl _ _).drew (Nat.le_refl _)) hq_2 (Nat.le_refl _)
                have ht1_2 := EIn.below _ (EIn.below _ ht1 (Below.refl _ _).drew (Nat.le_refl _)) hq_2 (Nat.le_refl _)
                have htp_2 := EIn.below _ (EIn.below _ htp (Below.refl _ _).drew (Nat.le_refl _)) hq_2 (Nat.le_refl _)
                clear ht0 ht1 htp
                refine hK.out _ _ (HSS.out _ hb_2) (fun hS_2 => ?_)
                clear hK K
                try simp only [Act.put, List.setIfInBounds_toArray, List.set_cons_zero, List.set_cons_succ]
                refine wpAnyH_take (i := 2) (oi := ⟨some 49, _, _, _, _, _⟩) (v := .bool false) rfl (by kernel_rfl) (by kernel_rfl) (by kernel_rfl) (fun _ _ _ h => h) (.inl ⟨by kernel_rfl, fun W hW => by kernel_rfl⟩) hS_2 ?_
                try simp only [Act.put, List.setIfInBounds_toArray, List.set_cons_zero, List.set_cons_succ]
                refine wpAnyH_take (i := 3) (oi := ⟨some 50, _, _, _, _, _⟩) (v := .bool false) rfl (by kernel_rfl) (by kernel_rfl) (by kernel_rfl) (fun _ _ _ h => h) (.inl ⟨by kernel_rfl, fun W hW => by kernel_rfl⟩) hS_2 ?_
                try simp only [Act.put, List.setIfInBounds_toArray, List.set_cons_zero, List.set_cons_succ]
                refine wpAnyH_take (i := 4) (oi := ⟨some 51, _, _, _, _, _⟩) (v := .agg #[.int .i64 pk, .int .i64 pn, .string pz, .slice Ap pl.length (capF pl.length cp)]) rfl (by kernel_rfl) (by kernel_rfl) (by kernel_rfl) (fun _ _ _ h => h) (.inl ⟨by kernel_rfl, fun W hW => by first | (obtain ⟨z0, z1, z2, z3, z4, z5, z6, z7, z8, z9, z10, z11⟩ := hW; go_simp; done) | (obtain ⟨z0, z1, z2, z3, z4, z5, z6, z7, z8, z9, z10, z11⟩ := hW; go_simp; omega) | (obtain ⟨z0, z1, z2, z3, z4, z5, z6, z7, z8, z9, z10, z11⟩ := hW; go_simp; exact IntWalk.i64_in _ (by omega)) | (obtain ⟨z0, z1, z2, z3, z4, z5, z6, z7, z8, z9, z10, z11⟩ := hW; go_simp; simp [*]; done)⟩) hS_2 ?_
                try simp only [Act.put, List.setIfInBounds_toArray, List.set_cons_zero, List.set_cons_succ]
                refine wpAnyH_take (i := 6) (oi := ⟨some 53, _, _, _, _, _⟩) (v := .agg #[.int .i64 tk, .int .i64 tn, .string tz, .slice A0 tl.length (capF tl.length c0)]) rfl (by kernel_rfl) (by kernel_rfl) (by kernel_rfl) (fun _ _ _ h => h) (.inl ⟨by kernel_rfl, fun W hW => by first | (obtain ⟨z0, z1, z2, z3, z4, z5, z6, z7, z8, z9, z10, z11⟩ := hW; go_simp; done) | (obtain ⟨z0, z1, z2, z3, z4, z5, z6, z7, z8, z9, z10, z11⟩ := hW; go_simp; omega) | (obtain ⟨z0, z1, z2, z3, z4, z5, z6, z7, z8, z9, z10, z11⟩ := hW; go_simp; exact IntWalk.i64_in _ (by omega)) | (obtain ⟨z0, z1, z2, z3, z4, z5, z6, z7, z8, z9, z10, z11⟩ := hW; go_simp; simp [*]; done)⟩) hS_2 ?_
                try simp only [Act.put, List.setIfInBounds_toArray, List.set_cons_zero, List.set_cons_succ]
                refine wpAnyH_take (i := 8) (oi := ⟨some 55, _, _, _, _, _⟩) (v := .int .i64 (nu : Int)) rfl (by kernel_rfl) (by kernel_rfl) (by kernel_rfl) (fun _ _ _ h => h) (.inl ⟨by kernel_rfl, fun W hW => by kernel_rfl⟩) hS_2 ?_
                try simp only [Act.put, List.setIfInBounds_toArray, List.set_cons_zero, List.set_cons_succ]
                refine wpAnyH_take (i := 9) (oi := ⟨some 56, _, _, _, _, _⟩) (v := .agg #[.int .i64 sk, .int .i64 sn, .string sz, .slice A1 sl.length (capF sl.length c1)]) rfl (by kernel_rfl) (by kernel_rfl) (by kernel_rfl) (fun _ _ _ h => h) (.inl ⟨by kernel_rfl, fun W hW => by first | (obtain ⟨z0, z1, z2, z3, z4, z5, z6, z7, z8, z9, z10, z11⟩ := hW; go_simp; done) | (obtain ⟨z0, z1, z2, z3, z4, z5, z6, z7, z8, z9, z10, z11⟩ := hW; go_simp; omega) | (obtain ⟨z0, z1, z2, z3, z4, z5, z6, z7, z8, z9, z10, z11⟩ := hW; go_simp; exact IntWalk.i64_in _ (by omega)) | (obtain ⟨z0, z1, z2, z3, z4, z5, z6, z7, z8, z9, z10, z11⟩ := hW; go_simp; simp [*]; done)⟩) hS_2 ?_
                try simp only [Act.put, List.setIfInBounds_toArray, List.set_cons_zero, List.set_cons_succ]
                refine wpAnyH_ready (rs := [5]) (by kernel_rfl) (by simp) (AllReadyH.cons rfl (fun K hK => ?_) AllReadyH.nil)
                rw [if_pos (by kernel_rfl)]
                go_simp
                refine (HZP.out _ hb_2 Ap cp htp_2).mono ?_
                rintro e u_3 ⟨rfl, hq_3⟩
                have hb_3 := hb_2.trans (hq_3.mono hb_2.size)
                have ht0_2_3 := EIn.below _ ht0_2 hq_3 (Nat.le_refl _)
                have ht1_2_3 := EIn.below _ ht1_2 hq_3 (Nat.le_refl _)
                have htp_2_3 := EIn.below _ htp_2 hq_3 (Nat.le_refl _)
                clear ht0_2 ht1_2 htp_2
                refine hK.out _ _ (HSS.out _ hb_3) (fun hS_3 => ?_)
                clear hK K
                try simp only [Act.put, List.setIfInBounds_toArray, List.set_cons_zero, List.set_cons_succ]
                refine wpAnyH_ready (rs := [7]) (by kernel_rfl) (by simp) (AllReadyH.cons rfl (fun K hK => ?_) AllReadyH.nil)
                rw [if_pos (by kernel_rfl)]
                go_simp
                refine (HZt.out _ hb_3 A0 c0 ht0_2_3).mono ?_
                rintro e u_4 ⟨rfl, hq_4⟩
                have hb_4 := hb_3.trans (hq_4.mono hb_3.size)
                have ht0_2_3_4 := EIn.below _ ht0_2_3 hq_4 (Nat.le_refl _)
                have ht1_2_3_4 := EIn.below _ ht1_2_3 hq_4 (Nat.le_refl _)
                have htp_2_3_4 := EIn.below _ htp_2_3 hq_4 (Nat.le_refl _)
                clear ht0_2_3 ht1_2_3 htp_2_3
                refine hK.out _ _ (HSS.out _ hb_4) (fun hS_4 => ?_)
                clear hK K
                try simp only [Act.put, List.setIfInBounds_toArray, List.set_cons_zero, List.set_cons_succ]
                refine wpAnyH_ready (rs := [10]) (by kernel_rfl) (by simp) (AllReadyH.cons rfl (fun K hK => ?_) AllReadyH.nil)
                rw [if_pos (by kernel_rfl)]
                go_simp
                refine (HZs.out _ hb_4 A1 c1 ht1_2_3_4).mono ?_
                rintro e u_5 ⟨rfl, hq_5⟩
                have hb_5 := hb_4.trans (hq_5.mono hb_4.size)
                have ht0_2_3_4_5 := EIn.below _ ht0_2_3_4 hq_5 (Nat.le_refl _)
                have ht1_2_3_4_5 := EIn.below _ ht1_2_3_4 hq_5 (Nat.le_refl _)
                have htp_2_3_4_5 := EIn.below _ htp_2_3_4 hq_5 (Nat.le_refl _)
                clear ht0_2_3_4 ht1_2_3_4 htp_2_3_4
                refine hK.out _ _ (HSS.out _ hb_5) (fun hS_5 => ?_)
                clear hK K
                try simp only [Act.put, List.setIfInBounds_toArray, List.set_cons_zero, List.set_cons_succ]
                refine wpAnyH_take (i := 11) (oi := ⟨some 58, _, _, _, _, _⟩) (v := .int .i64 ((zs : Int) - 1)) rfl (by kernel_rfl) (by kernel_rfl) (by kernel_rfl) (fun _ _ _ h => h) (.inl ⟨by kernel_rfl, fun W hW => by first | (obtain ⟨z0, z1, z2, z3, z4, z5, z6, z7, z8, z9, z10, z11⟩ := hW; go_simp; done) | (obtain ⟨z0, z1, z2, z3, z4, z5, z6, z7, z8, z9, z10, z11⟩ := hW; go_simp; omega) | (obtain ⟨z0, z1, z2, z3, z4, z5, z6, z7, z8, z9, z10, z11⟩ := hW; go_simp; exact IntWalk.i64_in _ (by omega)) | (obtain ⟨z0, z1, z2, z3, z4, z5, z6, z7, z8, z9, z10, z11⟩ := hW; go_simp; simp [*]; done)⟩) hS_5 ?_
                try simp only [Act.put, List.setIfInBounds_toArray, List.set_cons_zero, List.set_cons_succ]
                refine wpAnyH_take (i := 12) (oi := ⟨some 59, _, _, _, _, _⟩) (v := .int .i64 ((nu : Int) * ((zs : Int) - 1))) rfl (by kernel_rfl) (by kernel_rfl) (by kernel_rfl) (fun _ _ _ h => h) (.inl ⟨by kernel_rfl, fun W hW => by first | (obtain ⟨z0, z1, z2, z3, z4, z5, z6, z7, z8, z9, z10, z11⟩ := hW; go_simp; done) | (obtain ⟨z0, z1, z2, z3, z4, z5, z6, z7, z8, z9, z10, z11⟩ := hW; go_simp; omega) | (obtain ⟨z0, z1, z2, z3, z4, z5, z6, z7, z8, z9, z10, z11⟩ := hW; go_simp; exact IntWalk.i64_in _ (by omega)) | (obtain ⟨z0, z1, z2, z3, z4, z5, z6, z7, z8, z9, z10, z11⟩ := hW; go_simp; simp [*]; done)⟩) hS_5 ?_
                try simp only [Act.put, List.setIfInBounds_toArray, List.set_cons_zero, List.set_cons_succ]
                refine wpAnyH_take (i := 13) (oi := ⟨some 60, _, _, _, _, _⟩) (v := .int .i64 ((zt : Int) + ((nu : Int) * ((zs : Int) - 1)))) rfl (by kernel_rfl) (by kernel_rfl) (by kernel_rfl) (fun _ _ _ h => h) (.inl ⟨by kernel_rfl, fun W hW => by first | (obtain ⟨z0, z1, z2, z3, z4, z5, z6, z7, z8, z9, z10, z11⟩ := hW; go_simp; done) | (obtain ⟨z0, z1, z2, z3, z4, z5, z6, z7, z8, z9, z10, z11⟩ := hW; go_simp; omega) | (obtain ⟨z0, z1, z2, z3, z4, z5, z6, z7, z8, z9, z10, z11⟩ := hW; go_simp; exact IntWalk.i64_in _ (by omega)) | (obtain ⟨z0, z1, z2, z3, z4, z5, z6, z7, z8, z9, z10, z11⟩ := hW; go_simp; simp [*]; done)⟩) hS_5 ?_
                try simp only [Act.put, List.setIfInBounds_toArray, List.set_cons_zero, List.set_cons_succ]
                refine wpAnyH_take (i := 14) (oi := ⟨some 61, _, _, _, _, _⟩) (v := .bool false) rfl (by kernel_rfl) (by kernel_rfl) (by kernel_rfl) (fun _ _ _ h => h) (.inl ⟨by kernel_rfl, fun W hW => by first | (obtain ⟨z0, z1, z2, z3, z4, z5, z6, z7, z8, z9, z10, z11⟩ := hW; go_simp; done) | (obtain ⟨z0, z1, z2, z3, z4, z5, z6, z7, z8, z9, z10, z11⟩ := hW; go_simp; omega) | (obtain ⟨z0, z1, z2, z3, z4, z5, z6, z7, z8, z9, z10, z11⟩ := hW; go_simp; exact IntWalk.i64_in _ (by omega)) | (obtain ⟨z0, z1, z2, z3, z4, z5, z6, z7, z8, z9, z10, z11⟩ := hW; go_simp; simp [*]; done)⟩) hS_5 ?_
                try simp only [Act.put, List.setIfInBounds_toArray, List.set_cons_zero, List.set_cons_succ]
                refine wpAnyH_take (i := 15) (oi := ⟨some 62, _, _, _, _, _⟩) (v := .bool false) rfl (by kernel_rfl) (by kernel_rfl) (by kernel_rfl) (fun _ _ _ h => h) (.inl ⟨by kernel_rfl, fun W hW => by kernel_rfl⟩) hS_5 ?_
                try simp only [Act.put, List.setIfInBounds_toArray, List.set_cons_zero, List.set_cons_succ]
                refine wpAnyH_take (i := 16) (oi := ⟨some 63, _, _, _, _, _⟩) (v := .bool false) rfl (by kernel_rfl) (by kernel_rfl) (by kernel_rfl) (fun _ _ _ h => h) (.inl ⟨by kernel_rfl, fun W hW => by kernel_rfl⟩) hS_5 ?_
                try simp only [Act.put, List.setIfInBounds_toArray, List.set_cons_zero, List.set_cons_succ]
                refine wpAnyH_take (i := 17) (oi := ⟨some 64, _, _, _, _, _⟩) (v := .agg #[.int .i64 tk, .int .i64 tn, .string tz, .slice A0 tl.length (capF tl.length c0)]) rfl (by kernel_rfl) (by kernel_rfl) (by kernel_rfl) (fun _ _ _ h => h) (.inl ⟨by kernel_rfl, fun W hW => by first | (obtain ⟨z0, z1, z2, z3, z4, z5, z6, z7, z8, z9, z10, z11⟩ := hW; go_simp; done) | (obtain ⟨z0, z1, z2, z3, z4, z5, z6, z7, z8, z9, z10, z11⟩ := hW; go_simp; omega) | (obtain ⟨z0, z1, z2, z3, z4, z5, z6, z7, z8, z9, z10, z11⟩ := hW; go_simp; exact IntWalk.i64_in _ (by omega)) | (obtain ⟨z0, z1, z2, z3, z4, z5, z6, z7, z8, z9, z10, z11⟩ := hW; go_simp; simp [*]; done)⟩) hS_5 ?_
                try simp only [Act.put, List.setIfInBounds_toArray, List.set_cons_zero, List.set_cons_succ]
                refine wpAnyH_ready (rs := [18]) (by kernel_rfl) (by simp) (AllReadyH.cons rfl (fun K hK => ?_) AllReadyH.nil)
                rw [if_pos (by kernel_rfl)]
                go_simp
                refine (HM0.out _ hb_5 A0 c0 ht0_2_3_4_5).mono ?_
                rintro e u_6 ⟨rfl, hq_6⟩
                have hb_6 := hb_5.trans (hq_6.mono hb_5.size)
                have ht0_2_3_4_5_6 := EIn.below _ ht0_2_3_4_5 hq_6 (Nat.le_refl _)
                have ht1_2_3_4_5_6 := EIn.below _ ht1_2_3_4_5 hq_6 (Nat.le_refl _)
                have htp_2_3_4_5_6 := EIn.below _ htp_2_3_4_5 hq_6 (Nat.le_refl _)
                clear ht0_2_3_4_5 ht1_2_3_4_5 htp_2_3_4_5
                refine hK.out _ _ (HSS.out _ hb_6) (fun hS_6 => ?_)
                clear hK K
                try simp only [Act.put, List.setIfInBounds_toArray, List.set_cons_zero, List.set_cons_succ]
                refine wpAnyH_take (i := 19) (oi := ⟨some 66, _, _, _, _, _⟩) (v := .bool false) rfl (by kernel_rfl) (by kernel_rfl) (by kernel_rfl) (fun _ _ _ h => h) (.inl ⟨by kernel_rfl, fun W hW => by kernel_rfl⟩) hS_6 ?_
                try simp only [Act.put, List.setIfInBounds_toArray, List.set_cons_zero, List.set_cons_succ]
                refine wpAnyH_take (i := 20) (oi := ⟨some 67, _, _, _, _, _⟩) (v := undef) rfl (by kernel_rfl) (by kernel_rfl) (by kernel_rfl) (fun _ _ _ h => h) (.inr ⟨by kernel_rfl, rfl⟩) hS_6 ?_
                try simp only [Act.put, List.setIfInBounds_toArray, List.set_cons_zero, List.set_cons_succ]
                refine wpAnyH_take (i := 21) (oi := ⟨some 68, _, _, _, _, _⟩) (v := undef) rfl (by kernel_rfl) (by kernel_rfl) (by kernel_rfl) (fun _ _ _ h => h) (.inr ⟨by kernel_rfl, rfl⟩) hS_6 ?_
                try simp only [Act.put, List.setIfInBounds_toArray, List.set_cons_zero, List.set_cons_succ]
                refine wpAnyH_take (i := 22) (oi := ⟨some 69, _, _, _, _, _⟩) (v := undef) rfl (by kernel_rfl) (by kernel_rfl) (by kernel_rfl) (fun _ _ _ h => h) (.inr ⟨by kernel_rfl, rfl⟩) hS_6 ?_
                try simp only [Act.put, List.setIfInBounds_toArray, List.set_cons_zero, List.set_cons_succ]
                refine wpAnyH_take (i := 23) (oi := ⟨some 70, _, _, _, _, _⟩) (v := undef) rfl (by kernel_rfl) (by kernel_rfl) (by kernel_rfl) (fun _ _ _ h => h) (.inr ⟨by kernel_rfl, rfl⟩) hS_6 ?_
                try simp only [Act.put, List.setIfInBounds_toArray, List.set_cons_zero, List.set_cons_succ]
                refine wpAnyH_take (i := 24) (oi := ⟨some 71, _, _, _, _, _⟩) (v := .bool false) rfl (by kernel_rfl) (by kernel_rfl) (by kernel_rfl) (fun _ _ _ h => h) (.inl ⟨by kernel_rfl, fun W hW => by kernel_rfl⟩) hS_6 ?_
                try simp only [Act.put, List.setIfInBounds_toArray, List.set_cons_zero, List.set_cons_succ]
                refine wpAnyH_take (i := 25) (oi := ⟨some 72, _, _, _, _, _⟩) (v := .bool false) rfl (by kernel_rfl) (by kernel_rfl) (by kernel_rfl) (fun _ _ _ h => h) (.inl ⟨by kernel_rfl, fun W hW => by kernel_rfl⟩) hS_6 ?_
                try simp only [Act.put, List.setIfInBounds_toArray, List.set_cons_zero, List.set_cons_succ]
                refine wpAnyH_done (by kernel_rfl) ?_ _
                have hbx := hb_6
                have hx0 := HX0.out.step hbx
                have hx1 := HX1.out.step hbx
                have hxp := HXp.out.step hbx
                clear HSS HB hbx HX0 HX1 HXp ht0_2_3_4_5_6 ht1_2_3_4_5_6 htp_2_3_4_5_6
                clear HM4 HZP HZt HZs HM0
                obtain ⟨V7, hV7⟩ : ∃ V, V = u_6 := ⟨_, rfl⟩
                rw [← hV7] at hx0 hx1 hxp ⊢
                clear hV7
                by_cases hn0 : 0 < nu
                · have hn1 : (0 : Int) < (nu : Int) := by omega
                  go_upto_region 7 with fail
                  have hu0 := hx0.tin
                  have hu1 := hx1.tin
                  have hup := hxp.tin
                  have HB7 := Lib.hid hx0.bw
                  have HS7 : Hid (∀ V', Below V7.heap.size V7 V' → (fun V' : World => (V'.cell? ⟨g0, 0, none⟩ = some (.int .i64 tk) ∧ V'.cell? ⟨g0, 1, none⟩ = some (.int .i64 tn) ∧ V'.cell? ⟨g0, 2, none⟩ = some (.string tz) ∧ V'.cell? ⟨g0, 3, none⟩ = some (.slice A0 tl.length (capF tl.length c0)) ∧ V'.cell? ⟨g1, 0, none⟩ = some (.int .i64 sk) ∧ V'.cell? ⟨g1, 1, none⟩ = some (.int .i64 sn) ∧ V'.cell? ⟨g1, 2, none⟩ = some (.string sz) ∧ V'.cell? ⟨g1, 3, none⟩ = some (.slice A1 sl.length (capF sl.length c1)) ∧ V'.cell? ⟨gp, 0, none⟩ = some (.int .i64 pk) ∧ V'.cell? ⟨gp, 1, none⟩ = some (.int .i64 pn) ∧ V'.cell? ⟨gp, 2, none⟩ = some (.string pz) ∧ V'.cell? ⟨gp, 3, none⟩ = some (.slice Ap pl.length (capF pl.length cp)))) V') := Lib.hid fun V' h =>
                    ⟨(h.cell (p := ⟨g0, 0, none⟩) hx0.box.lt).trans (hx0.box.cell 0), (h.cell (p := ⟨g0, 1, none⟩) hx0.box.lt).trans (hx0.box.cell 1), (h.cell (p := ⟨g0, 2, none⟩) hx0.box.lt).trans (hx0.box.cell 2), (h.cell (p := ⟨g0, 3, none⟩) hx0.box.lt).trans (hx0.box.cell 3), (h.cell (p := ⟨g1, 0, none⟩) hx1.box.lt).trans (hx1.box.cell 0), (h.cell (p := ⟨g1, 1, none⟩) hx1.box.lt).trans (hx1.box.cell 1), (h.cell (p := ⟨g1, 2, none⟩) hx1.box.lt).trans (hx1.box.cell 2), (h.cell (p := ⟨g1, 3, none⟩) hx1.box.lt).trans (hx1.box.cell 3), (h.cell (p := ⟨gp, 0, none⟩) hxp.box.lt).trans (hxp.box.cell 0), (h.cell (p := ⟨gp, 1, none⟩) hxp.box.lt).trans (hxp.box.cell 1), (h.cell (p := ⟨gp, 2, none⟩) hxp.box.lt).trans (hxp.box.cell 2), (h.cell (p := ⟨gp, 3, none⟩) hxp.box.lt).trans (hxp.box.cell 3)⟩
                  clear hx0 hx1 hxp
                  have hb_1 : Below V7.heap.size V7 V7 := Below.refl _ _
                  refine wp_region_K (S := (fun V' : World => (V'.cell? ⟨g0, 0, none⟩ = some (.int .i64 tk) ∧ V'.cell? ⟨g0, 1, none⟩ = some (.int .i64 tn) ∧ V'.cell? ⟨g0, 2, none⟩ = some (.string tz) ∧ V'.cell? ⟨g0, 3, none⟩ = some (.slice A0 tl.length (capF tl.length c0)) ∧ V'.cell? ⟨g1, 0, none⟩ = some (.int .i64 sk) ∧ V'.cell? ⟨g1, 1, none⟩ = some (.int .i64 sn) ∧ V'.cell? ⟨g1, 2, none⟩ = some (.string sz) ∧ V'.cell? ⟨g1, 3, none⟩ = some (.slice A1 sl.length (capF sl.length c1)) ∧ V'.cell? ⟨gp, 0, none⟩ = some (.int .i64 pk) ∧ V'.cell? ⟨gp, 1, none⟩ = some (.int .i64 pn) ∧ V'.cell? ⟨gp, 2, none⟩ = some (.string pz) ∧ V'.cell? ⟨gp, 3, none⟩ = some (.slice Ap pl.length (capF pl.length cp))))) 10 rfl (HS7.out _ hb_1.drew) (fun hSs => ?_)
                  change wpAnyK _ _ _ _ _ _ 11 (Array.replicate 11 false) _ _
                  refine wpAnyK_take (i := 0) (oi := ⟨some 73, _, _, _, _, _⟩) (v := .int .i64 (nu : Int)) rfl (by kernel_rfl) (by kernel_rfl) (by kernel_rfl) (by kernel_rfl) (fun _ _ _ h => h) (.inl ⟨by kernel_rfl, fun W hW => by kernel_rfl⟩) hSs ?_
                  try simp only [Act.put, List.setIfInBounds_toArray, List.set_cons_zero, List.set_cons_succ]
                  refine wpAnyK_take (i := 1) (oi := ⟨some 74, _, _, _, _, _⟩) (v := .bool true) rfl (by kernel_rfl) (by kernel_rfl) (by kernel_rfl) (by kernel_rfl) (fun _ _ _ h => h) (.inl ⟨by kernel_rfl, fun W hW => by first | (obtain ⟨z0, z1, z2, z3, z4, z5, z6, z7, z8, z9, z10, z11⟩ := hW; go_simp; done) | (obtain ⟨z0, z1, z2, z3, z4, z5, z6, z7, z8, z9, z10, z11⟩ := hW; go_simp; omega) | (obtain ⟨z0, z1, z2, z3, z4, z5, z6, z7, z8, z9, z10, z11⟩ := hW; go_simp; exact IntWalk.i64_in _ (by omega)) | (obtain ⟨z0, z1, z2, z3, z4, z5, z6, z7, z8, z9, z10, z11⟩ := hW; go_simp; exact IntWalk.i64_in _ (by omega)) | (obtain ⟨z0, z1, z2, z3, z4, z5, z6, z7, z8, z9, z10, z11⟩ := hW; go_simp; simp [*]; done)⟩) hSs ?_
                  try simp only [Act.put, List.setIfInBounds_toArray, List.set_cons_zero, List.set_cons_succ]
                  refine wpAnyK_take (i := 2) (oi := ⟨some 75, _, _, _, _, _⟩) (v := .bool true) rfl (by kernel_rfl) (by kernel_rfl) (by kernel_rfl) (by kernel_rfl) (fun _ _ _ h => h) (.inl ⟨by kernel_rfl, fun W hW => by kernel_rfl⟩) hSs ?_
                  try simp only [Act.put, List.setIfInBounds_toArray, List.set_cons_zero, List.set_cons_succ]
                  refine wpAnyK_take (i := 3) (oi := ⟨some 76, _, _, _, _, _⟩) (v := undef) rfl (by kernel_rfl) (by kernel_rfl) (by kernel_rfl) (by kernel_rfl) (fun _ _ _ h => h) (.inr ⟨by kernel_rfl, rfl⟩) hSs ?_
                  try simp only [Act.put, List.setIfInBounds_toArray, List.set_cons_zero, List.set_cons_succ]
                  refine wpAnyK_take (i := 4) (oi := ⟨some 77, _, _, _, _, _⟩) (v := undef) rfl (by kernel_rfl) (by kernel_rfl) (by kernel_rfl) (by kernel_rfl) (fun _ _ _ h => h) (.inr ⟨by kernel_rfl, rfl⟩) hSs ?_
                  try simp only [Act.put, List.setIfInBounds_toArray, List.set_cons_zero, List.set_cons_succ]
                  refine wpAnyK_take (i := 5) (oi := ⟨some 78, _, _, _, _, _⟩) (v := undef) rfl (by kernel_rfl) (by kernel_rfl) (by kernel_rfl) (by kernel_rfl) (fun _ _ _ h => h) (.inr ⟨by kernel_rfl, rfl⟩) hSs ?_
                  try simp only [Act.put, List.setIfInBounds_toArray, List.set_cons_zero, List.set_cons_succ]
                  refine wpAnyK_take (i := 6) (oi := ⟨some 79, _, _, _, _, _⟩) (v := undef) rfl (by kernel_rfl) (by kernel_rfl) (by kernel_rfl) (by kernel_rfl) (fun _ _ _ h => h) (.inr ⟨by kernel_rfl, rfl⟩) hSs ?_
                  try simp only [Act.put, List.setIfInBounds_toArray, List.set_cons_zero, List.set_cons_succ]
                  refine wpAnyK_take (i := 7) (oi := ⟨some 80, _, _, _, _, _⟩) (v := undef) rfl (by kernel_rfl) (by kernel_rfl) (by kernel_rfl) (by kernel_rfl) (fun _ _ _ h => h) (.inr ⟨by kernel_rfl, rfl⟩) hSs ?_
                  try simp only [Act.put, List.setIfInBounds_toArray, List.set_cons_zero, List.set_cons_succ]
                  refine wpAnyK_take (i := 8) (oi := ⟨some 81, _, _, _, _, _⟩) (v := undef) rfl (by kernel_rfl) (by kernel_rfl) (by kernel_rfl) (by kernel_rfl) (fun _ _ _ h => h) (.inr ⟨by kernel_rfl, rfl⟩) hSs ?_
                  try simp only [Act.put, List.setIfInBounds_toArray, List.set_cons_zero, List.set_cons_succ]
                  refine wpAnyK_take (i := 9) (oi := ⟨some 82, _, _, _, _, _⟩) (v := .bool true) rfl (by kernel_rfl) (by kernel_rfl) (by kernel_rfl) (by kernel_rfl) (fun _ _ _ h => h) (.inl ⟨by kernel_rfl, fun W hW => by kernel_rfl⟩) hSs ?_
                  try simp only [Act.put, List.setIfInBounds_toArray, List.set_cons_zero, List.set_cons_succ]
                  refine wpAnyK_oneW (i := 10) rfl (by kernel_rfl) (by kernel_rfl) (fun K hK => ?_)
                  go_simp
                  refine hK.out _ _ (fun h => absurd rfl h) (fun _ => ?_)
                  clear hK K
                  try simp only [Act.put, List.setIfInBounds_toArray, List.set_cons_zero, List.set_cons_succ]
                  refine wpAnyK_done (by kernel_rfl) ?_ _
                  go_wp2_with fail
                  go_ret
                  exact ⟨rfl, HB7.out.trans ((hb_1.drew).mono HB7.out.size)⟩
                · have hn1 : ¬ (0 : Int) < (nu : Int) := by omega
                  go_upto_region 7 with fail
                  have hu0 := hx0.tin
                  have hu1 := hx1.tin
                  have hup := hxp.tin
                  have HB7 := Lib.hid hx0.bw
                  have HS7 : Hid (∀ V', Below V7.heap.size V7 V' → (fun V' : World => (V'.cell? ⟨g0, 0, none⟩ = some (.int .i64 tk) ∧ V'.cell? ⟨g0, 1, none⟩ = some (.int .i64 tn) ∧ V'.cell? ⟨g0, 2, none⟩ = some (.string tz) ∧ V'.cell? ⟨g0, 3, none⟩ = some (.slice A0 tl.length (capF tl.length c0)) ∧ V'.cell? ⟨g1, 0, none⟩ = some (.int .i64 sk) ∧ V'.cell? ⟨g1, 1, none⟩ = some (.int .i64 sn) ∧ V'.cell? ⟨g1, 2, none⟩ = some (.string sz) ∧ V'.cell? ⟨g1, 3, none⟩ = some (.slice A1 sl.length (capF sl.length c1)) ∧ V'.cell? ⟨gp, 0, none⟩ = some (.int .i64 pk) ∧ V'.cell? ⟨gp, 1, none⟩ = some (.int .i64 pn) ∧ V'.cell? ⟨gp, 2, none⟩ = some (.string pz) ∧ V'.cell? ⟨gp, 3, none⟩ = some (.slice Ap pl.length (capF pl.length cp)))) V') := Lib.hid fun V' h =>
                    ⟨(h.cell (p := ⟨g0, 0, none⟩) hx0.box.lt).trans (hx0.box.cell 0), (h.cell (p := ⟨g0, 1, none⟩) hx0.box.lt).trans (hx0.box.cell 1), (h.cell (p := ⟨g0, 2, none⟩) hx0.box.lt).trans (hx0.box.cell 2), (h.cell (p := ⟨g0, 3, none⟩) hx0.box.lt).trans (hx0.box.cell 3), (h.cell (p := ⟨g1, 0, none⟩) hx1.box.lt).trans (hx1.box.cell 0), (h.cell (p := ⟨g1, 1, none⟩) hx1.box.lt).trans (hx1.box.cell 1), (h.cell (p := ⟨g1, 2, none⟩) hx1.box.lt).trans (hx1.box.cell 2), (h.cell (p := ⟨g1, 3, none⟩) hx1.box.lt).trans (hx1.box.cell 3), (h.cell (p := ⟨gp, 0, none⟩) hxp.box.lt).trans (hxp.box.cell 0), (h.cell (p := ⟨gp, 1, none⟩) hxp.box.lt).trans (hxp.box.cell 1), (h.cell (p := ⟨gp, 2, none⟩) hxp.box.lt).trans (hxp.box.cell 2), (h.cell (p := ⟨gp, 3, none⟩) hxp.box.lt).trans (hxp.box.cell 3)⟩
                  have HV0 : Hid (∀ X, Below V7.heap.size V7 X → Calls Try.prog 23 #[.int .i64 0] X fun e w' => ∃ A c, e = .returned (.agg #[.int .i64 1, .int .i64 0, .string n0B, .slice A 0 (capF 0 c)]) ∧ EIn w' Any (vE 0) A ∧ Below X.heap.size X w') := Lib.hid fun X hX => vl_any 0 X (by decide) (by decide)
                  have HPU : Hid (∀ X, Below V7.heap.size V7 X → ∀ (A : Option Addr) (c : Nat) (hA : EIn X Any (.node tk tn tz tl) A) (B : Option Addr) (d : Nat) (hB : EIn X Any (vE 0) B), Calls Try.prog 15 #[.agg #[.int .i64 tk, .int .i64 tn, .string tz, .slice A tl.length (capF tl.length c)], .int .i64 j, .agg #[.int .i64 1, .int .i64 0, .string n0B, .slice B 0 (capF 0 d)]] X fun e w' => ∃ A c, e = .returned (.agg #[.int .i64 pk, .int .i64 pn, .string pz, .slice A pl.length (capF pl.length c)]) ∧ EIn w' Any (.node pk pn pz pl) A ∧ Below X.heap.size X w') := Lib.hid fun X hX A c hA B d hB => by
                    have h := put_any (.node tk tn tz tl) (vE 0) A B c d j X hA (by omega) (by omega) (tameE_mono (by omega) (by omega) _ htq) hB (by decide) (by decide) (tameB_spec _ (by decide)) (by omega) (by omega)
                    rw [HP0.out (by omega)] at h
                    exact h.mono fun e w' h => h.any
                  have HSQ : Hid (∀ X, Below V7.heap.size V7 X → ∀ (A : Option Addr) (c : Nat) (hA : EIn X Any (.node pk pn pz pl) A) (B : Option Addr) (d : Nat) (hB : EIn X Any (.node pk pn pz pl) B), Calls Try.prog 12 #[.agg #[.int .i64 pk, .int .i64 pn, .string pz, .slice A pl.length (capF pl.length c)], .agg #[.int .i64 pk, .int .i64 pn, .string pz, .slice B pl.length (capF pl.length d)]] X fun e w' => e = .returned (.bool true) ∧ Below X.heap.size X w') := Lib.hid fun X hX A c hA B d hB => by
                    have h := rsame6_any (depthE (.node pk pn pz pl)) (.node pk pn pz pl) (.node pk pn pz pl) A B c d X (Nat.le_refl _) hA hB
                    rw [sameE_refl] at h
                    exact h
                  clear hx0 hx1 hxp
                  have hb_1 : Below V7.heap.size V7 V7 := Below.refl _ _
                  refine wp_region_K (S := (fun V' : World => (V'.cell? ⟨g0, 0, none⟩ = some (.int .i64 tk) ∧ V'.cell? ⟨g0, 1, none⟩ = some (.int .i64 tn) ∧ V'.cell? ⟨g0, 2, none⟩ = some (.string tz) ∧ V'.cell? ⟨g0, 3, none⟩ = some (.slice A0 tl.length (capF tl.length c0)) ∧ V'.cell? ⟨g1, 0, none⟩ = some (.int .i64 sk) ∧ V'.cell? ⟨g1, 1, none⟩ = some (.int .i64 sn) ∧ V'.cell? ⟨g1, 2, none⟩ = some (.string sz) ∧ V'.cell? ⟨g1, 3, none⟩ = some (.slice A1 sl.length (capF sl.length c1)) ∧ V'.cell? ⟨gp, 0, none⟩ = some (.int .i64 pk) ∧ V'.cell? ⟨gp, 1, none⟩ = some (.int .i64 pn) ∧ V'.cell? ⟨gp, 2, none⟩ = some (.string pz) ∧ V'.cell? ⟨gp, 3, none⟩ = some (.slice Ap pl.length (capF pl.length cp))))) 10 rfl (HS7.out _ hb_1.drew) (fun hSs => ?_)
                  change wpAnyK _ _ _ _ _ _ 11 (Array.replicate 11 false) _ _
                  refine wpAnyK_take (i := 0) (oi := ⟨some 73, _, _, _, _, _⟩) (v := .int .i64 (nu : Int)) rfl (by kernel_rfl) (by kernel_rfl) (by kernel_rfl) (by kernel_rfl) (fun _ _ _ h => h) (.inl ⟨by kernel_rfl, fun W hW => by kernel_rfl⟩) hSs ?_
                  try simp only [Act.put, List.setIfInBounds_toArray, List.set_cons_zero, List.set_cons_succ]
                  refine wpAnyK_take (i := 1) (oi := ⟨some 74, _, _, _, _, _⟩) (v := .bool false) rfl (by kernel_rfl) (by kernel_rfl) (by kernel_rfl) (by kernel_rfl) (fun _ _ _ h => h) (.inl ⟨by kernel_rfl, fun W hW => by first | (obtain ⟨z0, z1, z2, z3, z4, z5, z6, z7, z8, z9, z10, z11⟩ := hW; go_simp; done) | (obtain ⟨z0, z1, z2, z3, z4, z5, z6, z7, z8, z9, z10, z11⟩ := hW; go_simp; omega) | (obtain ⟨z0, z1, z2, z3, z4, z5, z6, z7, z8, z9, z10, z11⟩ := hW; go_simp; exact IntWalk.i64_in _ (by omega)) | (obtain ⟨z0, z1, z2, z3, z4, z5, z6, z7, z8, z9, z10, z11⟩ := hW; go_simp; exact IntWalk.i64_in _ (by omega)) | (obtain ⟨z0, z1, z2, z3, z4, z5, z6, z7, z8, z9, z10, z11⟩ := hW; go_simp; simp [*]; done)⟩) hSs ?_
                  try simp only [Act.put, List.setIfInBounds_toArray, List.set_cons_zero, List.set_cons_succ]
                  refine wpAnyK_take (i := 2) (oi := ⟨some 75, _, _, _, _, _⟩) (v := .bool false) rfl (by kernel_rfl) (by kernel_rfl) (by kernel_rfl) (by kernel_rfl) (fun _ _ _ h => h) (.inl ⟨by kernel_rfl, fun W hW => by kernel_rfl⟩) hSs ?_
                  try simp only [Act.put, List.setIfInBounds_toArray, List.set_cons_zero, List.set_cons_succ]
                  refine wpAnyK_take (i := 3) (oi := ⟨some 76, _, _, _, _, _⟩) (v := .agg #[.int .i64 pk, .int .i64 pn, .string pz, .slice Ap pl.length (capF pl.length cp)]) rfl (by kernel_rfl) (by kernel_rfl) (by kernel_rfl) (by kernel_rfl) (fun _ _ _ h => h) (.inl ⟨by kernel_rfl, fun W hW => by first | (obtain ⟨z0, z1, z2, z3, z4, z5, z6, z7, z8, z9, z10, z11⟩ := hW; go_simp; done) | (obtain ⟨z0, z1, z2, z3, z4, z5, z6, z7, z8, z9, z10, z11⟩ := hW; go_simp; omega) | (obtain ⟨z0, z1, z2, z3, z4, z5, z6, z7, z8, z9, z10, z11⟩ := hW; go_simp; exact IntWalk.i64_in _ (by omega)) | (obtain ⟨z0, z1, z2, z3, z4, z5, z6, z7, z8, z9, z10, z11⟩ := hW; go_simp; exact IntWalk.i64_in _ (by omega)) | (obtain ⟨z0, z1, z2, z3, z4, z5, z6, z7, z8, z9, z10, z11⟩ := hW; go_simp; simp [*]; done)⟩) hSs ?_
                  try simp only [Act.put, List.setIfInBounds_toArray, List.set_cons_zero, List.set_cons_succ]
                  refine wpAnyK_take (i := 4) (oi := ⟨some 77, _, _, _, _, _⟩) (v := .agg #[.int .i64 tk, .int .i64 tn, .string tz, .slice A0 tl.length (capF tl.length c0)]) rfl (by kernel_rfl) (by kernel_rfl) (by kernel_rfl) (by kernel_rfl) (fun _ _ _ h => h) (.inl ⟨by kernel_rfl, fun W hW => by first | (obtain ⟨z0, z1, z2, z3, z4, z5, z6, z7, z8, z9, z10, z11⟩ := hW; go_simp; done) | (obtain ⟨z0, z1, z2, z3, z4, z5, z6, z7, z8, z9, z10, z11⟩ := hW; go_simp; omega) | (obtain ⟨z0, z1, z2, z3, z4, z5, z6, z7, z8, z9, z10, z11⟩ := hW; go_simp; exact IntWalk.i64_in _ (by omega)) | (obtain ⟨z0, z1, z2, z3, z4, z5, z6, z7, z8, z9, z10, z11⟩ := hW; go_simp; exact IntWalk.i64_in _ (by omega)) | (obtain ⟨z0, z1, z2, z3, z4, z5, z6, z7, z8, z9, z10, z11⟩ := hW; go_simp; simp [*]; done)⟩) hSs ?_
                  try simp only [Act.put, List.setIfInBounds_toArray, List.set_cons_zero, List.set_cons_succ]
                  refine wpAnyK_take (i := 5) (oi := ⟨some 78, _, _, _, _, _⟩) (v := .int .i64 j) rfl (by kernel_rfl) (by kernel_rfl) (by kernel_rfl) (by kernel_rfl) (fun _ _ _ h => h) (.inl ⟨by kernel_rfl, fun W hW => by kernel_rfl⟩) hSs ?_
                  try simp only [Act.put, List.setIfInBounds_toArray, List.set_cons_zero, List.set_cons_succ]
                  refine wpAnyK_oneW (i := 6) rfl (by kernel_rfl) (by kernel_rfl) (fun K hK => ?_)
                  go_simp
                  refine (HV0.out _ (hb_1.drew)).mono ?_
                  rintro e u_2 ⟨A_2, c_2, rfl, hT_2, hq_2⟩
                  have hb_2 := (hb_1.drew).trans (hq_2.mono (hb_1.drew).size)
                  have hu0_2 := EIn.below _ (EIn.below _ hu0 (Below.refl _ _).drew (Nat.le_refl _)) hq_2 (Nat.le_refl _)
                  have hu1_2 := EIn.below _ (EIn.below _ hu1 (Below.refl _ _).drew (Nat.le_refl _)) hq_2 (Nat.le_refl _)
                  have hup_2 := EIn.below _ (EIn.below _ hup (Below.refl _ _).drew (Nat.le_refl _)) hq_2 (Nat.le_refl _)
                  clear hu0 hu1 hup
                  refine hK.out _ _ (fun _ => HS7.out _ hb_2) (fun hS9 => ?_)
                  have hS_2 := hS9 (by decide)
                  clear hK K hS9
                  try simp only [Act.put, List.setIfInBounds_toArray, List.set_cons_zero, List.set_cons_succ]
                  refine wpAnyK_oneW (i := 7) rfl (by kernel_rfl) (by kernel_rfl) (fun K hK => ?_)
                  go_simp
                  refine (HPU.out _ hb_2 A0 c0 hu0_2 A_2 c_2 hT_2).mono ?_
                  rintro e u_3 ⟨A_3, c_3, rfl, hT_3, hq_3⟩
                  have hb_3 := hb_2.trans (hq_3.mono hb_2.size)
                  have hu0_2_3 := EIn.below _ hu0_2 hq_3 (Nat.le_refl _)
                  have hu1_2_3 := EIn.below _ hu1_2 hq_3 (Nat.le_refl _)
                  have hup_2_3 := EIn.below _ hup_2 hq_3 (Nat.le_refl _)
                  have hT_2_3 := EIn.below _ hT_2 hq_3 (Nat.le_refl _)
                  clear hu0_2 hu1_2 hup_2 hT_2
                  refine hK.out _ _ (fun _ => HS7.out _ hb_3) (fun hS9 => ?_)
                  have hS_3 := hS9 (by decide)
                  clear hK K hS9
                  try simp only [Act.put, List.setIfInBounds_toArray, List.set_cons_zero, List.set_cons_succ]
                  refine wpAnyK_oneW (i := 8) rfl (by kernel_rfl) (by kernel_rfl) (fun K hK => ?_)
                  go_simp
                  refine (HSQ.out _ hb_3 Ap cp hup_2_3 A_3 c_3 hT_3).mono ?_
                  rintro e u_4 ⟨rfl, hq_4⟩
                  have hb_4 := hb_3.trans (hq_4.mono hb_3.size)
                  have hu0_2_3_4 := EIn.below _ hu0_2_3 hq_4 (Nat.le_refl _)
                  have hu1_2_3_4 := EIn.below _ hu1_2_3 hq_4 (Nat.le_refl _)
                  have hup_2_3_4 := EIn.below _ hup_2_3 hq_4 (Nat.le_refl _)
                  have hT_2_3_4 := EIn.below _ hT_2_3 hq_4 (Nat.le_refl _)
                  have hT_3_4 := EIn.below _ hT_3 hq_4 (Nat.le_refl _)
                  clear hu0_2_3 hu1_2_3 hup_2_3 hT_2_3 hT_3
                  refine hK.out _ _ (fun _ => HS7.out _ hb_4) (fun hS9 => ?_)
                  have hS_4 := hS9 (by decide)
                  clear hK K hS9
                  try simp only [Act.put, List.setIfInBounds_toArray, List.set_cons_zero, List.set_cons_succ]
                  refine wpAnyK_take (i := 9) (oi := ⟨some 82, _, _, _, _, _⟩) (v := .bool true) rfl (by kernel_rfl) (by kernel_rfl) (by kernel_rfl) (by kernel_rfl) (fun _ _ _ h => h) (.inl ⟨by kernel_rfl, fun W hW => by kernel_rfl⟩) hS_4 ?_
                  try simp only [Act.put, List.setIfInBounds_toArray, List.set_cons_zero, List.set_cons_succ]
                  refine wpAnyK_oneW (i := 10) rfl (by kernel_rfl) (by kernel_rfl) (fun K hK => ?_)
                  go_simp
                  refine hK.out _ _ (fun h => absurd rfl h) (fun _ => ?_)
                  clear hK K
                  try simp only [Act.put, List.setIfInBounds_toArray, List.set_cons_zero, List.set_cons_succ]
                  refine wpAnyK_done (by kernel_rfl) ?_ _
                  go_wp2_with fail
                  go_ret
                  exact ⟨rfl, HB7.out.trans (hb_4.mono HB7.out.size)⟩
              · have ht0 := hx0.tin
                have ht1 := hx1.tin
                have htp := hxp.tin
                have HB := Lib.hid hx0.bw
                have HSS : Hid (∀ V', Below V.heap.size V V' → (fun V' : World => (V'.cell? ⟨g0, 0, none⟩ = some (.int .i64 tk) ∧ V'.cell? ⟨g0, 1, none⟩ = some (.int .i64 tn) ∧ V'.cell? ⟨g0, 2, none⟩ = some (.string tz) ∧ V'.cell? ⟨g0, 3, none⟩ = some (.slice A0 tl.length (capF tl.length c0)) ∧ V'.cell? ⟨g1, 0, none⟩ = some (.int .i64 sk) ∧ V'.cell? ⟨g1, 1, none⟩ = some (.int .i64 sn) ∧ V'.cell? ⟨g1, 2, none⟩ = some (.string sz) ∧ V'.cell? ⟨g1, 3, none⟩ = some (.slice A1 sl.length (capF sl.length c1)) ∧ V'.cell? ⟨gp, 0, none⟩ = some (.int .i64 pk) ∧ V'.cell? ⟨gp, 1, none⟩ = some (.int .i64 pn) ∧ V'.cell? ⟨gp, 2, none⟩ = some (.string pz) ∧ V'.cell? ⟨gp, 3, none⟩ = some (.slice Ap pl.length (capF pl.length cp)))) V') := Lib.hid fun V' h =>
                  ⟨(h.cell (p := ⟨g0, 0, none⟩) hx0.box.lt).trans (hx0.box.cell 0), (h.cell (p := ⟨g0, 1, none⟩) hx0.box.lt).trans (hx0.box.cell 1), (h.cell (p := ⟨g0, 2, none⟩) hx0.box.lt).trans (hx0.box.cell 2), (h.cell (p := ⟨g0, 3, none⟩) hx0.box.lt).trans (hx0.box.cell 3), (h.cell (p := ⟨g1, 0, none⟩) hx1.box.lt).trans (hx1.box.cell 0), (h.cell (p := ⟨g1, 1, none⟩) hx1.box.lt).trans (hx1.box.cell 1), (h.cell (p := ⟨g1, 2, none⟩) hx1.box.lt).trans (hx1.box.cell 2), (h.cell (p := ⟨g1, 3, none⟩) hx1.box.lt).trans (hx1.box.cell 3), (h.cell (p := ⟨gp, 0, none⟩) hxp.box.lt).trans (hxp.box.cell 0), (h.cell (p := ⟨gp, 1, none⟩) hxp.box.lt).trans (hxp.box.cell 1), (h.cell (p := ⟨gp, 2, none⟩) hxp.box.lt).trans (hxp.box.cell 2), (h.cell (p := ⟨gp, 3, none⟩) hxp.box.lt).trans (hxp.box.cell 3)⟩
                have HM4 : Hid (∀ X, Below V.heap.size V X → ∀ (A : Option Addr) (c : Nat) (hA : EIn X Any (.node pk pn pz pl) A), Calls Try.prog 21 #[.agg #[.int .i64 pk, .int .i64 pn, .string pz, .slice A pl.length (capF pl.length c)], .int .i64 4] X fun e w' => e = .returned (.bool true) ∧ Below X.heap.size X w') := Lib.hid fun X hX A c hA => by
                  have h := rMay6_any (.node pk pn pz pl) A c 4 X hA (by omega) (by omega) (by omega)
                  rw [hmp] at h
                  exact h
                have HZP : Hid (∀ X, Below V.heap.size V X → ∀ (A : Option Addr) (c : Nat) (hA : EIn X Any (.node pk pn pz pl) A), Calls Try.prog 22 #[.agg #[.int .i64 pk, .int .i64 pn, .string pz, .slice A pl.length (capF pl.length c)]] X fun e w' => e = .returned (.int .i64 ((zt : Int) + ((nu : Int) * ((zs : Int) - 1)))) ∧ Below X.heap.size X w') := Lib.hid fun X hX A c hA => by
                  have h := rsize6_any (depthE (.node pk pn pz pl)) (.node pk pn pz pl) A c X (Nat.le_refl _) (by omega) hA
                  rw [HZA.out] at h
                  exact h
                have HZt : Hid (∀ X, Below V.heap.size V X → ∀ (A : Option Addr) (c : Nat) (hA : EIn X Any (.node tk tn tz tl) A), Calls Try.prog 22 #[.agg #[.int .i64 tk, .int .i64 tn, .string tz, .slice A tl.length (capF tl.length c)]] X fun e w' => e = .returned (.int .i64 (zt : Int)) ∧ Below X.heap.size X w') := Lib.hid fun X hX A c hA => by
                  have h := rsize6_any (depthE (.node tk tn tz tl)) (.node tk tn tz tl) A c X (Nat.le_refl _) (by omega) hA
                  rw [← HZT.out] at h
                  exact h
                have HZs : Hid (∀ X, Below V.heap.size V X → ∀ (A : Option Addr) (c : Nat) (hA : EIn X Any (.node sk sn sz sl) A), Calls Try.prog 22 #[.agg #[.int .i64 sk, .int .i64 sn, .string sz, .slice A sl.length (capF sl.length c)]] X fun e w' => e = .returned (.int .i64 (zs : Int)) ∧ Below X.heap.size X w') := Lib.hid fun X hX A c hA => by
                  have h := rsize6_any (depthE (.node sk sn sz sl)) (.node sk sn sz sl) A c X (Nat.le_refl _) (by omega) hA
                  rw [← HZS.out] at h
                  exact h
                have HM0 : Hid (∀ X, Below V.heap.size V X → ∀ (A : Option Addr) (c : Nat) (hA : EIn X Any (.node tk tn tz tl) A), Calls Try.prog 21 #[.agg #[.int .i64 tk, .int .i64 tn, .string tz, .slice A tl.length (capF tl.length c)], .int .i64 0] X fun e w' => e = .returned (.bool true) ∧ Below X.heap.size X w') := Lib.hid fun X hX A c hA => by
                  have h := rMay6_any (.node tk tn tz tl) A c 0 X hA (by omega) (by omega) (by omega)
                  rw [hmt0] at h
                  exact h
                have HSP : Hid (∀ X, Below V.heap.size V X → ∀ (A : Option Addr) (c : Nat) (hA : EIn X Any (.node pk pn pz pl) A) (B : Option Addr) (d : Nat) (hB : EIn X Any (.node tk tn tz tl) B), Calls Try.prog 12 #[.agg #[.int .i64 pk, .int .i64 pn, .string pz, .slice A pl.length (capF pl.length c)], .agg #[.int .i64 tk, .int .i64 tn, .string tz, .slice B tl.length (capF tl.length d)]] X fun e w' => e = .returned (.bool true) ∧ Below X.heap.size X w') := Lib.hid fun X hX A c hA B d hB => by
                  have h := rsame6_any (depthE (.node pk pn pz pl)) (.node pk pn pz pl) (.node tk tn tz tl) A B c d X (Nat.le_refl _) hA hB
                  rw [show sameE (.node pk pn pz pl) (.node tk tn tz tl) = true from by rw [HPT.out hmt0]; exact sameE_refl _] at h
                  exact h
                have HX0 := Lib.hid hx0
                have HX1 := Lib.hid hx1
                have HXp := Lib.hid hxp
                clear hx0 hx1 hxp
                have hb_1 : Below V.heap.size V V := Below.refl _ _
                refine wp_region_held_drew (S := (fun V' : World => (V'.cell? ⟨g0, 0, none⟩ = some (.int .i64 tk) ∧ V'.cell? ⟨g0, 1, none⟩ = some (.int .i64 tn) ∧ V'.cell? ⟨g0, 2, none⟩ = some (.string tz) ∧ V'.cell? ⟨g0, 3, none⟩ = some (.slice A0 tl.length (capF tl.length c0)) ∧ V'.cell? ⟨g1, 0, none⟩ = some (.int .i64 sk) ∧ V'.cell? ⟨g1, 1, none⟩ = some (.int .i64 sn) ∧ V'.cell? ⟨g1, 2, none⟩ = some (.string sz) ∧ V'.cell? ⟨g1, 3, none⟩ = some (.slice A1 sl.length (capF sl.length c1)) ∧ V'.cell? ⟨gp, 0, none⟩ = some (.int .i64 pk) ∧ V'.cell? ⟨gp, 1, none⟩ = some (.int .i64 pn) ∧ V'.cell? ⟨gp, 2, none⟩ = some (.string pz) ∧ V'.cell? ⟨gp, 3, none⟩ = some (.slice Ap pl.length (capF pl.length cp))))) rfl (HSS.out _ hb_1.drew) (fun hSs => ?_)
                change wpAnyH _ _ _ _ _ 26 (Array.replicate 26 false) _ _
                refine wpAnyH_take (i := 0) (oi := ⟨some 47, _, _, _, _, _⟩) (v := .agg #[.int .i64 pk, .int .i64 pn, .string pz, .slice Ap pl.length (capF pl.length cp)]) rfl (by kernel_rfl) (by kernel_rfl) (by kernel_rfl) (fun _ _ _ h => h) (.inl ⟨by kernel_rfl, fun W hW => by first | (obtain ⟨z0, z1, z2, z3, z4, z5, z6, z7, z8, z9, z10, z11⟩ := hW; go_simp; done) | (obtain ⟨z0, z1, z2, z3, z4, z5, z6, z7, z8, z9, z10, z11⟩ := hW; go_simp; omega) | (obtain ⟨z0, z1, z2, z3, z4, z5, z6, z7, z8, z9, z10, z11⟩ := hW; go_simp; exact IntWalk.i64_in _ (by omega)) | (obtain ⟨z0, z1, z2, z3, z4, z5, z6, z7, z8, z9, z10, z11⟩ := hW; go_simp; simp [*]; done)⟩) hSs ?_
                try simp only [Act.put, List.setIfInBounds_toArray, List.set_cons_zero, List.set_cons_succ]
                refine wpAnyH_ready (rs := [1]) (by kernel_rfl) (by simp) (AllReadyH.cons rfl (fun K hK => ?_) AllReadyH.nil)
                go_simp
                refine (HM4.out _ (hb_1.drew) Ap cp (EIn.below _ htp (Below.refl _ _).drew (Nat.le_refl _))).mono ?_
                rintro e u_2 ⟨rfl, hq_2⟩
                have hb_2 := (hb_1.drew).trans (hq_2.mono (hb_1.drew).size)
                have ht0_2 := EIn.below _ (EIn.below _ ht0 (Below.refl _ _).drew (Nat.le_refl _)) hq_2 (Nat.le_refl _)
                have ht1_2 := EIn.below _ (EIn.below _ ht1 (Below.refl _ _).drew (Nat.le_refl _)) hq_2 (Nat.le_refl _)
                have htp_2 := EIn.below _ (EIn.below _ htp (Below.refl _ _).drew (Nat.le_refl _)) hq_2 (Nat.le_refl _)
                clear ht0 ht1 htp
                refine hK.out _ _ (HSS.out _ hb_2) (fun hS_2 => ?_)
                clear hK K
                try simp only [Act.put, List.setIfInBounds_toArray, List.set_cons_zero, List.set_cons_succ]
                refine wpAnyH_take (i := 2) (oi := ⟨some 49, _, _, _, _, _⟩) (v := .bool false) rfl (by kernel_rfl) (by kernel_rfl) (by kernel_rfl) (fun _ _ _ h => h) (.inl ⟨by kernel_rfl, fun W hW => by kernel_rfl⟩) hS_2 ?_
                try simp only [Act.put, List.setIfInBounds_toArray, List.set_cons_zero, List.set_cons_succ]
                refine wpAnyH_take (i := 3) (oi := ⟨some 50, _, _, _, _, _⟩) (v := .bool false) rfl (by kernel_rfl) (by kernel_rfl) (by kernel_rfl) (fun _ _ _ h => h) (.inl ⟨by kernel_rfl, fun W hW => by kernel_rfl⟩) hS_2 ?_
                try simp only [Act.put, List.setIfInBounds_toArray, List.set_cons_zero, List.set_cons_succ]
                refine wpAnyH_take (i := 4) (oi := ⟨some 51, _, _, _, _, _⟩) (v := .agg #[.int .i64 pk, .int .i64 pn, .string pz, .slice Ap pl.length (capF pl.length cp)]) rfl (by kernel_rfl) (by kernel_rfl) (by kernel_rfl) (fun _ _ _ h => h) (.inl ⟨by kernel_rfl, fun W hW => by first | (obtain ⟨z0, z1, z2, z3, z4, z5, z6, z7, z8, z9, z10, z11⟩ := hW; go_simp; done) | (obtain ⟨z0, z1, z2, z3, z4, z5, z6, z7, z8, z9, z10, z11⟩ := hW; go_simp; omega) | (obtain ⟨z0, z1, z2, z3, z4, z5, z6, z7, z8, z9, z10, z11⟩ := hW; go_simp; exact IntWalk.i64_in _ (by omega)) | (obtain ⟨z0, z1, z2, z3, z4, z5, z6, z7, z8, z9, z10, z11⟩ := hW; go_simp; simp [*]; done)⟩) hS_2 ?_
                try simp only [Act.put, List.setIfInBounds_toArray, List.set_cons_zero, List.set_cons_succ]
                refine wpAnyH_take (i := 6) (oi := ⟨some 53, _, _, _, _, _⟩) (v := .agg #[.int .i64 tk, .int .i64 tn, .string tz, .slice A0 tl.length (capF tl.length c0)]) rfl (by kernel_rfl) (by kernel_rfl) (by kernel_rfl) (fun _ _ _ h => h) (.inl ⟨by kernel_rfl, fun W hW => by first | (obtain ⟨z0, z1, z2, z3, z4, z5, z6, z7, z8, z9, z10, z11⟩ := hW; go_simp; done) | (obtain ⟨z0, z1, z2, z3, z4, z5, z6, z7, z8, z9, z10, z11⟩ := hW; go_simp; omega) | (obtain ⟨z0, z1, z2, z3, z4, z5, z6, z7, z8, z9, z10, z11⟩ := hW; go_simp; exact IntWalk.i64_in _ (by omega)) | (obtain ⟨z0, z1, z2, z3, z4, z5, z6, z7, z8, z9, z10, z11⟩ := hW; go_simp; simp [*]; done)⟩) hS_2 ?_
                try simp only [Act.put, List.setIfInBounds_toArray, List.set_cons_zero, List.set_cons_succ]
                refine wpAnyH_take (i := 8) (oi := ⟨some 55, _, _, _, _, _⟩) (v := .int .i64 (nu : Int)) rfl (by kernel_rfl) (by kernel_rfl) (by kernel_rfl) (fun _ _ _ h => h) (.inl ⟨by kernel_rfl, fun W hW => by kernel_rfl⟩) hS_2 ?_
                try simp only [Act.put, List.setIfInBounds_toArray, List.set_cons_zero, List.set_cons_succ]
                refine wpAnyH_take (i := 9) (oi := ⟨some 56, _, _, _, _, _⟩) (v := .agg #[.int .i64 sk, .int .i64 sn, .string sz, .slice A1 sl.length (capF sl.length c1)]) rfl (by kernel_rfl) (by kernel_rfl) (by kernel_rfl) (fun _ _ _ h => h) (.inl ⟨by kernel_rfl, fun W hW => by first | (obtain ⟨z0, z1, z2, z3, z4, z5, z6, z7, z8, z9, z10, z11⟩ := hW; go_simp; done) | (obtain ⟨z0, z1, z2, z3, z4, z5, z6, z7, z8, z9, z10, z11⟩ := hW; go_simp; omega) | (obtain ⟨z0, z1, z2, z3, z4, z5, z6, z7, z8, z9, z10, z11⟩ := hW; go_simp; exact IntWalk.i64_in _ (by omega)) | (obtain ⟨z0, z1, z2, z3, z4, z5, z6, z7, z8, z9, z10, z11⟩ := hW; go_simp; simp [*]; done)⟩) hS_2 ?_
                try simp only [Act.put, List.setIfInBounds_toArray, List.set_cons_zero, List.set_cons_succ]
                refine wpAnyH_ready (rs := [5]) (by kernel_rfl) (by simp) (AllReadyH.cons rfl (fun K hK => ?_) AllReadyH.nil)
                rw [if_pos (by kernel_rfl)]
                go_simp
                refine (HZP.out _ hb_2 Ap cp htp_2).mono ?_
                rintro e u_3 ⟨rfl, hq_3⟩
                have hb_3 := hb_2.trans (hq_3.mono hb_2.size)
                have ht0_2_3 := EIn.below _ ht0_2 hq_3 (Nat.le_refl _)
                have ht1_2_3 := EIn.below _ ht1_2 hq_3 (Nat.le_refl _)
                have htp_2_3 := EIn.below _ htp_2 hq_3 (Nat.le_refl _)
                clear ht0_2 ht1_2 htp_2
                refine hK.out _ _ (HSS.out _ hb_3) (fun hS_3 => ?_)
                clear hK K
                try simp only [Act.put, List.setIfInBounds_toArray, List.set_cons_zero, List.set_cons_succ]
                refine wpAnyH_ready (rs := [7]) (by kernel_rfl) (by simp) (AllReadyH.cons rfl (fun K hK => ?_) AllReadyH.nil)
                rw [if_pos (by kernel_rfl)]
                go_simp
                refine (HZt.out _ hb_3 A0 c0 ht0_2_3).mono ?_
                rintro e u_4 ⟨rfl, hq_4⟩
                have hb_4 := hb_3.trans (hq_4.mono hb_3.size)
                have ht0_2_3_4 := EIn.below _ ht0_2_3 hq_4 (Nat.le_refl _)
                have ht1_2_3_4 := EIn.below _ ht1_2_3 hq_4 (Nat.le_refl _)
                have htp_2_3_4 := EIn.below _ htp_2_3 hq_4 (Nat.le_refl _)
                clear ht0_2_3 ht1_2_3 htp_2_3
                refine hK.out _ _ (HSS.out _ hb_4) (fun hS_4 => ?_)
                clear hK K
                try simp only [Act.put, List.setIfInBounds_toArray, List.set_cons_zero, List.set_cons_succ]
                refine wpAnyH_ready (rs := [10]) (by kernel_rfl) (by simp) (AllReadyH.cons rfl (fun K hK => ?_) AllReadyH.nil)
                rw [if_pos (by kernel_rfl)]
                go_simp
                refine (HZs.out _ hb_4 A1 c1 ht1_2_3_4).mono ?_
                rintro e u_5 ⟨rfl, hq_5⟩
                have hb_5 := hb_4.trans (hq_5.mono hb_4.size)
                have ht0_2_3_4_5 := EIn.below _ ht0_2_3_4 hq_5 (Nat.le_refl _)
                have ht1_2_3_4_5 := EIn.below _ ht1_2_3_4 hq_5 (Nat.le_refl _)
                have htp_2_3_4_5 := EIn.below _ htp_2_3_4 hq_5 (Nat.le_refl _)
                clear ht0_2_3_4 ht1_2_3_4 htp_2_3_4
                refine hK.out _ _ (HSS.out _ hb_5) (fun hS_5 => ?_)
                clear hK K
                try simp only [Act.put, List.setIfInBounds_toArray, List.set_cons_zero, List.set_cons_succ]
                refine wpAnyH_take (i := 11) (oi := ⟨some 58, _, _, _, _, _⟩) (v := .int .i64 ((zs : Int) - 1)) rfl (by kernel_rfl) (by kernel_rfl) (by kernel_rfl) (fun _ _ _ h => h) (.inl ⟨by kernel_rfl, fun W hW => by first | (obtain ⟨z0, z1, z2, z3, z4, z5, z6, z7, z8, z9, z10, z11⟩ := hW; go_simp; done) | (obtain ⟨z0, z1, z2, z3, z4, z5, z6, z7, z8, z9, z10, z11⟩ := hW; go_simp; omega) | (obtain ⟨z0, z1, z2, z3, z4, z5, z6, z7, z8, z9, z10, z11⟩ := hW; go_simp; exact IntWalk.i64_in _ (by omega)) | (obtain ⟨z0, z1, z2, z3, z4, z5, z6, z7, z8, z9, z10, z11⟩ := hW; go_simp; simp [*]; done)⟩) hS_5 ?_
                try simp only [Act.put, List.setIfInBounds_toArray, List.set_cons_zero, List.set_cons_succ]
                refine wpAnyH_take (i := 12) (oi := ⟨some 59, _, _, _, _, _⟩) (v := .int .i64 ((nu : Int) * ((zs : Int) - 1))) rfl (by kernel_rfl) (by kernel_rfl) (by kernel_rfl) (fun _ _ _ h => h) (.inl ⟨by kernel_rfl, fun W hW => by first | (obtain ⟨z0, z1, z2, z3, z4, z5, z6, z7, z8, z9, z10, z11⟩ := hW; go_simp; done) | (obtain ⟨z0, z1, z2, z3, z4, z5, z6, z7, z8, z9, z10, z11⟩ := hW; go_simp; omega) | (obtain ⟨z0, z1, z2, z3, z4, z5, z6, z7, z8, z9, z10, z11⟩ := hW; go_simp; exact IntWalk.i64_in _ (by omega)) | (obtain ⟨z0, z1, z2, z3, z4, z5, z6, z7, z8, z9, z10, z11⟩ := hW; go_simp; simp [*]; done)⟩) hS_5 ?_
                try simp only [Act.put, List.setIfInBounds_toArray, List.set_cons_zero, List.set_cons_succ]
                refine wpAnyH_take (i := 13) (oi := ⟨some 60, _, _, _, _, _⟩) (v := .int .i64 ((zt : Int) + ((nu : Int) * ((zs : Int) - 1)))) rfl (by kernel_rfl) (by kernel_rfl) (by kernel_rfl) (fun _ _ _ h => h) (.inl ⟨by kernel_rfl, fun W hW => by first | (obtain ⟨z0, z1, z2, z3, z4, z5, z6, z7, z8, z9, z10, z11⟩ := hW; go_simp; done) | (obtain ⟨z0, z1, z2, z3, z4, z5, z6, z7, z8, z9, z10, z11⟩ := hW; go_simp; omega) | (obtain ⟨z0, z1, z2, z3, z4, z5, z6, z7, z8, z9, z10, z11⟩ := hW; go_simp; exact IntWalk.i64_in _ (by omega)) | (obtain ⟨z0, z1, z2, z3, z4, z5, z6, z7, z8, z9, z10, z11⟩ := hW; go_simp; simp [*]; done)⟩) hS_5 ?_
                try simp only [Act.put, List.setIfInBounds_toArray, List.set_cons_zero, List.set_cons_succ]
                refine wpAnyH_take (i := 14) (oi := ⟨some 61, _, _, _, _, _⟩) (v := .bool false) rfl (by kernel_rfl) (by kernel_rfl) (by kernel_rfl) (fun _ _ _ h => h) (.inl ⟨by kernel_rfl, fun W hW => by first | (obtain ⟨z0, z1, z2, z3, z4, z5, z6, z7, z8, z9, z10, z11⟩ := hW; go_simp; done) | (obtain ⟨z0, z1, z2, z3, z4, z5, z6, z7, z8, z9, z10, z11⟩ := hW; go_simp; omega) | (obtain ⟨z0, z1, z2, z3, z4, z5, z6, z7, z8, z9, z10, z11⟩ := hW; go_simp; exact IntWalk.i64_in _ (by omega)) | (obtain ⟨z0, z1, z2, z3, z4, z5, z6, z7, z8, z9, z10, z11⟩ := hW; go_simp; simp [*]; done)⟩) hS_5 ?_
                try simp only [Act.put, List.setIfInBounds_toArray, List.set_cons_zero, List.set_cons_succ]
                refine wpAnyH_take (i := 15) (oi := ⟨some 62, _, _, _, _, _⟩) (v := .bool false) rfl (by kernel_rfl) (by kernel_rfl) (by kernel_rfl) (fun _ _ _ h => h) (.inl ⟨by kernel_rfl, fun W hW => by kernel_rfl⟩) hS_5 ?_
                try simp only [Act.put, List.setIfInBounds_toArray, List.set_cons_zero, List.set_cons_succ]
                refine wpAnyH_take (i := 16) (oi := ⟨some 63, _, _, _, _, _⟩) (v := .bool false) rfl (by kernel_rfl) (by kernel_rfl) (by kernel_rfl) (fun _ _ _ h => h) (.inl ⟨by kernel_rfl, fun W hW => by kernel_rfl⟩) hS_5 ?_
                try simp only [Act.put, List.setIfInBounds_toArray, List.set_cons_zero, List.set_cons_succ]
                refine wpAnyH_take (i := 17) (oi := ⟨some 64, _, _, _, _, _⟩) (v := .agg #[.int .i64 tk, .int .i64 tn, .string tz, .slice A0 tl.length (capF tl.length c0)]) rfl (by kernel_rfl) (by kernel_rfl) (by kernel_rfl) (fun _ _ _ h => h) (.inl ⟨by kernel_rfl, fun W hW => by first | (obtain ⟨z0, z1, z2, z3, z4, z5, z6, z7, z8, z9, z10, z11⟩ := hW; go_simp; done) | (obtain ⟨z0, z1, z2, z3, z4, z5, z6, z7, z8, z9, z10, z11⟩ := hW; go_simp; omega) | (obtain ⟨z0, z1, z2, z3, z4, z5, z6, z7, z8, z9, z10, z11⟩ := hW; go_simp; exact IntWalk.i64_in _ (by omega)) | (obtain ⟨z0, z1, z2, z3, z4, z5, z6, z7, z8, z9, z10, z11⟩ := hW; go_simp; simp [*]; done)⟩) hS_5 ?_
                try simp only [Act.put, List.setIfInBounds_toArray, List.set_cons_zero, List.set_cons_succ]
                refine wpAnyH_ready (rs := [18]) (by kernel_rfl) (by simp) (AllReadyH.cons rfl (fun K hK => ?_) AllReadyH.nil)
                rw [if_pos (by kernel_rfl)]
                go_simp
                refine (HM0.out _ hb_5 A0 c0 ht0_2_3_4_5).mono ?_
                rintro e u_6 ⟨rfl, hq_6⟩
                have hb_6 := hb_5.trans (hq_6.mono hb_5.size)
                have ht0_2_3_4_5_6 := EIn.below _ ht0_2_3_4_5 hq_6 (Nat.le_refl _)
                have ht1_2_3_4_5_6 := EIn.below _ ht1_2_3_4_5 hq_6 (Nat.le_refl _)
                have htp_2_3_4_5_6 := EIn.below _ htp_2_3_4_5 hq_6 (Nat.le_refl _)
                clear ht0_2_3_4_5 ht1_2_3_4_5 htp_2_3_4_5
                refine hK.out _ _ (HSS.out _ hb_6) (fun hS_6 => ?_)
                clear hK K
                try simp only [Act.put, List.setIfInBounds_toArray, List.set_cons_zero, List.set_cons_succ]
                refine wpAnyH_take (i := 19) (oi := ⟨some 66, _, _, _, _, _⟩) (v := .bool true) rfl (by kernel_rfl) (by kernel_rfl) (by kernel_rfl) (fun _ _ _ h => h) (.inl ⟨by kernel_rfl, fun W hW => by kernel_rfl⟩) hS_6 ?_
                try simp only [Act.put, List.setIfInBounds_toArray, List.set_cons_zero, List.set_cons_succ]
                refine wpAnyH_take (i := 20) (oi := ⟨some 67, _, _, _, _, _⟩) (v := .agg #[.int .i64 pk, .int .i64 pn, .string pz, .slice Ap pl.length (capF pl.length cp)]) rfl (by kernel_rfl) (by kernel_rfl) (by kernel_rfl) (fun _ _ _ h => h) (.inl ⟨by kernel_rfl, fun W hW => by first | (obtain ⟨z0, z1, z2, z3, z4, z5, z6, z7, z8, z9, z10, z11⟩ := hW; go_simp; done) | (obtain ⟨z0, z1, z2, z3, z4, z5, z6, z7, z8, z9, z10, z11⟩ := hW; go_simp; omega) | (obtain ⟨z0, z1, z2, z3, z4, z5, z6, z7, z8, z9, z10, z11⟩ := hW; go_simp; exact IntWalk.i64_in _ (by omega)) | (obtain ⟨z0, z1, z2, z3, z4, z5, z6, z7, z8, z9, z10, z11⟩ := hW; go_simp; simp [*]; done)⟩) hS_6 ?_
                try simp only [Act.put, List.setIfInBounds_toArray, List.set_cons_zero, List.set_cons_succ]
                refine wpAnyH_take (i := 21) (oi := ⟨some 68, _, _, _, _, _⟩) (v := .agg #[.int .i64 tk, .int .i64 tn, .string tz, .slice A0 tl.length (capF tl.length c0)]) rfl (by kernel_rfl) (by kernel_rfl) (by kernel_rfl) (fun _ _ _ h => h) (.inl ⟨by kernel_rfl, fun W hW => by first | (obtain ⟨z0, z1, z2, z3, z4, z5, z6, z7, z8, z9, z10, z11⟩ := hW; go_simp; done) | (obtain ⟨z0, z1, z2, z3, z4, z5, z6, z7, z8, z9, z10, z11⟩ := hW; go_simp; omega) | (obtain ⟨z0, z1, z2, z3, z4, z5, z6, z7, z8, z9, z10, z11⟩ := hW; go_simp; exact IntWalk.i64_in _ (by omega)) | (obtain ⟨z0, z1, z2, z3, z4, z5, z6, z7, z8, z9, z10, z11⟩ := hW; go_simp; simp [*]; done)⟩) hS_6 ?_
                try simp only [Act.put, List.setIfInBounds_toArray, List.set_cons_zero, List.set_cons_succ]
                refine wpAnyH_ready (rs := [22]) (by kernel_rfl) (by simp) (AllReadyH.cons rfl (fun K hK => ?_) AllReadyH.nil)
                rw [if_pos (by kernel_rfl)]
                go_simp
                refine (HSP.out _ hb_6 Ap cp htp_2_3_4_5_6 A0 c0 ht0_2_3_4_5_6).mono ?_
                rintro e u_7 ⟨rfl, hq_7⟩
                have hb_7 := hb_6.trans (hq_7.mono hb_6.size)
                have ht0_2_3_4_5_6_7 := EIn.below _ ht0_2_3_4_5_6 hq_7 (Nat.le_refl _)
                have ht1_2_3_4_5_6_7 := EIn.below _ ht1_2_3_4_5_6 hq_7 (Nat.le_refl _)
                have htp_2_3_4_5_6_7 := EIn.below _ htp_2_3_4_5_6 hq_7 (Nat.le_refl _)
                clear ht0_2_3_4_5_6 ht1_2_3_4_5_6 htp_2_3_4_5_6
                refine hK.out _ _ (HSS.out _ hb_7) (fun hS_7 => ?_)
                clear hK K
                try simp only [Act.put, List.setIfInBounds_toArray, List.set_cons_zero, List.set_cons_succ]
                refine wpAnyH_take (i := 23) (oi := ⟨some 70, _, _, _, _, _⟩) (v := .bool false) rfl (by kernel_rfl) (by kernel_rfl) (by kernel_rfl) (fun _ _ _ h => h) (.inl ⟨by kernel_rfl, fun W hW => by kernel_rfl⟩) hS_7 ?_
                try simp only [Act.put, List.setIfInBounds_toArray, List.set_cons_zero, List.set_cons_succ]
                refine wpAnyH_take (i := 24) (oi := ⟨some 71, _, _, _, _, _⟩) (v := .bool false) rfl (by kernel_rfl) (by kernel_rfl) (by kernel_rfl) (fun _ _ _ h => h) (.inl ⟨by kernel_rfl, fun W hW => by kernel_rfl⟩) hS_7 ?_
                try simp only [Act.put, List.setIfInBounds_toArray, List.set_cons_zero, List.set_cons_succ]
                refine wpAnyH_take (i := 25) (oi := ⟨some 72, _, _, _, _, _⟩) (v := .bool false) rfl (by kernel_rfl) (by kernel_rfl) (by kernel_rfl) (fun _ _ _ h => h) (.inl ⟨by kernel_rfl, fun W hW => by kernel_rfl⟩) hS_7 ?_
                try simp only [Act.put, List.setIfInBounds_toArray, List.set_cons_zero, List.set_cons_succ]
                refine wpAnyH_done (by kernel_rfl) ?_ _
                have hbx := hb_7
                have hx0 := HX0.out.step hbx
                have hx1 := HX1.out.step hbx
                have hxp := HXp.out.step hbx
                clear HSS HB hbx HX0 HX1 HXp ht0_2_3_4_5_6_7 ht1_2_3_4_5_6_7 htp_2_3_4_5_6_7
                clear HM4 HZP HZt HZs HM0 HSP
                obtain ⟨V7, hV7⟩ : ∃ V, V = u_7 := ⟨_, rfl⟩
                rw [← hV7] at hx0 hx1 hxp ⊢
                clear hV7
                by_cases hn0 : 0 < nu
                · have hn1 : (0 : Int) < (nu : Int) := by omega
                  go_upto_region 7 with fail
                  have hu0 := hx0.tin
                  have hu1 := hx1.tin
                  have hup := hxp.tin
                  have HB7 := Lib.hid hx0.bw
                  have HS7 : Hid (∀ V', Below V7.heap.size V7 V' → (fun V' : World => (V'.cell? ⟨g0, 0, none⟩ = some (.int .i64 tk) ∧ V'.cell? ⟨g0, 1, none⟩ = some (.int .i64 tn) ∧ V'.cell? ⟨g0, 2, none⟩ = some (.string tz) ∧ V'.cell? ⟨g0, 3, none⟩ = some (.slice A0 tl.length (capF tl.length c0)) ∧ V'.cell? ⟨g1, 0, none⟩ = some (.int .i64 sk) ∧ V'.cell? ⟨g1, 1, none⟩ = some (.int .i64 sn) ∧ V'.cell? ⟨g1, 2, none⟩ = some (.string sz) ∧ V'.cell? ⟨g1, 3, none⟩ = some (.slice A1 sl.length (capF sl.length c1)) ∧ V'.cell? ⟨gp, 0, none⟩ = some (.int .i64 pk) ∧ V'.cell? ⟨gp, 1, none⟩ = some (.int .i64 pn) ∧ V'.cell? ⟨gp, 2, none⟩ = some (.string pz) ∧ V'.cell? ⟨gp, 3, none⟩ = some (.slice Ap pl.length (capF pl.length cp)))) V') := Lib.hid fun V' h =>
                    ⟨(h.cell (p := ⟨g0, 0, none⟩) hx0.box.lt).trans (hx0.box.cell 0), (h.cell (p := ⟨g0, 1, none⟩) hx0.box.lt).trans (hx0.box.cell 1), (h.cell (p := ⟨g0, 2, none⟩) hx0.box.lt).trans (hx0.box.cell 2), (h.cell (p := ⟨g0, 3, none⟩) hx0.box.lt).trans (hx0.box.cell 3), (h.cell (p := ⟨g1, 0, none⟩) hx1.box.lt).trans (hx1.box.cell 0), (h.cell (p := ⟨g1, 1, none⟩) hx1.box.lt).trans (hx1.box.cell 1), (h.cell (p := ⟨g1, 2, none⟩) hx1.box.lt).trans (hx1.box.cell 2), (h.cell (p := ⟨g1, 3, none⟩) hx1.box.lt).trans (hx1.box.cell 3), (h.cell (p := ⟨gp, 0, none⟩) hxp.box.lt).trans (hxp.box.cell 0), (h.cell (p := ⟨gp, 1, none⟩) hxp.box.lt).trans (hxp.box.cell 1), (h.cell (p := ⟨gp, 2, none⟩) hxp.box.lt).trans (hxp.box.cell 2), (h.cell (p := ⟨gp, 3, none⟩) hxp.box.lt).trans (hxp.box.cell 3)⟩
                  clear hx0 hx1 hxp
                  have hb_1 : Below V7.heap.size V7 V7 := Below.refl _ _
                  refine wp_region_K (S := (fun V' : World => (V'.cell? ⟨g0, 0, none⟩ = some (.int .i64 tk) ∧ V'.cell? ⟨g0, 1, none⟩ = some (.int .i64 tn) ∧ V'.cell? ⟨g0, 2, none⟩ = some (.string tz) ∧ V'.cell? ⟨g0, 3, none⟩ = some (.slice A0 tl.length (capF tl.length c0)) ∧ V'.cell? ⟨g1, 0, none⟩ = some (.int .i64 sk) ∧ V'.cell? ⟨g1, 1, none⟩ = some (.int .i64 sn) ∧ V'.cell? ⟨g1, 2, none⟩ = some (.string sz) ∧ V'.cell? ⟨g1, 3, none⟩ = some (.slice A1 sl.length (capF sl.length c1)) ∧ V'.cell? ⟨gp, 0, none⟩ = some (.int .i64 pk) ∧ V'.cell? ⟨gp, 1, none⟩ = some (.int .i64 pn) ∧ V'.cell? ⟨gp, 2, none⟩ = some (.string pz) ∧ V'.cell? ⟨gp, 3, none⟩ = some (.slice Ap pl.length (capF pl.length cp))))) 10 rfl (HS7.out _ hb_1.drew) (fun hSs => ?_)
                  change wpAnyK _ _ _ _ _ _ 11 (Array.replicate 11 false) _ _
                  refine wpAnyK_take (i := 0) (oi := ⟨some 73, _, _, _, _, _⟩) (v := .int .i64 (nu : Int)) rfl (by kernel_rfl) (by kernel_rfl) (by kernel_rfl) (by kernel_rfl) (fun _ _ _ h => h) (.inl ⟨by kernel_rfl, fun W hW => by kernel_rfl⟩) hSs ?_
                  try simp only [Act.put, List.setIfInBounds_toArray, List.set_cons_zero, List.set_cons_succ]
                  refine wpAnyK_take (i := 1) (oi := ⟨some 74, _, _, _, _, _⟩) (v := .bool true) rfl (by kernel_rfl) (by kernel_rfl) (by kernel_rfl) (by kernel_rfl) (fun _ _ _ h => h) (.inl ⟨by kernel_rfl, fun W hW => by first | (obtain ⟨z0, z1, z2, z3, z4, z5, z6, z7, z8, z9, z10, z11⟩ := hW; go_simp; done) | (obtain ⟨z0, z1, z2, z3, z4, z5, z6, z7, z8, z9, z10, z11⟩ := hW; go_simp; omega) | (obtain ⟨z0, z1, z2, z3, z4, z5, z6, z7, z8, z9, z10, z11⟩ := hW; go_simp; exact IntWalk.i64_in _ (by omega)) | (obtain ⟨z0, z1, z2, z3, z4, z5, z6, z7, z8, z9, z10, z11⟩ := hW; go_simp; exact IntWalk.i64_in _ (by omega)) | (obtain ⟨z0, z1, z2, z3, z4, z5, z6, z7, z8, z9, z10, z11⟩ := hW; go_simp; simp [*]; done)⟩) hSs ?_
                  try simp only [Act.put, List.setIfInBounds_toArray, List.set_cons_zero, List.set_cons_succ]
                  refine wpAnyK_take (i := 2) (oi := ⟨some 75, _, _, _, _, _⟩) (v := .bool true) rfl (by kernel_rfl) (by kernel_rfl) (by kernel_rfl) (by kernel_rfl) (fun _ _ _ h => h) (.inl ⟨by kernel_rfl, fun W hW => by kernel_rfl⟩) hSs ?_
                  try simp only [Act.put, List.setIfInBounds_toArray, List.set_cons_zero, List.set_cons_succ]
                  refine wpAnyK_take (i := 3) (oi := ⟨some 76, _, _, _, _, _⟩) (v := undef) rfl (by kernel_rfl) (by kernel_rfl) (by kernel_rfl) (by kernel_rfl) (fun _ _ _ h => h) (.inr ⟨by kernel_rfl, rfl⟩) hSs ?_
                  try simp only [Act.put, List.setIfInBounds_toArray, List.set_cons_zero, List.set_cons_succ]
                  refine wpAnyK_take (i := 4) (oi := ⟨some 77, _, _, _, _, _⟩) (v := undef) rfl (by kernel_rfl) (by kernel_rfl) (by kernel_rfl) (by kernel_rfl) (fun _ _ _ h => h) (.inr ⟨by kernel_rfl, rfl⟩) hSs ?_
                  try simp only [Act.put, List.setIfInBounds_toArray, List.set_cons_zero, List.set_cons_succ]
                  refine wpAnyK_take (i := 5) (oi := ⟨some 78, _, _, _, _, _⟩) (v := undef) rfl (by kernel_rfl) (by kernel_rfl) (by kernel_rfl) (by kernel_rfl) (fun _ _ _ h => h) (.inr ⟨by kernel_rfl, rfl⟩) hSs ?_
                  try simp only [Act.put, List.setIfInBounds_toArray, List.set_cons_zero, List.set_cons_succ]
                  refine wpAnyK_take (i := 6) (oi := ⟨some 79, _, _, _, _, _⟩) (v := undef) rfl (by kernel_rfl) (by kernel_rfl) (by kernel_rfl) (by kernel_rfl) (fun _ _ _ h => h) (.inr ⟨by kernel_rfl, rfl⟩) hSs ?_
                  try simp only [Act.put, List.setIfInBounds_toArray, List.set_cons_zero, List.set_cons_succ]
                  refine wpAnyK_take (i := 7) (oi := ⟨some 80, _, _, _, _, _⟩) (v := undef) rfl (by kernel_rfl) (by kernel_rfl) (by kernel_rfl) (by kernel_rfl) (fun _ _ _ h => h) (.inr ⟨by kernel_rfl, rfl⟩) hSs ?_
                  try simp only [Act.put, List.setIfInBounds_toArray, List.set_cons_zero, List.set_cons_succ]
                  refine wpAnyK_take (i := 8) (oi := ⟨some 81, _, _, _, _, _⟩) (v := undef) rfl (by kernel_rfl) (by kernel_rfl) (by kernel_rfl) (by kernel_rfl) (fun _ _ _ h => h) (.inr ⟨by kernel_rfl, rfl⟩) hSs ?_
                  try simp only [Act.put, List.setIfInBounds_toArray, List.set_cons_zero, List.set_cons_succ]
                  refine wpAnyK_take (i := 9) (oi := ⟨some 82, _, _, _, _, _⟩) (v := .bool true) rfl (by kernel_rfl) (by kernel_rfl) (by kernel_rfl) (by kernel_rfl) (fun _ _ _ h => h) (.inl ⟨by kernel_rfl, fun W hW => by kernel_rfl⟩) hSs ?_
                  try simp only [Act.put, List.setIfInBounds_toArray, List.set_cons_zero, List.set_cons_succ]
                  refine wpAnyK_oneW (i := 10) rfl (by kernel_rfl) (by kernel_rfl) (fun K hK => ?_)
                  go_simp
                  refine hK.out _ _ (fun h => absurd rfl h) (fun _ => ?_)
                  clear hK K
                  try simp only [Act.put, List.setIfInBounds_toArray, List.set_cons_zero, List.set_cons_succ]
                  refine wpAnyK_done (by kernel_rfl) ?_ _
                  go_wp2_with fail
                  go_ret
                  exact ⟨rfl, HB7.out.trans ((hb_1.drew).mono HB7.out.size)⟩
                · have hn1 : ¬ (0 : Int) < (nu : Int) := by omega
                  go_upto_region 7 with fail
                  have hu0 := hx0.tin
                  have hu1 := hx1.tin
                  have hup := hxp.tin
                  have HB7 := Lib.hid hx0.bw
                  have HS7 : Hid (∀ V', Below V7.heap.size V7 V' → (fun V' : World => (V'.cell? ⟨g0, 0, none⟩ = some (.int .i64 tk) ∧ V'.cell? ⟨g0, 1, none⟩ = some (.int .i64 tn) ∧ V'.cell? ⟨g0, 2, none⟩ = some (.string tz) ∧ V'.cell? ⟨g0, 3, none⟩ = some (.slice A0 tl.length (capF tl.length c0)) ∧ V'.cell? ⟨g1, 0, none⟩ = some (.int .i64 sk) ∧ V'.cell? ⟨g1, 1, none⟩ = some (.int .i64 sn) ∧ V'.cell? ⟨g1, 2, none⟩ = some (.string sz) ∧ V'.cell? ⟨g1, 3, none⟩ = some (.slice A1 sl.length (capF sl.length c1)) ∧ V'.cell? ⟨gp, 0, none⟩ = some (.int .i64 pk) ∧ V'.cell? ⟨gp, 1, none⟩ = some (.int .i64 pn) ∧ V'.cell? ⟨gp, 2, none⟩ = some (.string pz) ∧ V'.cell? ⟨gp, 3, none⟩ = some (.slice Ap pl.length (capF pl.length cp)))) V') := Lib.hid fun V' h =>
                    ⟨(h.cell (p := ⟨g0, 0, none⟩) hx0.box.lt).trans (hx0.box.cell 0), (h.cell (p := ⟨g0, 1, none⟩) hx0.box.lt).trans (hx0.box.cell 1), (h.cell (p := ⟨g0, 2, none⟩) hx0.box.lt).trans (hx0.box.cell 2), (h.cell (p := ⟨g0, 3, none⟩) hx0.box.lt).trans (hx0.box.cell 3), (h.cell (p := ⟨g1, 0, none⟩) hx1.box.lt).trans (hx1.box.cell 0), (h.cell (p := ⟨g1, 1, none⟩) hx1.box.lt).trans (hx1.box.cell 1), (h.cell (p := ⟨g1, 2, none⟩) hx1.box.lt).trans (hx1.box.cell 2), (h.cell (p := ⟨g1, 3, none⟩) hx1.box.lt).trans (hx1.box.cell 3), (h.cell (p := ⟨gp, 0, none⟩) hxp.box.lt).trans (hxp.box.cell 0), (h.cell (p := ⟨gp, 1, none⟩) hxp.box.lt).trans (hxp.box.cell 1), (h.cell (p := ⟨gp, 2, none⟩) hxp.box.lt).trans (hxp.box.cell 2), (h.cell (p := ⟨gp, 3, none⟩) hxp.box.lt).trans (hxp.box.cell 3)⟩
                  have HV0 : Hid (∀ X, Below V7.heap.size V7 X → Calls Try.prog 23 #[.int .i64 0] X fun e w' => ∃ A c, e = .returned (.agg #[.int .i64 1, .int .i64 0, .string n0B, .slice A 0 (capF 0 c)]) ∧ EIn w' Any (vE 0) A ∧ Below X.heap.size X w') := Lib.hid fun X hX => vl_any 0 X (by decide) (by decide)
                  have HPU : Hid (∀ X, Below V7.heap.size V7 X → ∀ (A : Option Addr) (c : Nat) (hA : EIn X Any (.node tk tn tz tl) A) (B : Option Addr) (d : Nat) (hB : EIn X Any (vE 0) B), Calls Try.prog 15 #[.agg #[.int .i64 tk, .int .i64 tn, .string tz, .slice A tl.length (capF tl.length c)], .int .i64 j, .agg #[.int .i64 1, .int .i64 0, .string n0B, .slice B 0 (capF 0 d)]] X fun e w' => ∃ A c, e = .returned (.agg #[.int .i64 pk, .int .i64 pn, .string pz, .slice A pl.length (capF pl.length c)]) ∧ EIn w' Any (.node pk pn pz pl) A ∧ Below X.heap.size X w') := Lib.hid fun X hX A c hA B d hB => by
                    have h := put_any (.node tk tn tz tl) (vE 0) A B c d j X hA (by omega) (by omega) (tameE_mono (by omega) (by omega) _ htq) hB (by decide) (by decide) (tameB_spec _ (by decide)) (by omega) (by omega)
                    rw [HP0.out (by omega)] at h
                    exact h.mono fun e w' h => h.any
                  have HSQ : Hid (∀ X, Below V7.heap.size V7 X → ∀ (A : Option Addr) (c : Nat) (hA : EIn X Any (.node pk pn pz pl) A) (B : Option Addr) (d : Nat) (hB : EIn X Any (.node pk pn pz pl) B), Calls Try.prog 12 #[.agg #[.int .i64 pk, .int .i64 pn, .string pz, .slice A pl.length (capF pl.length c)], .agg #[.int .i64 pk, .int .i64 pn, .string pz, .slice B pl.length (capF pl.length d)]] X fun e w' => e = .returned (.bool true) ∧ Below X.heap.size X w') := Lib.hid fun X hX A c hA B d hB => by
                    have h := rsame6_any (depthE (.node pk pn pz pl)) (.node pk pn pz pl) (.node pk pn pz pl) A B c d X (Nat.le_refl _) hA hB
                    rw [sameE_refl] at h
                    exact h
                  clear hx0 hx1 hxp
                  have hb_1 : Below V7.heap.size V7 V7 := Below.refl _ _
                  refine wp_region_K (S := (fun V' : World => (V'.cell? ⟨g0, 0, none⟩ = some (.int .i64 tk) ∧ V'.cell? ⟨g0, 1, none⟩ = some (.int .i64 tn) ∧ V'.cell? ⟨g0, 2, none⟩ = some (.string tz) ∧ V'.cell? ⟨g0, 3, none⟩ = some (.slice A0 tl.length (capF tl.length c0)) ∧ V'.cell? ⟨g1, 0, none⟩ = some (.int .i64 sk) ∧ V'.cell? ⟨g1, 1, none⟩ = some (.int .i64 sn) ∧ V'.cell? ⟨g1, 2, none⟩ = some (.string sz) ∧ V'.cell? ⟨g1, 3, none⟩ = some (.slice A1 sl.length (capF sl.length c1)) ∧ V'.cell? ⟨gp, 0, none⟩ = some (.int .i64 pk) ∧ V'.cell? ⟨gp, 1, none⟩ = some (.int .i64 pn) ∧ V'.cell? ⟨gp, 2, none⟩ = some (.string pz) ∧ V'.cell? ⟨gp, 3, none⟩ = some (.slice Ap pl.length (capF pl.length cp))))) 10 rfl (HS7.out _ hb_1.drew) (fun hSs => ?_)
                  change wpAnyK _ _ _ _ _ _ 11 (Array.replicate 11 false) _ _
                  refine wpAnyK_take (i := 0) (oi := ⟨some 73, _, _, _, _, _⟩) (v := .int .i64 (nu : Int)) rfl (by kernel_rfl) (by kernel_rfl) (by kernel_rfl) (by kernel_rfl) (fun _ _ _ h => h) (.inl ⟨by kernel_rfl, fun W hW => by kernel_rfl⟩) hSs ?_
                  try simp only [Act.put, List.setIfInBounds_toArray, List.set_cons_zero, List.set_cons_succ]
                  refine wpAnyK_take (i := 1) (oi := ⟨some 74, _, _, _, _, _⟩) (v := .bool false) rfl (by kernel_rfl) (by kernel_rfl) (by kernel_rfl) (by kernel_rfl) (fun _ _ _ h => h) (.inl ⟨by kernel_rfl, fun W hW => by first | (obtain ⟨z0, z1, z2, z3, z4, z5, z6, z7, z8, z9, z10, z11⟩ := hW; go_simp; done) | (obtain ⟨z0, z1, z2, z3, z4, z5, z6, z7, z8, z9, z10, z11⟩ := hW; go_simp; omega) | (obtain ⟨z0, z1, z2, z3, z4, z5, z6, z7, z8, z9, z10, z11⟩ := hW; go_simp; exact IntWalk.i64_in _ (by omega)) | (obtain ⟨z0, z1, z2, z3, z4, z5, z6, z7, z8, z9, z10, z11⟩ := hW; go_simp; exact IntWalk.i64_in _ (by omega)) | (obtain ⟨z0, z1, z2, z3, z4, z5, z6, z7, z8, z9, z10, z11⟩ := hW; go_simp; simp [*]; done)⟩) hSs ?_
                  try simp only [Act.put, List.setIfInBounds_toArray, List.set_cons_zero, List.set_cons_succ]
                  refine wpAnyK_take (i := 2) (oi := ⟨some 75, _, _, _, _, _⟩) (v := .bool false) rfl (by kernel_rfl) (by kernel_rfl) (by kernel_rfl) (by kernel_rfl) (fun _ _ _ h => h) (.inl ⟨by kernel_rfl, fun W hW => by kernel_rfl⟩) hSs ?_
                  try simp only [Act.put, List.setIfInBounds_toArray, List.set_cons_zero, List.set_cons_succ]
                  refine wpAnyK_take (i := 3) (oi := ⟨some 76, _, _, _, _, _⟩) (v := .agg #[.int .i64 pk, .int .i64 pn, .string pz, .slice Ap pl.length (capF pl.length cp)]) rfl (by kernel_rfl) (by kernel_rfl) (by kernel_rfl) (by kernel_rfl) (fun _ _ _ h => h) (.inl ⟨by kernel_rfl, fun W hW => by first | (obtain ⟨z0, z1, z2, z3, z4, z5, z6, z7, z8, z9, z10, z11⟩ := hW; go_simp; done) | (obtain ⟨z0, z1, z2, z3, z4, z5, z6, z7, z8, z9, z10, z11⟩ := hW; go_simp; omega) | (obtain ⟨z0, z1, z2, z3, z4, z5, z6, z7, z8, z9, z10, z11⟩ := hW; go_simp; exact IntWalk.i64_in _ (by omega)) | (obtain ⟨z0, z1, z2, z3, z4, z5, z6, z7, z8, z9, z10, z11⟩ := hW; go_simp; exact IntWalk.i64_in _ (by omega)) | (obtain ⟨z0, z1, z2, z3, z4, z5, z6, z7, z8, z9, z10, z11⟩ := hW; go_simp; simp [*]; done)⟩) hSs ?_
                  try simp only [Act.put, List.setIfInBounds_toArray, List.set_cons_zero, List.set_cons_succ]
                  refine wpAnyK_take (i := 4) (oi := ⟨some 77, _, _, _, _, _⟩) (v := .agg #[.int .i64 tk, .int .i64 tn, .string tz, .slice A0 tl.length (capF tl.length c0)]) rfl (by kernel_rfl) (by kernel_rfl) (by kernel_rfl) (by kernel_rfl) (fun _ _ _ h => h) (.inl ⟨by kernel_rfl, fun W hW => by first | (obtain ⟨z0, z1, z2, z3, z4, z5, z6, z7, z8, z9, z10, z11⟩ := hW; go_simp; done) | (obtain ⟨z0, z1, z2, z3, z4, z5, z6, z7, z8, z9, z10, z11⟩ := hW; go_simp; omega) | (obtain ⟨z0, z1, z2, z3, z4, z5, z6, z7, z8, z9, z10, z11⟩ := hW; go_simp; exact IntWalk.i64_in _ (by omega)) | (obtain ⟨z0, z1, z2, z3, z4, z5, z6, z7, z8, z9, z10, z11⟩ := hW; go_simp; exact IntWalk.i64_in _ (by omega)) | (obtain ⟨z0, z1, z2, z3, z4, z5, z6, z7, z8, z9, z10, z11⟩ := hW; go_simp; simp [*]; done)⟩) hSs ?_
                  try simp only [Act.put, List.setIfInBounds_toArray, List.set_cons_zero, List.set_cons_succ]
                  refine wpAnyK_take (i := 5) (oi := ⟨some 78, _, _, _, _, _⟩) (v := .int .i64 j) rfl (by kernel_rfl) (by kernel_rfl) (by kernel_rfl) (by kernel_rfl) (fun _ _ _ h => h) (.inl ⟨by kernel_rfl, fun W hW => by kernel_rfl⟩) hSs ?_
                  try simp only [Act.put, List.setIfInBounds_toArray, List.set_cons_zero, List.set_cons_succ]
                  refine wpAnyK_oneW (i := 6) rfl (by kernel_rfl) (by kernel_rfl) (fun K hK => ?_)
                  go_simp
                  refine (HV0.out _ (hb_1.drew)).mono ?_
                  rintro e u_2 ⟨A_2, c_2, rfl, hT_2, hq_2⟩
                  have hb_2 := (hb_1.drew).trans (hq_2.mono (hb_1.drew).size)
                  have hu0_2 := EIn.below _ (EIn.below _ hu0 (Below.refl _ _).drew (Nat.le_refl _)) hq_2 (Nat.le_refl _)
                  have hu1_2 := EIn.below _ (EIn.below _ hu1 (Below.refl _ _).drew (Nat.le_refl _)) hq_2 (Nat.le_refl _)
                  have hup_2 := EIn.below _ (EIn.below _ hup (Below.refl _ _).drew (Nat.le_refl _)) hq_2 (Nat.le_refl _)
                  clear hu0 hu1 hup
                  refine hK.out _ _ (fun _ => HS7.out _ hb_2) (fun hS9 => ?_)
                  have hS_2 := hS9 (by decide)
                  clear hK K hS9
                  try simp only [Act.put, List.setIfInBounds_toArray, List.set_cons_zero, List.set_cons_succ]
                  refine wpAnyK_oneW (i := 7) rfl (by kernel_rfl) (by kernel_rfl) (fun K hK => ?_)
                  go_simp
                  refine (HPU.out _ hb_2 A0 c0 hu0_2 A_2 c_2 hT_2).mono ?_
                  rintro e u_3 ⟨A_3, c_3, rfl, hT_3, hq_3⟩
                  have hb_3 := hb_2.trans (hq_3.mono hb_2.size)
                  have hu0_2_3 := EIn.below _ hu0_2 hq_3 (Nat.le_refl _)
                  have hu1_2_3 := EIn.below _ hu1_2 hq_3 (Nat.le_refl _)
                  have hup_2_3 := EIn.below _ hup_2 hq_3 (Nat.le_refl _)
                  have hT_2_3 := EIn.below _ hT_2 hq_3 (Nat.le_refl _)
                  clear hu0_2 hu1_2 hup_2 hT_2
                  refine hK.out _ _ (fun _ => HS7.out _ hb_3) (fun hS9 => ?_)
                  have hS_3 := hS9 (by decide)
                  clear hK K hS9
                  try simp only [Act.put, List.setIfInBounds_toArray, List.set_cons_zero, List.set_cons_succ]
                  refine wpAnyK_oneW (i := 8) rfl (by kernel_rfl) (by kernel_rfl) (fun K hK => ?_)
                  go_simp
                  refine (HSQ.out _ hb_3 Ap cp hup_2_3 A_3 c_3 hT_3).mono ?_
                  rintro e u_4 ⟨rfl, hq_4⟩
                  have hb_4 := hb_3.trans (hq_4.mono hb_3.size)
                  have hu0_2_3_4 := EIn.below _ hu0_2_3 hq_4 (Nat.le_refl _)
                  have hu1_2_3_4 := EIn.below _ hu1_2_3 hq_4 (Nat.le_refl _)
                  have hup_2_3_4 := EIn.below _ hup_2_3 hq_4 (Nat.le_refl _)
                  have hT_2_3_4 := EIn.below _ hT_2_3 hq_4 (Nat.le_refl _)
                  have hT_3_4 := EIn.below _ hT_3 hq_4 (Nat.le_refl _)
                  clear hu0_2_3 hu1_2_3 hup_2_3 hT_2_3 hT_3
                  refine hK.out _ _ (fun _ => HS7.out _ hb_4) (fun hS9 => ?_)
                  have hS_4 := hS9 (by decide)
                  clear hK K hS9
                  try simp only [Act.put, List.setIfInBounds_toArray, List.set_cons_zero, List.set_cons_succ]
                  refine wpAnyK_take (i := 9) (oi := ⟨some 82, _, _, _, _, _⟩) (v := .bool true) rfl (by kernel_rfl) (by kernel_rfl) (by kernel_rfl) (by kernel_rfl) (fun _ _ _ h => h) (.inl ⟨by kernel_rfl, fun W hW => by kernel_rfl⟩) hS_4 ?_
                  try simp only [Act.put, List.setIfInBounds_toArray, List.set_cons_zero, List.set_cons_succ]
                  refine wpAnyK_oneW (i := 10) rfl (by kernel_rfl) (by kernel_rfl) (fun K hK => ?_)
                  go_simp
                  refine hK.out _ _ (fun h => absurd rfl h) (fun _ => ?_)
                  clear hK K
                  try simp only [Act.put, List.setIfInBounds_toArray, List.set_cons_zero, List.set_cons_succ]
                  refine wpAnyK_done (by kernel_rfl) ?_ _
                  go_wp2_with fail
                  go_ret
                  exact ⟨rfl, HB7.out.trans (hb_4.mono HB7.out.size)⟩
end Lx
end Go.Proofs.Ytcgiloccmehbeaa
