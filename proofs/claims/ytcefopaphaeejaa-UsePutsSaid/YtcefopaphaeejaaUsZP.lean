/-
  The law UsePuts, walked.
-/
import Derived.Test.YtcefopaphaeejaaUsPd
import Derived.Test.YtcefopaphaeejaaUsLw
import Derived.Test.YtcefopaphaeejaaC10
import Derived.Deep.RegionHeld3
import Derived.Deep.DrawnRows
namespace Go.Proofs.Ytcefopaphaeejaa
open Go Go.RowKit
namespace Lx
set_option maxRecDepth 100000
theorem offL_len (l : List Int) : (offL l).length ≤ l.length := by rw [offL, List.length_map]; exact List.length_filter_le _ _
set_option maxHeartbeats 16000000 in
theorem usePuts_law (t : Te) (A0 : Option Addr) (c0 : Nat) (s : Te) (A1 : Option Addr) (c1 : Nat) (w : World) (hI : EIn w Any t A0) (hJ : EIn w Any s A1) :
    Calls Try.prog 6 #[ev t A0 c0, ev s A1 c1] w fun e w' => e = .returned (.bool true) ∧ Below w.heap.size w w' := by
  obtain ⟨tk, tn, tz, tl⟩ := t
  obtain ⟨sk, sn, sz, sl⟩ := s
  show Calls Try.prog 6 #[.agg #[.int .i64 tk, .int .i64 tn, .string tz, .slice A0 tl.length (capF tl.length c0)], .agg #[.int .i64 sk, .int .i64 sn, .string sz, .slice A1 sl.length (capF sl.length c1)]] w _
  have HX0 := Lib.hid ((Bx8.new (c := c0) hI (Below.refl _ w) rfl).old (.cells #[.int .i64 sk, .int .i64 sn, .string sz, .slice A1 sl.length (capF sl.length c1)] 24))
  have HX1 := Lib.hid (Bx8.new (c := c1) (g := w.heap.size + 1) hJ ((Below.refl _ w).alloc (Nat.le_refl _) (.cells #[.int .i64 tk, .int .i64 tn, .string tz, .slice A0 tl.length (capF tl.length c0)] 24)) (by simp))
  clear hI hJ
  go_enter Try.func6, Try.ntmps6
  go_wp2_with fail
  refine (fixed11_any _).mono ?_
  rintro e w2 ⟨rfl, hb2⟩
  replace HX0 := Lib.hid (HX0.out.step hb2)
  replace HX1 := Lib.hid (HX1.out.step hb2)
  clear hb2
  obtain ⟨d0, d1, d2, d3⟩ := HX0.out.four
  have HG := Lib.hid (HX0.out.small 80 (by omega) (by omega))
  cases hv : decide (0 ≤ fewE (.node tk tn tz tl) 80 600)
  · rw [hv] at HG
    clear hv
    go_wp2_with fail
    refine HG.out.mono ?_
    rintro e w3 ⟨rfl, hb3⟩
    clear HG d0 d1 d2 d3
    replace HX0 := Lib.hid (HX0.out.step hb3)
    replace HX1 := Lib.hid (HX1.out.step hb3)
    clear hb3
    go_wp2_with fail
    refine (fixed11_any w3).mono ?_
    rintro e w4 ⟨rfl, hb4⟩
    have hbw := HX0.out.bw.trans (hb4.mono HX0.out.bw.size)
    go_wp2_with fail
    go_ret
    exact ⟨rfl, hbw⟩
  · rw [hv] at HG
    have hm0 := small8 hv (by omega)
    clear hv
    go_wp2_with fail
    refine HG.out.mono ?_
    rintro e w3 ⟨rfl, hb3⟩
    clear HG d0 d1 d2 d3
    replace HX0 := Lib.hid (HX0.out.step hb3)
    replace HX1 := Lib.hid (HX1.out.step hb3)
    clear hb3
    obtain ⟨d0, d1, d2, d3⟩ := HX0.out.four
    obtain ⟨dd, hdd⟩ : ∃ d : Int, d = (depthE (.node tk tn tz tl) : Int) := ⟨_, rfl⟩
    have HG := Lib.hid (HX0.out.depth (by omega))
    rw [← hdd] at HG
    have hdd0 : 0 ≤ dd := by omega
    by_cases hc : 200 < dd
    · clear hdd
      go_wp2_with fail
      refine HG.out.mono ?_
      rintro e w5 ⟨rfl, hb5⟩
      clear HG d0 d1 d2 d3
      replace HX0 := Lib.hid (HX0.out.step hb5)
      replace HX1 := Lib.hid (HX1.out.step hb5)
      clear hb5
      go_wp2_with fail
      refine (fixed11_any w5).mono ?_
      rintro e w6 ⟨rfl, hb6⟩
      have hbw := HX0.out.bw.trans (hb6.mono HX0.out.bw.size)
      go_wp2_with fail
      go_ret
      exact ⟨rfl, hbw⟩
    · have HDD := Lib.hid hdd
      clear hdd
      go_wp2_with fail
      refine HG.out.mono ?_
      rintro e w5 ⟨rfl, hb5⟩
      clear HG d0 d1 d2 d3
      replace HX0 := Lib.hid (HX0.out.step hb5)
      replace HX1 := Lib.hid (HX1.out.step hb5)
      clear hb5
      obtain ⟨d0, d1, d2, d3⟩ := HX1.out.four
      have HG := Lib.hid (HX1.out.small 80 (by omega) (by omega))
      cases hv : decide (0 ≤ fewE (.node sk sn sz sl) 80 600)
      · rw [hv] at HG
        clear hv
        go_wp2_with fail
        refine HG.out.mono ?_
        rintro e w7 ⟨rfl, hb7⟩
        clear HG d0 d1 d2 d3
        replace HX0 := Lib.hid (HX0.out.step hb7)
        replace HX1 := Lib.hid (HX1.out.step hb7)
        clear hb7
        go_wp2_with fail
        refine (fixed11_any w7).mono ?_
        rintro e w8 ⟨rfl, hb8⟩
        have hbw := HX0.out.bw.trans (hb8.mono HX0.out.bw.size)
        go_wp2_with fail
        go_ret
        exact ⟨rfl, hbw⟩
      · rw [hv] at HG
        have hm1 := small8 hv (by omega)
        clear hv
        go_wp2_with fail
        refine HG.out.mono ?_
        rintro e w7 ⟨rfl, hb7⟩
        clear HG d0 d1 d2 d3
        replace HX0 := Lib.hid (HX0.out.step hb7)
        replace HX1 := Lib.hid (HX1.out.step hb7)
        clear hb7
        obtain ⟨d0, d1, d2, d3⟩ := HX1.out.four
        obtain ⟨dd, hdd⟩ : ∃ d : Int, d = (depthE (.node sk sn sz sl) : Int) := ⟨_, rfl⟩
        have HG := Lib.hid (HX1.out.depth (by omega))
        rw [← hdd] at HG
        have hdd0 : 0 ≤ dd := by omega
        by_cases hc : 200 < dd
        · clear hdd
          go_wp2_with fail
          refine HG.out.mono ?_
          rintro e w9 ⟨rfl, hb9⟩
          clear HG d0 d1 d2 d3
          replace HX0 := Lib.hid (HX0.out.step hb9)
          replace HX1 := Lib.hid (HX1.out.step hb9)
          clear hb9
          go_wp2_with fail
          refine (fixed11_any w9).mono ?_
          rintro e w10 ⟨rfl, hb10⟩
          have hbw := HX0.out.bw.trans (hb10.mono HX0.out.bw.size)
          go_wp2_with fail
          go_ret
          exact ⟨rfl, hbw⟩
        · have HDD := Lib.hid hdd
          clear hdd
          go_wp2_with fail
          refine HG.out.mono ?_
          rintro e w9 ⟨rfl, hb9⟩
          clear HG d0 d1 d2 d3
          replace HX0 := Lib.hid (HX0.out.step hb9)
          replace HX1 := Lib.hid (HX1.out.step hb9)
          clear hb9
          obtain ⟨d0, d1, d2, d3⟩ := HX0.out.four
          have HG := Lib.hid (rMay6_any (.node tk tn tz tl) A0 c0 3 _ HX0.out.tin (by omega) (by omega) (by omega))
          cases hv : mayQ (.node tk tn tz tl) 3 false
          · rw [hv] at HG
            clear hv
            go_wp2_with fail
            refine HG.out.mono ?_
            rintro e w11 ⟨rfl, hb11⟩
            clear HG d0 d1 d2 d3
            replace HX0 := Lib.hid (HX0.out.step hb11)
            replace HX1 := Lib.hid (HX1.out.step hb11)
            clear hb11
            go_wp2_with fail
            refine (fixed11_any w11).mono ?_
            rintro e w12 ⟨rfl, hb12⟩
            have hbw := HX0.out.bw.trans (hb12.mono HX0.out.bw.size)
            go_wp2_with fail
            go_ret
            exact ⟨rfl, hbw⟩
          · rw [hv] at HG
            have hmt := hv
            clear hv
            go_wp2_with fail
            refine HG.out.mono ?_
            rintro e w11 ⟨rfl, hb11⟩
            clear HG d0 d1 d2 d3
            replace HX0 := Lib.hid (HX0.out.step hb11)
            replace HX1 := Lib.hid (HX1.out.step hb11)
            clear hb11
            obtain ⟨d0, d1, d2, d3⟩ := HX1.out.four
            have HG := Lib.hid (rMay6_any (.node sk sn sz sl) A1 c1 0 _ HX1.out.tin (by omega) (by omega) (by omega))
            cases hv : mayQ (.node sk sn sz sl) 0 false
            · rw [hv] at HG
              clear hv
              go_wp2_with fail
              refine HG.out.mono ?_
              rintro e w13 ⟨rfl, hb13⟩
              clear HG d0 d1 d2 d3
              replace HX0 := Lib.hid (HX0.out.step hb13)
              replace HX1 := Lib.hid (HX1.out.step hb13)
              clear hb13
              go_wp2_with fail
              refine (fixed11_any w13).mono ?_
              rintro e w14 ⟨rfl, hb14⟩
              have hbw := HX0.out.bw.trans (hb14.mono HX0.out.bw.size)
              go_wp2_with fail
              go_ret
              exact ⟨rfl, hbw⟩
            · rw [hv] at HG
              have hms := hv
              clear hv
              go_wp2_with fail
              refine HG.out.mono ?_
              rintro e w13 ⟨rfl, hb13⟩
              clear HG d0 d1 d2 d3
              replace HX0 := Lib.hid (HX0.out.step hb13)
              replace HX1 := Lib.hid (HX1.out.step hb13)
              clear hb13
              have htt := may_tame hmt (by omega) (by omega)
              have hts := may_tame hms (by omega) (by omega)
              have hct := may_cl _ _ _ hmt
              have hcs := may_cl _ _ _ hms
              have htq : tameE 7000 8 (.node tk tn tz tl) := tameE_mono (by omega) (by omega) _ (clE_tame _ _ hct)
              have hsq : tameE 7000 8 (.node sk sn sz sl) := tameE_mono (by omega) (by omega) _ (clE_tame _ _ hcs)
              have htpp : tameE 1099511627776 1099511627776 (putE (.node tk tn tz tl) 0 (.node sk sn sz sl)) := tameE_mono (by omega) (by omega) _ (putE_tame (by omega) htq hsq 0)
              have hdP := putE_depth (.node tk tn tz tl) 0 (.node sk sn sz sl)
              have hzP := Nat.le_trans (putE_size (.node tk tn tz tl) 0 (.node sk sn sz sl)) (Nat.mul_le_mul (show sizeE (.node tk tn tz tl) ≤ 80 by omega) (show sizeE (.node sk sn sz sl) ≤ 80 by omega))
              have hfx := put_fans _ _ _ hcs hct
              have hkx := put_drops _ _ _ hcs hct
              have hlx := put_len _ _ _ hcs hct
              have hfr := put_free _ _ _ hcs hct
              obtain ⟨P, hP⟩ : ∃ P, P = putE (.node tk tn tz tl) 0 (.node sk sn sz sl) := ⟨_, rfl⟩
              rw [← hP] at htpp hdP hzP hfx hkx hlx hfr
              obtain ⟨nu, hnu⟩ : ∃ n, n = usesE (.node tk tn tz tl) 0 := ⟨_, rfl⟩
              have hnz : nu ≤ sizeE (.node tk tn tz tl) := by rw [hnu]; exact usesE_le _ _
              rw [← hnu] at hfx hkx hlx
              have HNU := Lib.hid hnu
              clear hnu
              obtain ⟨pk, pn, pz, pl⟩ := P
              have HP := Lib.hid hP
              have hft := fans_ok (t := (.node tk tn tz tl)) (pre := (ofE (.node tk tn tz tl)).reverse) (by omega) List.prefix_rfl
              have hfs := fans_ok (t := (.node sk sn sz sl)) (pre := (ofE (.node sk sn sz sl)).reverse) (by omega) List.prefix_rfl
              rw [fansL_rev] at hft hfs
              have hkt := dropsL_bound (ofE (.node tk tn tz tl))
              have hks := dropsL_bound (ofE (.node sk sn sz sl))
              have hot := ofE_len (.node tk tn tz tl)
              have hos := ofE_len (.node sk sn sz sl)
              have hop := ofE_len (.node pk pn pz pl)
              have hFB : ∀ x ∈ freeE (.node tk tn tz tl), 0 ≤ x ∧ x < 3 := fun x hx => ⟨fvE_pos _ _ _ ((freeE_mem _ _).1 hx), of_decide_eq_true ((may_least hmt (by omega)).symm.trans hmt) x hx⟩
              have hFl : (freeE (.node tk tn tz tl)).length ≤ 1000000 := by rw [free_same, rfreeE, rfE]; have h1 := rf_len (fvE (.node tk tn tz tl) 0) []; have h2 := fvE_len (.node tk tn tz tl) 0; simp at h1; omega
              clear hct hcs htq hsq hP
              obtain ⟨ft, hft0⟩ : ∃ n, n = fansL (ofE (.node tk tn tz tl)) := ⟨_, rfl⟩
              obtain ⟨kt, hkt0⟩ : ∃ n, n = dropsL (ofE (.node tk tn tz tl)) := ⟨_, rfl⟩
              obtain ⟨Ot, hOt0⟩ : ∃ n, n = ofE (.node tk tn tz tl) := ⟨_, rfl⟩
              obtain ⟨fs, hfs0⟩ : ∃ n, n = fansL (ofE (.node sk sn sz sl)) := ⟨_, rfl⟩
              obtain ⟨ks, hks0⟩ : ∃ n, n = dropsL (ofE (.node sk sn sz sl)) := ⟨_, rfl⟩
              obtain ⟨Os, hOs0⟩ : ∃ n, n = ofE (.node sk sn sz sl) := ⟨_, rfl⟩
              obtain ⟨fp, hfp0⟩ : ∃ n, n = fansL (ofE (.node pk pn pz pl)) := ⟨_, rfl⟩
              obtain ⟨kp, hkp0⟩ : ∃ n, n = dropsL (ofE (.node pk pn pz pl)) := ⟨_, rfl⟩
              obtain ⟨Op, hOp0⟩ : ∃ n, n = ofE (.node pk pn pz pl) := ⟨_, rfl⟩
              rw [← hft0] at hft hfx
              rw [← hfs0] at hfs hfx
              rw [← hfp0] at hfx
              rw [← hkt0] at hkt hkx
              rw [← hks0] at hks hkx
              rw [← hkp0] at hkx
              rw [← hOt0] at hkt hot hlx
              rw [← hOs0] at hks hos hlx
              rw [← hOp0] at hop hlx
              have HFt := Lib.hid hft0
              have HKt := Lib.hid hkt0
              have HOt0 := Lib.hid hOt0
              clear hft0 hkt0 hOt0
              have HFs := Lib.hid hfs0
              have HKs := Lib.hid hks0
              have HOs0 := Lib.hid hOs0
              clear hfs0 hks0 hOs0
              have HFp := Lib.hid hfp0
              have HKp := Lib.hid hkp0
              have HOp0 := Lib.hid hOp0
              clear hfp0 hkp0 hOp0
              obtain ⟨F, hF⟩ : ∃ F, F = freeE (.node tk tn tz tl) := ⟨_, rfl⟩
              rw [← hF] at hFB hFl hfr
              obtain ⟨M, hM⟩ : ∃ M, M = offL F := ⟨_, rfl⟩
              rw [← hM] at hfr
              have HF1 := Lib.hid hF
              have HM1 : Hid (M = freeE (.node pk pn pz pl)) := Lib.hid hfr.symm
              have HM : Hid (offL F = M) := Lib.hid hM.symm
              have HFB := Lib.hid hFB
              have hMl : M.length ≤ 1000000000000 := by rw [hM]; have := offL_len F; omega
              have mulb : ∀ a : Int, 0 ≤ a → a ≤ 8000000000000 → 0 ≤ (nu : Int) * a ∧ (nu : Int) * a ≤ 640000000000000 := fun a h0 h1 => ⟨Int.mul_nonneg (by omega) h0, Int.le_trans (Int.mul_le_mul (show (nu : Int) ≤ 80 by omega) h1 h0 (by omega)) (by omega)⟩
              have hbf := mulb fs hfs.1 hfs.2
              have hbk := mulb ks hks.1 (by omega)
              have hbo := mulb (Os.length : Int) (by omega) (by omega)
              have HFX := Lib.hid hfx
              have HKX := Lib.hid hkx
              have HLX := Lib.hid hlx
              clear hF hM hfr hfx hkx hlx hFB mulb
              obtain ⟨W9, hW9⟩ : ∃ V, V = w13 := ⟨_, rfl⟩
              rw [← hW9] at HX0 HX1 ⊢
              clear hW9
              obtain ⟨d0, d1, d2, d3⟩ := HX0.out.four
              obtain ⟨e0, e1, e2, e3⟩ := HX1.out.four
              have HPU : Hid (Calls Try.prog 28 #[.agg #[.int .i64 tk, .int .i64 tn, .string tz, .slice A0 tl.length (capF tl.length c0)], .int .i64 0, .agg #[.int .i64 sk, .int .i64 sn, .string sz, .slice A1 sl.length (capF sl.length c1)]] W9 fun e w' => ∃ A c, e = .returned (.agg #[.int .i64 pk, .int .i64 pn, .string pz, .slice A pl.length (capF pl.length c)]) ∧ EIn w' Any (.node pk pn pz pl) A ∧ Below W9.heap.size W9 w') := Lib.hid (by
                have h := rput_any (.node tk tn tz tl) (.node sk sn sz sl) A0 A1 c0 c1 0 W9 HX0.out.tin (by omega) (by omega) htt HX1.out.tin (by omega) (by omega) hts (by omega) (by omega)
                rw [← HP.out] at h
                exact h.mono fun e w' h => h.any)
              go_wp2_with fail
              refine HPU.out.mono ?_
              rintro e u2 ⟨Ap, cp, rfl, hTp, hb2⟩
              replace HX0 := Lib.hid (HX0.out.step hb2)
              replace HX1 := Lib.hid (HX1.out.step hb2)
              clear d0 d1 d2 d3 e0 e1 e2 e3 HPU hb2
              have HXp : Hid (Bx8 w (u2.alloc (.cells #[.int .i64 pk, .int .i64 pn, .string pz, .slice Ap pl.length (capF pl.length cp)] 24)) u2.heap.size pk pn pz pl Ap cp) := Lib.hid ⟨Lies.new _ _ _, EIn.below _ hTp ((Below.refl _ u2).alloc (Nat.le_refl _) _) (Nat.le_refl _), HX0.out.bw.alloc HX0.out.bw.size _⟩
              replace HX0 := Lib.hid (HX0.out.old (.cells #[.int .i64 pk, .int .i64 pn, .string pz, .slice Ap pl.length (capF pl.length cp)] 24))
              replace HX1 := Lib.hid (HX1.out.old (.cells #[.int .i64 pk, .int .i64 pn, .string pz, .slice Ap pl.length (capF pl.length cp)] 24))
              clear hTp
              obtain ⟨d0, d1, d2, d3⟩ := HX0.out.four
              have HUS : Hid (Calls Try.prog 29 #[.agg #[.int .i64 tk, .int .i64 tn, .string tz, .slice A0 tl.length (capF tl.length c0)], .int .i64 0] (u2.alloc (.cells #[.int .i64 pk, .int .i64 pn, .string pz, .slice Ap pl.length (capF pl.length cp)] 24)) (fun e w' => e = .returned (.int .i64 (nu : Int)) ∧ Below (u2.alloc (.cells #[.int .i64 pk, .int .i64 pn, .string pz, .slice Ap pl.length (capF pl.length cp)] 24)).heap.size (u2.alloc (.cells #[.int .i64 pk, .int .i64 pn, .string pz, .slice Ap pl.length (capF pl.length cp)] 24)) w')) := Lib.hid (by
                have h := ruses_any (depthE (.node tk tn tz tl)) (.node tk tn tz tl) A0 c0 0 (u2.alloc (.cells #[.int .i64 pk, .int .i64 pn, .string pz, .slice Ap pl.length (capF pl.length cp)] 24)) (Nat.le_refl _) (by omega) (by omega) htt (by omega) (by omega) HX0.out.tin
                rw [← HNU.out] at h
                exact h)
              go_wp2_with fail
              refine HUS.out.mono ?_
              rintro e u3 ⟨rfl, hb3⟩
              replace HX0 := Lib.hid (HX0.out.step hb3)
              replace HX1 := Lib.hid (HX1.out.step hb3)
              replace HXp := Lib.hid (HXp.out.step hb3)
              clear HUS d0 d1 d2 d3 hb3
              go_upto_region 5 with fail
              obtain ⟨g0, hg0⟩ : ∃ g, g = w.heap.size := ⟨_, rfl⟩
              obtain ⟨g1, hg1⟩ : ∃ g, g = w.heap.size + 1 := ⟨_, rfl⟩
              obtain ⟨gp, hgp⟩ : ∃ g, g = u2.heap.size := ⟨_, rfl⟩
              have hx0 := HX0.out
              have hx1 := HX1.out
              have hxp := HXp.out
              rw [← hg0] at hx0
              rw [← hg1] at hx1
              rw [← hgp] at hxp
              rw [← hgp, ← hg1, ← hg0]
              clear hg0 hg1 hgp HX0 HX1 HXp
              generalize u3 = V at hx0 hx1 hxp ⊢
              have ht0 := hx0.tin
              have ht1 := hx1.tin
              have htp := hxp.tin
              have HB := Lib.hid hx0.bw
              have HSS : Hid (∀ V', Below V.heap.size V V' → (fun V' : World => (V'.cell? ⟨g0, 0, none⟩ = some (.int .i64 tk) ∧ V'.cell? ⟨g0, 1, none⟩ = some (.int .i64 tn) ∧ V'.cell? ⟨g0, 2, none⟩ = some (.string tz) ∧ V'.cell? ⟨g0, 3, none⟩ = some (.slice A0 tl.length (capF tl.length c0)) ∧ V'.cell? ⟨g1, 0, none⟩ = some (.int .i64 sk) ∧ V'.cell? ⟨g1, 1, none⟩ = some (.int .i64 sn) ∧ V'.cell? ⟨g1, 2, none⟩ = some (.string sz) ∧ V'.cell? ⟨g1, 3, none⟩ = some (.slice A1 sl.length (capF sl.length c1)) ∧ V'.cell? ⟨gp, 0, none⟩ = some (.int .i64 pk) ∧ V'.cell? ⟨gp, 1, none⟩ = some (.int .i64 pn) ∧ V'.cell? ⟨gp, 2, none⟩ = some (.string pz) ∧ V'.cell? ⟨gp, 3, none⟩ = some (.slice Ap pl.length (capF pl.length cp)))) V') := Lib.hid fun V' h =>
                ⟨(h.cell (p := ⟨g0, 0, none⟩) hx0.box.lt).trans (hx0.box.cell 0), (h.cell (p := ⟨g0, 1, none⟩) hx0.box.lt).trans (hx0.box.cell 1), (h.cell (p := ⟨g0, 2, none⟩) hx0.box.lt).trans (hx0.box.cell 2), (h.cell (p := ⟨g0, 3, none⟩) hx0.box.lt).trans (hx0.box.cell 3), (h.cell (p := ⟨g1, 0, none⟩) hx1.box.lt).trans (hx1.box.cell 0), (h.cell (p := ⟨g1, 1, none⟩) hx1.box.lt).trans (hx1.box.cell 1), (h.cell (p := ⟨g1, 2, none⟩) hx1.box.lt).trans (hx1.box.cell 2), (h.cell (p := ⟨g1, 3, none⟩) hx1.box.lt).trans (hx1.box.cell 3), (h.cell (p := ⟨gp, 0, none⟩) hxp.box.lt).trans (hxp.box.cell 0), (h.cell (p := ⟨gp, 1, none⟩) hxp.box.lt).trans (hxp.box.cell 1), (h.cell (p := ⟨gp, 2, none⟩) hxp.box.lt).trans (hxp.box.cell 2), (h.cell (p := ⟨gp, 3, none⟩) hxp.box.lt).trans (hxp.box.cell 3)⟩
              have HUF : Hid (∀ X, Below V.heap.size V X → ∀ (A : Option Addr) (c : Nat) (hA : EIn X Any (.node tk tn tz tl) A), Calls Try.prog 14 #[.agg #[.int .i64 tk, .int .i64 tn, .string tz, .slice A tl.length (capF tl.length c)]] X (fun e w' => ∃ B d, e = .returned (.slice B F.length d) ∧ RowI w' B F ∧ Below X.heap.size X w')) := Lib.hid fun X hX A c hA => by
                have h := useFree_any (.node tk tn tz tl) A c X (by omega) (by omega) htt hA
                rw [← HF1.out] at h
                exact h.mono fun e w' ⟨B, d, he, hr, hb⟩ => ⟨B, d, he, rowI_own hr, hb⟩
              have HUP : Hid (∀ X, Below V.heap.size V X → ∀ (A : Option Addr) (c : Nat) (hA : EIn X Any (.node pk pn pz pl) A), Calls Try.prog 14 #[.agg #[.int .i64 pk, .int .i64 pn, .string pz, .slice A pl.length (capF pl.length c)]] X (fun e w' => ∃ B d, e = .returned (.slice B M.length d) ∧ RowI w' B M ∧ Below X.heap.size X w')) := Lib.hid fun X hX A c hA => by
                have h := useFree_any (.node pk pn pz pl) A c X (by omega) (by omega) htpp hA
                rw [← HM1.out] at h
                exact h.mono fun e w' ⟨B, d, he, hr, hb⟩ => ⟨B, d, he, rowI_own hr, hb⟩
              have HX0 := Lib.hid hx0
              have HX1 := Lib.hid hx1
              have HXp := Lib.hid hxp
              clear hx0 hx1 hxp
              have hb_1 : Below V.heap.size V V := Below.refl _ _
              refine wp_region_held_drew (S := (fun V' : World => (V'.cell? ⟨g0, 0, none⟩ = some (.int .i64 tk) ∧ V'.cell? ⟨g0, 1, none⟩ = some (.int .i64 tn) ∧ V'.cell? ⟨g0, 2, none⟩ = some (.string tz) ∧ V'.cell? ⟨g0, 3, none⟩ = some (.slice A0 tl.length (capF tl.length c0)) ∧ V'.cell? ⟨g1, 0, none⟩ = some (.int .i64 sk) ∧ V'.cell? ⟨g1, 1, none⟩ = some (.int .i64 sn) ∧ V'.cell? ⟨g1, 2, none⟩ = some (.string sz) ∧ V'.cell? ⟨g1, 3, none⟩ = some (.slice A1 sl.length (capF sl.length c1)) ∧ V'.cell? ⟨gp, 0, none⟩ = some (.int .i64 pk) ∧ V'.cell? ⟨gp, 1, none⟩ = some (.int .i64 pn) ∧ V'.cell? ⟨gp, 2, none⟩ = some (.string pz) ∧ V'.cell? ⟨gp, 3, none⟩ = some (.slice Ap pl.length (capF pl.length cp))))) rfl (HSS.out _ hb_1.drew) (fun hSs => ?_)
              change wpAnyH _ _ _ _ _ 6 (Array.replicate 6 false) _ _
              refine wpAnyH_take (i := 0) (oi := ⟨some 49, _, _, _, _, _⟩) (v := .agg #[.int .i64 tk, .int .i64 tn, .string tz, .slice A0 tl.length (capF tl.length c0)]) rfl (by kernel_rfl) (by kernel_rfl) (by kernel_rfl) (fun _ _ _ h => h) (.inl ⟨by kernel_rfl, fun W hW => by first | (obtain ⟨z0, z1, z2, z3, z4, z5, z6, z7, z8, z9, z10, z11⟩ := hW; go_simp; done) | (obtain ⟨z0, z1, z2, z3, z4, z5, z6, z7, z8, z9, z10, z11⟩ := hW; go_simp; omega) | (obtain ⟨z0, z1, z2, z3, z4, z5, z6, z7, z8, z9, z10, z11⟩ := hW; go_simp; exact IntWalk.i64_in _ (by omega)) | (obtain ⟨z0, z1, z2, z3, z4, z5, z6, z7, z8, z9, z10, z11⟩ := hW; go_simp; simp [*]; done)⟩) hSs ?_
              try simp only [Act.put, List.setIfInBounds_toArray, List.set_cons_zero, List.set_cons_succ]
              refine wpAnyH_take (i := 2) (oi := ⟨some 51, _, _, _, _, _⟩) (v := .agg #[.int .i64 pk, .int .i64 pn, .string pz, .slice Ap pl.length (capF pl.length cp)]) rfl (by kernel_rfl) (by kernel_rfl) (by kernel_rfl) (fun _ _ _ h => h) (.inl ⟨by kernel_rfl, fun W hW => by first | (obtain ⟨z0, z1, z2, z3, z4, z5, z6, z7, z8, z9, z10, z11⟩ := hW; go_simp; done) | (obtain ⟨z0, z1, z2, z3, z4, z5, z6, z7, z8, z9, z10, z11⟩ := hW; go_simp; omega) | (obtain ⟨z0, z1, z2, z3, z4, z5, z6, z7, z8, z9, z10, z11⟩ := hW; go_simp; exact IntWalk.i64_in _ (by omega)) | (obtain ⟨z0, z1, z2, z3, z4, z5, z6, z7, z8, z9, z10, z11⟩ := hW; go_simp; simp [*]; done)⟩) hSs ?_
              try simp only [Act.put, List.setIfInBounds_toArray, List.set_cons_zero, List.set_cons_succ]
              refine wpAnyH_ready (rs := [1]) (by kernel_rfl) (by simp) (AllReadyH.cons rfl (fun K hK => ?_) AllReadyH.nil)
              go_simp
              refine (HUF.out _ (hb_1.drew) A0 c0 (EIn.below _ ht0 (Below.refl _ _).drew (Nat.le_refl _))).mono ?_
              rintro e u_2 ⟨A_2, c_2, rfl, hR_2, hq_2⟩
              have hb_2 := (hb_1.drew).trans (hq_2.mono (hb_1.drew).size)
              have ht0_2 := EIn.below _ (EIn.below _ ht0 (Below.refl _ _).drew (Nat.le_refl _)) hq_2 (Nat.le_refl _)
              have ht1_2 := EIn.below _ (EIn.below _ ht1 (Below.refl _ _).drew (Nat.le_refl _)) hq_2 (Nat.le_refl _)
              have htp_2 := EIn.below _ (EIn.below _ htp (Below.refl _ _).drew (Nat.le_refl _)) hq_2 (Nat.le_refl _)
              clear ht0 ht1 htp
              refine hK.out _ _ (HSS.out _ hb_2) (fun hS_2 => ?_)
              clear hK K
              try simp only [Act.put, List.setIfInBounds_toArray, List.set_cons_zero, List.set_cons_succ]
              refine wpAnyH_ready (rs := [3]) (by kernel_rfl) (by simp) (AllReadyH.cons rfl (fun K hK => ?_) AllReadyH.nil)
              go_simp
              refine (HUP.out _ hb_2 Ap cp htp_2).mono ?_
              rintro e u_3 ⟨A_3, c_3, rfl, hR_3, hq_3⟩
              have hb_3 := hb_2.trans (hq_3.mono hb_2.size)
              have ht0_2_3 := EIn.below _ ht0_2 hq_3 (Nat.le_refl _)
              have ht1_2_3 := EIn.below _ ht1_2 hq_3 (Nat.le_refl _)
              have htp_2_3 := EIn.below _ htp_2 hq_3 (Nat.le_refl _)
              clear ht0_2 ht1_2 htp_2
              have hR_2_3 := hR_2.below hq_3 (Nat.le_refl _)
              clear hR_2
              refine hK.out _ _ (HSS.out _ hb_3) (fun hS_3 => ?_)
              clear hK K
              try simp only [Act.put, List.setIfInBounds_toArray, List.set_cons_zero, List.set_cons_succ]
              refine wpAnyH_take (i := 4) (oi := ⟨some 7, _, _, _, _, _⟩) (v := .slice A_2 F.length c_2) rfl (by kernel_rfl) (by kernel_rfl) (by kernel_rfl) (fun _ _ _ h => h) (.inl ⟨by kernel_rfl, fun W hW => by kernel_rfl⟩) hS_3 ?_
              try simp only [Act.put, List.setIfInBounds_toArray, List.set_cons_zero, List.set_cons_succ]
              refine wpAnyH_take (i := 5) (oi := ⟨some 8, _, _, _, _, _⟩) (v := .slice A_3 M.length c_3) rfl (by kernel_rfl) (by kernel_rfl) (by kernel_rfl) (fun _ _ _ h => h) (.inl ⟨by kernel_rfl, fun W hW => by kernel_rfl⟩) hS_3 ?_
              try simp only [Act.put, List.setIfInBounds_toArray, List.set_cons_zero, List.set_cons_succ]
              refine wpAnyH_done (by kernel_rfl) ?_ _
              have hbx := hb_3
              replace HX0 := Lib.hid (HX0.out.step hbx)
              replace HX1 := Lib.hid (HX1.out.step hbx)
              replace HXp := Lib.hid (HXp.out.step hbx)
              have HRF := Lib.hid hR_2_3
              have HRM := Lib.hid hR_3
              clear HSS HB hbx HUF HUP ht0_2_3 ht1_2_3 htp_2_3 hR_2_3 hR_3
              obtain ⟨V7, hV7⟩ : ∃ V, V = u_3 := ⟨_, rfl⟩
              rw [← hV7] at HX0 HX1 HXp HRF HRM ⊢
              clear hV7
              obtain ⟨AM, hAM⟩ : ∃ a, a = A_3 := ⟨_, rfl⟩
              obtain ⟨AF, hAF⟩ : ∃ a, a = A_2 := ⟨_, rfl⟩
              obtain ⟨cM, hcM⟩ : ∃ a, a = c_3 := ⟨_, rfl⟩
              rw [← hAM] at HRM ⊢
              rw [← hAF] at HRF ⊢
              rw [← hcM]
              clear hAM hAF hcM
              obtain ⟨mf, hmf⟩ : ∃ m, m = F.length := ⟨_, rfl⟩
              rw [← hmf]
              have hmf1 : mf ≤ F.length := by omega
              have hmf2 : F.length ≤ mf := by omega
              clear hmf
              go_wp2_with fail
              have hr0 : (V7.alloc (.cells #[] 3)).ownsRow V7.heap.size 3 1 (.slice (some ⟨V7.heap.size, 0, none⟩) 0 0) 0 (vI []) := World.ownsRow_made V7 #[] 0 (Nat.le_refl _) (by simp [maxLen]) (by simp)
              have hb0 : Below V7.heap.size V7 (V7.alloc (.cells #[] 3)) := (Below.refl _ V7).alloc (Nat.le_refl _) _
              obtain ⟨i0, hi0, hz0, hz1, hz2⟩ := info_parts infoI
              go_loopw [9, 10] (fun v x wr => ∃ (i gq cq : Nat), i ≤ mf ∧ x = .int .i64 i ∧ v = .slice (some ⟨gq, 0, none⟩) (offL (F.take i)).length cq ∧ wr.ownsRow V7.heap.size 3 1 (.slice (some ⟨gq, 0, none⟩) (offL (F.take i)).length cq) (offL (F.take i)).length (vI (offL (F.take i))) ∧ Below V7.heap.size V7 wr) (fun _ x _ => mf - (intOf x).toNat)
              case atStart => exact ⟨0, V7.heap.size, 0, Nat.zero_le _, rfl, by rw [List.take_zero]; rfl, by rw [List.take_zero]; exact hr0, hb0⟩
              case round =>
                obtain ⟨i, gq, cq, hi, rfl, rfl, hrow, hbr⟩ := hrel
                clear hr0 hb0
                have hbs := hbr.size
                by_cases hlt : i < mf
                · have hix : i < F.length := by omega
                  obtain ⟨g, o, hAg, d0⟩ := HRF.out i hix
                  have hgl := World.block_lt_of_cell? V7 _ d0
                  replace d0 := (hbr.cell (p := ⟨g, o + i, none⟩) hgl).trans d0
                  have HTK : Hid (F.take (i + 1) = F.take i ++ [F[i]'hix]) := Lib.hid (List.take_succ_eq_append_getElem hix)
                  have hxb := HFB.out (F[i]'hix) (List.getElem_mem hix)
                  have hol := offL_len (F.take i)
                  have hol2 := take_len F i
                  obtain ⟨x, hx⟩ : ∃ x, x = F[i]'hix := ⟨_, rfl⟩
                  rw [← hx] at d0 HTK hxb
                  clear hx
                  have HRF2 := HRF
                  rw [hAg]
                  by_cases hx0 : 0 < x
                  · have HS : Hid (offL (F.take (i + 1)) = offL (F.take i) ++ [x - 1]) := Lib.hid (by rw [HTK.out, offL_app]; simp [offL, hx0])
                    obtain ⟨ys, hys⟩ : ∃ ys, ys = offL (F.take i) := ⟨_, rfl⟩
                    rw [← hys] at hrow HS hol ⊢
                    clear hys HTK
                    have HA := Lib.hid hAg
                    clear hAg hgl
                    go_wp2_with (at_builtin; refine wpList_append_own _ rfl _ _ 30 rfl V7.heap.size 3 i0 (.int .i64 0) 1 8 Try.underlying30 hi0 hz0 hz1 hz2 rfl (by decide) _ _ _ rfl (hrow.alloc _) ⟨wr.heap.size, 0, none⟩ 1 1 [.int .i64 (x - 1)] rfl rfl (cell_one_new _ _ _) (by simp [Value.oneCell']) (by simp only [maxLen]; omega) (by omega) (by first | omega | (simp; omega)) ?_; intro v1 y1 ho1 hg1 hv1; obtain ⟨g1, cap1, rfl⟩ := ownsRow_succ ho1)
                    have hb9 : Below V7.heap.size V7 y1 := (hbr.alloc (by omega) _).grown hg1 (by simp; omega) (fun q hq => (hrow.lt q hq).1)
                    go_roundw
                    case rel => exact ⟨i + 1, g1, cap1, by omega, by go_num, by rw [HS.out, List.length_append]; rfl, by rw [HS.out, List.length_append, vI_snoc]; exact ho1, hb9⟩
                    case measure => simp [intOf]; omega
                  · have HS : Hid (offL (F.take (i + 1)) = offL (F.take i)) := Lib.hid (by rw [HTK.out, offL_app]; simp [offL, hx0])
                    obtain ⟨ys, hys⟩ : ∃ ys, ys = offL (F.take i) := ⟨_, rfl⟩
                    rw [← hys] at hrow HS hol ⊢
                    clear hys HTK
                    have HA := Lib.hid hAg
                    clear hAg hgl
                    go_wp2_with fail
                    go_roundw
                    case rel => exact ⟨i + 1, gq, cq, by omega, by go_num, by rw [HS.out], by rw [HS.out]; exact hrow, hbr⟩
                    case measure => simp [intOf]; omega
                · have hi9 : mf = i := by omega
                  subst hi9
                  have hM9 : offL (F.take mf) = M := by rw [List.take_of_length_le (by omega), HM.out]
                  rw [hM9] at hrow ⊢
                  clear hM9
                  have hRL := rowI_own hrow
                  have hRM := HRM.out.below hbr (Nat.le_refl _)
                  have hx0 := HX0.out.step hbr
                  have hx1 := HX1.out.step hbr
                  have hxp := HXp.out.step hbr
                  clear HX0 HX1 HXp HRF HRM hrow hbr
                  obtain ⟨V8, hV8⟩ : ∃ V, V = wr := ⟨_, rfl⟩
                  rw [← hV8] at hx0 hx1 hxp hRL hRM ⊢
                  clear hV8
                  have hef : (fp == ft + (nu : Int) * fs) = true := by rw [HFX.out]; simp
                  have hek : (kp == kt + (nu : Int) * ks) = true := by rw [HKX.out]; simp
                  have heo : ((Op.length : Int) == (Ot.length : Int) + (nu : Int) * (Os.length : Int)) = true := by rw [HLX.out]; simp
                  go_upto_region 12 with fail
                  have ht0 := hx0.tin
                  have ht1 := hx1.tin
                  have htp := hxp.tin
                  have HB8 := Lib.hid hx0.bw
                  have HS8 : Hid (∀ V', Below V8.heap.size V8 V' → (fun V' : World => (V'.cell? ⟨g0, 0, none⟩ = some (.int .i64 tk) ∧ V'.cell? ⟨g0, 1, none⟩ = some (.int .i64 tn) ∧ V'.cell? ⟨g0, 2, none⟩ = some (.string tz) ∧ V'.cell? ⟨g0, 3, none⟩ = some (.slice A0 tl.length (capF tl.length c0)) ∧ V'.cell? ⟨g1, 0, none⟩ = some (.int .i64 sk) ∧ V'.cell? ⟨g1, 1, none⟩ = some (.int .i64 sn) ∧ V'.cell? ⟨g1, 2, none⟩ = some (.string sz) ∧ V'.cell? ⟨g1, 3, none⟩ = some (.slice A1 sl.length (capF sl.length c1)) ∧ V'.cell? ⟨gp, 0, none⟩ = some (.int .i64 pk) ∧ V'.cell? ⟨gp, 1, none⟩ = some (.int .i64 pn) ∧ V'.cell? ⟨gp, 2, none⟩ = some (.string pz) ∧ V'.cell? ⟨gp, 3, none⟩ = some (.slice Ap pl.length (capF pl.length cp)))) V') := Lib.hid fun V' h =>
                    ⟨(h.cell (p := ⟨g0, 0, none⟩) hx0.box.lt).trans (hx0.box.cell 0), (h.cell (p := ⟨g0, 1, none⟩) hx0.box.lt).trans (hx0.box.cell 1), (h.cell (p := ⟨g0, 2, none⟩) hx0.box.lt).trans (hx0.box.cell 2), (h.cell (p := ⟨g0, 3, none⟩) hx0.box.lt).trans (hx0.box.cell 3), (h.cell (p := ⟨g1, 0, none⟩) hx1.box.lt).trans (hx1.box.cell 0), (h.cell (p := ⟨g1, 1, none⟩) hx1.box.lt).trans (hx1.box.cell 1), (h.cell (p := ⟨g1, 2, none⟩) hx1.box.lt).trans (hx1.box.cell 2), (h.cell (p := ⟨g1, 3, none⟩) hx1.box.lt).trans (hx1.box.cell 3), (h.cell (p := ⟨gp, 0, none⟩) hxp.box.lt).trans (hxp.box.cell 0), (h.cell (p := ⟨gp, 1, none⟩) hxp.box.lt).trans (hxp.box.cell 1), (h.cell (p := ⟨gp, 2, none⟩) hxp.box.lt).trans (hxp.box.cell 2), (h.cell (p := ⟨gp, 3, none⟩) hxp.box.lt).trans (hxp.box.cell 3)⟩
                  have HNt : Hid (∀ X, Below V8.heap.size V8 X → ∀ (A : Option Addr) (c : Nat) (hA : EIn X Any (.node tk tn tz tl) A), Calls Try.prog 20 #[.agg #[.int .i64 tk, .int .i64 tn, .string tz, .slice A tl.length (capF tl.length c)]] X fun e w' => e = .returned (.int .i64 ft) ∧ Below X.heap.size X w') := Lib.hid fun X hX A c hA => by
                    have h := fans_any (.node tk tn tz tl) A c X (by omega) (by omega) htt hA
                    rw [← HFt.out] at h
                    exact h
                  have HDt : Hid (∀ X, Below V8.heap.size V8 X → ∀ (A : Option Addr) (c : Nat) (hA : EIn X Any (.node tk tn tz tl) A), Calls Try.prog 21 #[.agg #[.int .i64 tk, .int .i64 tn, .string tz, .slice A tl.length (capF tl.length c)]] X fun e w' => e = .returned (.int .i64 kt) ∧ Below X.heap.size X w') := Lib.hid fun X hX A c hA => by
                    have h := drops_any (.node tk tn tz tl) A c X (by omega) (by omega) htt hA
                    rw [← HKt.out] at h
                    exact h
                  have HOt : Hid (∀ X, Below V8.heap.size V8 X → ∀ (A : Option Addr) (c : Nat) (hA : EIn X Any (.node tk tn tz tl) A), Calls Try.prog 16 #[.agg #[.int .i64 tk, .int .i64 tn, .string tz, .slice A tl.length (capF tl.length c)]] X (fun e w' => ∃ B d, e = .returned (.slice B Ot.length d) ∧ RowI w' B Ot ∧ Below X.heap.size X w')) := Lib.hid fun X hX A c hA => by
                    have h := of_any (.node tk tn tz tl) A c X (by omega) (by omega) htt hA
                    rw [← HOt0.out] at h
                    exact h.mono fun e w' ⟨B, d, he, hr, hb⟩ => ⟨B, d, he, rowI_own hr, hb⟩
                  have HNs : Hid (∀ X, Below V8.heap.size V8 X → ∀ (A : Option Addr) (c : Nat) (hA : EIn X Any (.node sk sn sz sl) A), Calls Try.prog 20 #[.agg #[.int .i64 sk, .int .i64 sn, .string sz, .slice A sl.length (capF sl.length c)]] X fun e w' => e = .returned (.int .i64 fs) ∧ Below X.heap.size X w') := Lib.hid fun X hX A c hA => by
                    have h := fans_any (.node sk sn sz sl) A c X (by omega) (by omega) hts hA
                    rw [← HFs.out] at h
                    exact h
                  have HDs : Hid (∀ X, Below V8.heap.size V8 X → ∀ (A : Option Addr) (c : Nat) (hA : EIn X Any (.node sk sn sz sl) A), Calls Try.prog 21 #[.agg #[.int .i64 sk, .int .i64 sn, .string sz, .slice A sl.length (capF sl.length c)]] X fun e w' => e = .returned (.int .i64 ks) ∧ Below X.heap.size X w') := Lib.hid fun X hX A c hA => by
                    have h := drops_any (.node sk sn sz sl) A c X (by omega) (by omega) hts hA
                    rw [← HKs.out] at h
                    exact h
                  have HOs : Hid (∀ X, Below V8.heap.size V8 X → ∀ (A : Option Addr) (c : Nat) (hA : EIn X Any (.node sk sn sz sl) A), Calls Try.prog 16 #[.agg #[.int .i64 sk, .int .i64 sn, .string sz, .slice A sl.length (capF sl.length c)]] X (fun e w' => ∃ B d, e = .returned (.slice B Os.length d) ∧ RowI w' B Os ∧ Below X.heap.size X w')) := Lib.hid fun X hX A c hA => by
                    have h := of_any (.node sk sn sz sl) A c X (by omega) (by omega) hts hA
                    rw [← HOs0.out] at h
                    exact h.mono fun e w' ⟨B, d, he, hr, hb⟩ => ⟨B, d, he, rowI_own hr, hb⟩
                  have HNp : Hid (∀ X, Below V8.heap.size V8 X → ∀ (A : Option Addr) (c : Nat) (hA : EIn X Any (.node pk pn pz pl) A), Calls Try.prog 20 #[.agg #[.int .i64 pk, .int .i64 pn, .string pz, .slice A pl.length (capF pl.length c)]] X fun e w' => e = .returned (.int .i64 fp) ∧ Below X.heap.size X w') := Lib.hid fun X hX A c hA => by
                    have h := fans_any (.node pk pn pz pl) A c X (by omega) (by omega) htpp hA
                    rw [← HFp.out] at h
                    exact h
                  have HDp : Hid (∀ X, Below V8.heap.size V8 X → ∀ (A : Option Addr) (c : Nat) (hA : EIn X Any (.node pk pn pz pl) A), Calls Try.prog 21 #[.agg #[.int .i64 pk, .int .i64 pn, .string pz, .slice A pl.length (capF pl.length c)]] X fun e w' => e = .returned (.int .i64 kp) ∧ Below X.heap.size X w') := Lib.hid fun X hX A c hA => by
                    have h := drops_any (.node pk pn pz pl) A c X (by omega) (by omega) htpp hA
                    rw [← HKp.out] at h
                    exact h
                  have HOp : Hid (∀ X, Below V8.heap.size V8 X → ∀ (A : Option Addr) (c : Nat) (hA : EIn X Any (.node pk pn pz pl) A), Calls Try.prog 16 #[.agg #[.int .i64 pk, .int .i64 pn, .string pz, .slice A pl.length (capF pl.length c)]] X (fun e w' => ∃ B d, e = .returned (.slice B Op.length d) ∧ RowI w' B Op ∧ Below X.heap.size X w')) := Lib.hid fun X hX A c hA => by
                    have h := of_any (.node pk pn pz pl) A c X (by omega) (by omega) htpp hA
                    rw [← HOp0.out] at h
                    exact h.mono fun e w' ⟨B, d, he, hr, hb⟩ => ⟨B, d, he, rowI_own hr, hb⟩
                  have HIM : Hid (∀ X, Below V8.heap.size V8 X → ∀ (A B : Option Addr) (c d : Nat) (hA : RowI X A M) (hB : RowI X B M), Calls Try.prog 13 #[.slice A M.length c, .slice B M.length d] X (fun e w' => e = .returned (.bool true) ∧ Below X.heap.size X w')) := Lib.hid fun X hX A B c d hA hB => by
                    have h := ints_any A B c d M M X hA hB hMl hMl
                    rw [decide_eq_true (rfl : M = M)] at h
                    exact h
                  clear hx0 hx1 hxp
                  have hb_1 : Below V8.heap.size V8 V8 := Below.refl _ _
                  refine wp_region_held_drew (S := (fun V' : World => (V'.cell? ⟨g0, 0, none⟩ = some (.int .i64 tk) ∧ V'.cell? ⟨g0, 1, none⟩ = some (.int .i64 tn) ∧ V'.cell? ⟨g0, 2, none⟩ = some (.string tz) ∧ V'.cell? ⟨g0, 3, none⟩ = some (.slice A0 tl.length (capF tl.length c0)) ∧ V'.cell? ⟨g1, 0, none⟩ = some (.int .i64 sk) ∧ V'.cell? ⟨g1, 1, none⟩ = some (.int .i64 sn) ∧ V'.cell? ⟨g1, 2, none⟩ = some (.string sz) ∧ V'.cell? ⟨g1, 3, none⟩ = some (.slice A1 sl.length (capF sl.length c1)) ∧ V'.cell? ⟨gp, 0, none⟩ = some (.int .i64 pk) ∧ V'.cell? ⟨gp, 1, none⟩ = some (.int .i64 pn) ∧ V'.cell? ⟨gp, 2, none⟩ = some (.string pz) ∧ V'.cell? ⟨gp, 3, none⟩ = some (.slice Ap pl.length (capF pl.length cp))))) rfl (HS8.out _ hb_1.drew) (fun hSs => ?_)
                  change wpAnyH _ _ _ _ _ 43 (Array.replicate 43 false) _ _
                  refine wpAnyH_take (i := 0) (oi := ⟨some 73, _, _, _, _, _⟩) (v := .agg #[.int .i64 pk, .int .i64 pn, .string pz, .slice Ap pl.length (capF pl.length cp)]) rfl (by kernel_rfl) (by kernel_rfl) (by kernel_rfl) (fun _ _ _ h => h) (.inl ⟨by kernel_rfl, fun W hW => by first | (obtain ⟨z0, z1, z2, z3, z4, z5, z6, z7, z8, z9, z10, z11⟩ := hW; go_simp; done) | (obtain ⟨z0, z1, z2, z3, z4, z5, z6, z7, z8, z9, z10, z11⟩ := hW; go_simp; omega) | (obtain ⟨z0, z1, z2, z3, z4, z5, z6, z7, z8, z9, z10, z11⟩ := hW; go_simp; exact IntWalk.i64_in _ (by omega)) | (obtain ⟨z0, z1, z2, z3, z4, z5, z6, z7, z8, z9, z10, z11⟩ := hW; go_simp; exact IntWalk.i64_in _ (by omega)) | (obtain ⟨z0, z1, z2, z3, z4, z5, z6, z7, z8, z9, z10, z11⟩ := hW; go_simp; simp [*]; done)⟩) hSs ?_
                  try simp only [Act.put, List.setIfInBounds_toArray, List.set_cons_zero, List.set_cons_succ]
                  refine wpAnyH_take (i := 2) (oi := ⟨some 75, _, _, _, _, _⟩) (v := .agg #[.int .i64 tk, .int .i64 tn, .string tz, .slice A0 tl.length (capF tl.length c0)]) rfl (by kernel_rfl) (by kernel_rfl) (by kernel_rfl) (fun _ _ _ h => h) (.inl ⟨by kernel_rfl, fun W hW => by first | (obtain ⟨z0, z1, z2, z3, z4, z5, z6, z7, z8, z9, z10, z11⟩ := hW; go_simp; done) | (obtain ⟨z0, z1, z2, z3, z4, z5, z6, z7, z8, z9, z10, z11⟩ := hW; go_simp; omega) | (obtain ⟨z0, z1, z2, z3, z4, z5, z6, z7, z8, z9, z10, z11⟩ := hW; go_simp; exact IntWalk.i64_in _ (by omega)) | (obtain ⟨z0, z1, z2, z3, z4, z5, z6, z7, z8, z9, z10, z11⟩ := hW; go_simp; exact IntWalk.i64_in _ (by omega)) | (obtain ⟨z0, z1, z2, z3, z4, z5, z6, z7, z8, z9, z10, z11⟩ := hW; go_simp; simp [*]; done)⟩) hSs ?_
                  try simp only [Act.put, List.setIfInBounds_toArray, List.set_cons_zero, List.set_cons_succ]
                  refine wpAnyH_take (i := 4) (oi := ⟨some 77, _, _, _, _, _⟩) (v := .int .i64 (nu : Int)) rfl (by kernel_rfl) (by kernel_rfl) (by kernel_rfl) (fun _ _ _ h => h) (.inl ⟨by kernel_rfl, fun W hW => by kernel_rfl⟩) hSs ?_
                  try simp only [Act.put, List.setIfInBounds_toArray, List.set_cons_zero, List.set_cons_succ]
                  refine wpAnyH_take (i := 5) (oi := ⟨some 78, _, _, _, _, _⟩) (v := .agg #[.int .i64 sk, .int .i64 sn, .string sz, .slice A1 sl.length (capF sl.length c1)]) rfl (by kernel_rfl) (by kernel_rfl) (by kernel_rfl) (fun _ _ _ h => h) (.inl ⟨by kernel_rfl, fun W hW => by first | (obtain ⟨z0, z1, z2, z3, z4, z5, z6, z7, z8, z9, z10, z11⟩ := hW; go_simp; done) | (obtain ⟨z0, z1, z2, z3, z4, z5, z6, z7, z8, z9, z10, z11⟩ := hW; go_simp; omega) | (obtain ⟨z0, z1, z2, z3, z4, z5, z6, z7, z8, z9, z10, z11⟩ := hW; go_simp; exact IntWalk.i64_in _ (by omega)) | (obtain ⟨z0, z1, z2, z3, z4, z5, z6, z7, z8, z9, z10, z11⟩ := hW; go_simp; exact IntWalk.i64_in _ (by omega)) | (obtain ⟨z0, z1, z2, z3, z4, z5, z6, z7, z8, z9, z10, z11⟩ := hW; go_simp; simp [*]; done)⟩) hSs ?_
                  try simp only [Act.put, List.setIfInBounds_toArray, List.set_cons_zero, List.set_cons_succ]
                  refine wpAnyH_ready (rs := [1]) (by kernel_rfl) (by simp) (AllReadyH.cons rfl (fun K hK => ?_) AllReadyH.nil)
                  go_simp
                  refine (HNp.out _ (hb_1.drew) Ap cp (EIn.below _ htp (Below.refl _ _).drew (Nat.le_refl _))).mono ?_
                  rintro e u_2 ⟨rfl, hq_2⟩
                  have hb_2 := (hb_1.drew).trans (hq_2.mono (hb_1.drew).size)
                  have ht0_2 := EIn.below _ (EIn.below _ ht0 (Below.refl _ _).drew (Nat.le_refl _)) hq_2 (Nat.le_refl _)
                  have ht1_2 := EIn.below _ (EIn.below _ ht1 (Below.refl _ _).drew (Nat.le_refl _)) hq_2 (Nat.le_refl _)
                  have htp_2 := EIn.below _ (EIn.below _ htp (Below.refl _ _).drew (Nat.le_refl _)) hq_2 (Nat.le_refl _)
                  clear ht0 ht1 htp
                  have hRM_2 := (hRM.below (Below.refl _ _).drew (Nat.le_refl _)).below hq_2 (Nat.le_refl _)
                  clear hRM
                  have hRL_2 := (hRL.below (Below.refl _ _).drew (Nat.le_refl _)).below hq_2 (Nat.le_refl _)
                  clear hRL
                  refine hK.out _ _ (HS8.out _ hb_2) (fun hS_2 => ?_)
                  clear hK K
                  try simp only [Act.put, List.setIfInBounds_toArray, List.set_cons_zero, List.set_cons_succ]
                  refine wpAnyH_ready (rs := [3]) (by kernel_rfl) (by simp) (AllReadyH.cons rfl (fun K hK => ?_) AllReadyH.nil)
                  go_simp
                  refine (HNt.out _ hb_2 A0 c0 ht0_2).mono ?_
                  rintro e u_3 ⟨rfl, hq_3⟩
                  have hb_3 := hb_2.trans (hq_3.mono hb_2.size)
                  have ht0_2_3 := EIn.below _ ht0_2 hq_3 (Nat.le_refl _)
                  have ht1_2_3 := EIn.below _ ht1_2 hq_3 (Nat.le_refl _)
                  have htp_2_3 := EIn.below _ htp_2 hq_3 (Nat.le_refl _)
                  clear ht0_2 ht1_2 htp_2
                  have hRM_2_3 := hRM_2.below hq_3 (Nat.le_refl _)
                  clear hRM_2
                  have hRL_2_3 := hRL_2.below hq_3 (Nat.le_refl _)
                  clear hRL_2
                  refine hK.out _ _ (HS8.out _ hb_3) (fun hS_3 => ?_)
                  clear hK K
                  try simp only [Act.put, List.setIfInBounds_toArray, List.set_cons_zero, List.set_cons_succ]
                  refine wpAnyH_ready (rs := [6]) (by kernel_rfl) (by simp) (AllReadyH.cons rfl (fun K hK => ?_) AllReadyH.nil)
                  go_simp
                  refine (HNs.out _ hb_3 A1 c1 ht1_2_3).mono ?_
                  rintro e u_4 ⟨rfl, hq_4⟩
                  have hb_4 := hb_3.trans (hq_4.mono hb_3.size)
                  have ht0_2_3_4 := EIn.below _ ht0_2_3 hq_4 (Nat.le_refl _)
                  have ht1_2_3_4 := EIn.below _ ht1_2_3 hq_4 (Nat.le_refl _)
                  have htp_2_3_4 := EIn.below _ htp_2_3 hq_4 (Nat.le_refl _)
                  clear ht0_2_3 ht1_2_3 htp_2_3
                  have hRM_2_3_4 := hRM_2_3.below hq_4 (Nat.le_refl _)
                  clear hRM_2_3
                  have hRL_2_3_4 := hRL_2_3.below hq_4 (Nat.le_refl _)
                  clear hRL_2_3
                  refine hK.out _ _ (HS8.out _ hb_4) (fun hS_4 => ?_)
                  clear hK K
                  try simp only [Act.put, List.setIfInBounds_toArray, List.set_cons_zero, List.set_cons_succ]
                  refine wpAnyH_take (i := 7) (oi := ⟨some 80, _, _, _, _, _⟩) (v := .int .i64 ((nu : Int) * fs)) rfl (by kernel_rfl) (by kernel_rfl) (by kernel_rfl) (fun _ _ _ h => h) (.inl ⟨by kernel_rfl, fun W hW => by first | (obtain ⟨z0, z1, z2, z3, z4, z5, z6, z7, z8, z9, z10, z11⟩ := hW; go_simp; done) | (obtain ⟨z0, z1, z2, z3, z4, z5, z6, z7, z8, z9, z10, z11⟩ := hW; go_simp; omega) | (obtain ⟨z0, z1, z2, z3, z4, z5, z6, z7, z8, z9, z10, z11⟩ := hW; go_simp; exact IntWalk.i64_in _ (by omega)) | (obtain ⟨z0, z1, z2, z3, z4, z5, z6, z7, z8, z9, z10, z11⟩ := hW; go_simp; exact IntWalk.i64_in _ (by omega)) | (obtain ⟨z0, z1, z2, z3, z4, z5, z6, z7, z8, z9, z10, z11⟩ := hW; go_simp; simp [*]; done)⟩) hS_4 ?_
                  try simp only [Act.put, List.setIfInBounds_toArray, List.set_cons_zero, List.set_cons_succ]
                  refine wpAnyH_take (i := 8) (oi := ⟨some 81, _, _, _, _, _⟩) (v := .int .i64 (ft + ((nu : Int) * fs))) rfl (by kernel_rfl) (by kernel_rfl) (by kernel_rfl) (fun _ _ _ h => h) (.inl ⟨by kernel_rfl, fun W hW => by first | (obtain ⟨z0, z1, z2, z3, z4, z5, z6, z7, z8, z9, z10, z11⟩ := hW; go_simp; done) | (obtain ⟨z0, z1, z2, z3, z4, z5, z6, z7, z8, z9, z10, z11⟩ := hW; go_simp; omega) | (obtain ⟨z0, z1, z2, z3, z4, z5, z6, z7, z8, z9, z10, z11⟩ := hW; go_simp; exact IntWalk.i64_in _ (by omega)) | (obtain ⟨z0, z1, z2, z3, z4, z5, z6, z7, z8, z9, z10, z11⟩ := hW; go_simp; exact IntWalk.i64_in _ (by omega)) | (obtain ⟨z0, z1, z2, z3, z4, z5, z6, z7, z8, z9, z10, z11⟩ := hW; go_simp; simp [*]; done)⟩) hS_4 ?_
                  try simp only [Act.put, List.setIfInBounds_toArray, List.set_cons_zero, List.set_cons_succ]
                  refine wpAnyH_take (i := 9) (oi := ⟨some 82, _, _, _, _, _⟩) (v := .bool true) rfl (by kernel_rfl) (by kernel_rfl) (by kernel_rfl) (fun _ _ _ h => h) (.inl ⟨by kernel_rfl, fun W hW => by first | (obtain ⟨z0, z1, z2, z3, z4, z5, z6, z7, z8, z9, z10, z11⟩ := hW; go_simp; done) | (obtain ⟨z0, z1, z2, z3, z4, z5, z6, z7, z8, z9, z10, z11⟩ := hW; go_simp; omega) | (obtain ⟨z0, z1, z2, z3, z4, z5, z6, z7, z8, z9, z10, z11⟩ := hW; go_simp; exact IntWalk.i64_in _ (by omega)) | (obtain ⟨z0, z1, z2, z3, z4, z5, z6, z7, z8, z9, z10, z11⟩ := hW; go_simp; exact IntWalk.i64_in _ (by omega)) | (obtain ⟨z0, z1, z2, z3, z4, z5, z6, z7, z8, z9, z10, z11⟩ := hW; go_simp; simp [*]; done)⟩) hS_4 ?_
                  try simp only [Act.put, List.setIfInBounds_toArray, List.set_cons_zero, List.set_cons_succ]
                  refine wpAnyH_take (i := 10) (oi := ⟨some 83, _, _, _, _, _⟩) (v := .bool true) rfl (by kernel_rfl) (by kernel_rfl) (by kernel_rfl) (fun _ _ _ h => h) (.inl ⟨by kernel_rfl, fun W hW => by kernel_rfl⟩) hS_4 ?_
                  try simp only [Act.put, List.setIfInBounds_toArray, List.set_cons_zero, List.set_cons_succ]
                  refine wpAnyH_take (i := 11) (oi := ⟨some 84, _, _, _, _, _⟩) (v := .agg #[.int .i64 pk, .int .i64 pn, .string pz, .slice Ap pl.length (capF pl.length cp)]) rfl (by kernel_rfl) (by kernel_rfl) (by kernel_rfl) (fun _ _ _ h => h) (.inl ⟨by kernel_rfl, fun W hW => by first | (obtain ⟨z0, z1, z2, z3, z4, z5, z6, z7, z8, z9, z10, z11⟩ := hW; go_simp; done) | (obtain ⟨z0, z1, z2, z3, z4, z5, z6, z7, z8, z9, z10, z11⟩ := hW; go_simp; omega) | (obtain ⟨z0, z1, z2, z3, z4, z5, z6, z7, z8, z9, z10, z11⟩ := hW; go_simp; exact IntWalk.i64_in _ (by omega)) | (obtain ⟨z0, z1, z2, z3, z4, z5, z6, z7, z8, z9, z10, z11⟩ := hW; go_simp; exact IntWalk.i64_in _ (by omega)) | (obtain ⟨z0, z1, z2, z3, z4, z5, z6, z7, z8, z9, z10, z11⟩ := hW; go_simp; simp [*]; done)⟩) hS_4 ?_
                  try simp only [Act.put, List.setIfInBounds_toArray, List.set_cons_zero, List.set_cons_succ]
                  refine wpAnyH_take (i := 13) (oi := ⟨some 86, _, _, _, _, _⟩) (v := .agg #[.int .i64 tk, .int .i64 tn, .string tz, .slice A0 tl.length (capF tl.length c0)]) rfl (by kernel_rfl) (by kernel_rfl) (by kernel_rfl) (fun _ _ _ h => h) (.inl ⟨by kernel_rfl, fun W hW => by first | (obtain ⟨z0, z1, z2, z3, z4, z5, z6, z7, z8, z9, z10, z11⟩ := hW; go_simp; done) | (obtain ⟨z0, z1, z2, z3, z4, z5, z6, z7, z8, z9, z10, z11⟩ := hW; go_simp; omega) | (obtain ⟨z0, z1, z2, z3, z4, z5, z6, z7, z8, z9, z10, z11⟩ := hW; go_simp; exact IntWalk.i64_in _ (by omega)) | (obtain ⟨z0, z1, z2, z3, z4, z5, z6, z7, z8, z9, z10, z11⟩ := hW; go_simp; exact IntWalk.i64_in _ (by omega)) | (obtain ⟨z0, z1, z2, z3, z4, z5, z6, z7, z8, z9, z10, z11⟩ := hW; go_simp; simp [*]; done)⟩) hS_4 ?_
                  try simp only [Act.put, List.setIfInBounds_toArray, List.set_cons_zero, List.set_cons_succ]
                  refine wpAnyH_take (i := 15) (oi := ⟨some 88, _, _, _, _, _⟩) (v := .int .i64 (nu : Int)) rfl (by kernel_rfl) (by kernel_rfl) (by kernel_rfl) (fun _ _ _ h => h) (.inl ⟨by kernel_rfl, fun W hW => by kernel_rfl⟩) hS_4 ?_
                  try simp only [Act.put, List.setIfInBounds_toArray, List.set_cons_zero, List.set_cons_succ]
                  refine wpAnyH_take (i := 16) (oi := ⟨some 89, _, _, _, _, _⟩) (v := .agg #[.int .i64 sk, .int .i64 sn, .string sz, .slice A1 sl.length (capF sl.length c1)]) rfl (by kernel_rfl) (by kernel_rfl) (by kernel_rfl) (fun _ _ _ h => h) (.inl ⟨by kernel_rfl, fun W hW => by first | (obtain ⟨z0, z1, z2, z3, z4, z5, z6, z7, z8, z9, z10, z11⟩ := hW; go_simp; done) | (obtain ⟨z0, z1, z2, z3, z4, z5, z6, z7, z8, z9, z10, z11⟩ := hW; go_simp; omega) | (obtain ⟨z0, z1, z2, z3, z4, z5, z6, z7, z8, z9, z10, z11⟩ := hW; go_simp; exact IntWalk.i64_in _ (by omega)) | (obtain ⟨z0, z1, z2, z3, z4, z5, z6, z7, z8, z9, z10, z11⟩ := hW; go_simp; exact IntWalk.i64_in _ (by omega)) | (obtain ⟨z0, z1, z2, z3, z4, z5, z6, z7, z8, z9, z10, z11⟩ := hW; go_simp; simp [*]; done)⟩) hS_4 ?_
                  try simp only [Act.put, List.setIfInBounds_toArray, List.set_cons_zero, List.set_cons_succ]
                  refine wpAnyH_ready (rs := [12]) (by kernel_rfl) (by simp) (AllReadyH.cons rfl (fun K hK => ?_) AllReadyH.nil)
                  rw [if_pos (by kernel_rfl)]
                  go_simp
                  refine (HDp.out _ hb_4 Ap cp htp_2_3_4).mono ?_
                  rintro e u_5 ⟨rfl, hq_5⟩
                  have hb_5 := hb_4.trans (hq_5.mono hb_4.size)
                  have ht0_2_3_4_5 := EIn.below _ ht0_2_3_4 hq_5 (Nat.le_refl _)
                  have ht1_2_3_4_5 := EIn.below _ ht1_2_3_4 hq_5 (Nat.le_refl _)
                  have htp_2_3_4_5 := EIn.below _ htp_2_3_4 hq_5 (Nat.le_refl _)
                  clear ht0_2_3_4 ht1_2_3_4 htp_2_3_4
                  have hRM_2_3_4_5 := hRM_2_3_4.below hq_5 (Nat.le_refl _)
                  clear hRM_2_3_4
                  have hRL_2_3_4_5 := hRL_2_3_4.below hq_5 (Nat.le_refl _)
                  clear hRL_2_3_4
                  refine hK.out _ _ (HS8.out _ hb_5) (fun hS_5 => ?_)
                  clear hK K
                  try simp only [Act.put, List.setIfInBounds_toArray, List.set_cons_zero, List.set_cons_succ]
                  refine wpAnyH_ready (rs := [14]) (by kernel_rfl) (by simp) (AllReadyH.cons rfl (fun K hK => ?_) AllReadyH.nil)
                  rw [if_pos (by kernel_rfl)]
                  go_simp
                  refine (HDt.out _ hb_5 A0 c0 ht0_2_3_4_5).mono ?_
                  rintro e u_6 ⟨rfl, hq_6⟩
                  have hb_6 := hb_5.trans (hq_6.mono hb_5.size)
                  have ht0_2_3_4_5_6 := EIn.below _ ht0_2_3_4_5 hq_6 (Nat.le_refl _)
                  have ht1_2_3_4_5_6 := EIn.below _ ht1_2_3_4_5 hq_6 (Nat.le_refl _)
                  have htp_2_3_4_5_6 := EIn.below _ htp_2_3_4_5 hq_6 (Nat.le_refl _)
                  clear ht0_2_3_4_5 ht1_2_3_4_5 htp_2_3_4_5
                  have hRM_2_3_4_5_6 := hRM_2_3_4_5.below hq_6 (Nat.le_refl _)
                  clear hRM_2_3_4_5
                  have hRL_2_3_4_5_6 := hRL_2_3_4_5.below hq_6 (Nat.le_refl _)
                  clear hRL_2_3_4_5
                  refine hK.out _ _ (HS8.out _ hb_6) (fun hS_6 => ?_)
                  clear hK K
                  try simp only [Act.put, List.setIfInBounds_toArray, List.set_cons_zero, List.set_cons_succ]
                  refine wpAnyH_ready (rs := [17]) (by kernel_rfl) (by simp) (AllReadyH.cons rfl (fun K hK => ?_) AllReadyH.nil)
                  rw [if_pos (by kernel_rfl)]
                  go_simp
                  refine (HDs.out _ hb_6 A1 c1 ht1_2_3_4_5_6).mono ?_
                  rintro e u_7 ⟨rfl, hq_7⟩
                  have hb_7 := hb_6.trans (hq_7.mono hb_6.size)
                  have ht0_2_3_4_5_6_7 := EIn.below _ ht0_2_3_4_5_6 hq_7 (Nat.le_refl _)
                  have ht1_2_3_4_5_6_7 := EIn.below _ ht1_2_3_4_5_6 hq_7 (Nat.le_refl _)
                  have htp_2_3_4_5_6_7 := EIn.below _ htp_2_3_4_5_6 hq_7 (Nat.le_refl _)
                  clear ht0_2_3_4_5_6 ht1_2_3_4_5_6 htp_2_3_4_5_6
                  have hRM_2_3_4_5_6_7 := hRM_2_3_4_5_6.below hq_7 (Nat.le_refl _)
                  clear hRM_2_3_4_5_6
                  have hRL_2_3_4_5_6_7 := hRL_2_3_4_5_6.below hq_7 (Nat.le_refl _)
                  clear hRL_2_3_4_5_6
                  refine hK.out _ _ (HS8.out _ hb_7) (fun hS_7 => ?_)
                  clear hK K
                  try simp only [Act.put, List.setIfInBounds_toArray, List.set_cons_zero, List.set_cons_succ]
                  refine wpAnyH_take (i := 18) (oi := ⟨some 91, _, _, _, _, _⟩) (v := .int .i64 ((nu : Int) * ks)) rfl (by kernel_rfl) (by kernel_rfl) (by kernel_rfl) (fun _ _ _ h => h) (.inl ⟨by kernel_rfl, fun W hW => by first | (obtain ⟨z0, z1, z2, z3, z4, z5, z6, z7, z8, z9, z10, z11⟩ := hW; go_simp; done) | (obtain ⟨z0, z1, z2, z3, z4, z5, z6, z7, z8, z9, z10, z11⟩ := hW; go_simp; omega) | (obtain ⟨z0, z1, z2, z3, z4, z5, z6, z7, z8, z9, z10, z11⟩ := hW; go_simp; exact IntWalk.i64_in _ (by omega)) | (obtain ⟨z0, z1, z2, z3, z4, z5, z6, z7, z8, z9, z10, z11⟩ := hW; go_simp; exact IntWalk.i64_in _ (by omega)) | (obtain ⟨z0, z1, z2, z3, z4, z5, z6, z7, z8, z9, z10, z11⟩ := hW; go_simp; simp [*]; done)⟩) hS_7 ?_
                  try simp only [Act.put, List.setIfInBounds_toArray, List.set_cons_zero, List.set_cons_succ]
                  refine wpAnyH_take (i := 19) (oi := ⟨some 92, _, _, _, _, _⟩) (v := .int .i64 (kt + ((nu : Int) * ks))) rfl (by kernel_rfl) (by kernel_rfl) (by kernel_rfl) (fun _ _ _ h => h) (.inl ⟨by kernel_rfl, fun W hW => by first | (obtain ⟨z0, z1, z2, z3, z4, z5, z6, z7, z8, z9, z10, z11⟩ := hW; go_simp; done) | (obtain ⟨z0, z1, z2, z3, z4, z5, z6, z7, z8, z9, z10, z11⟩ := hW; go_simp; omega) | (obtain ⟨z0, z1, z2, z3, z4, z5, z6, z7, z8, z9, z10, z11⟩ := hW; go_simp; exact IntWalk.i64_in _ (by omega)) | (obtain ⟨z0, z1, z2, z3, z4, z5, z6, z7, z8, z9, z10, z11⟩ := hW; go_simp; exact IntWalk.i64_in _ (by omega)) | (obtain ⟨z0, z1, z2, z3, z4, z5, z6, z7, z8, z9, z10, z11⟩ := hW; go_simp; simp [*]; done)⟩) hS_7 ?_
                  try simp only [Act.put, List.setIfInBounds_toArray, List.set_cons_zero, List.set_cons_succ]
                  refine wpAnyH_take (i := 20) (oi := ⟨some 93, _, _, _, _, _⟩) (v := .bool true) rfl (by kernel_rfl) (by kernel_rfl) (by kernel_rfl) (fun _ _ _ h => h) (.inl ⟨by kernel_rfl, fun W hW => by first | (obtain ⟨z0, z1, z2, z3, z4, z5, z6, z7, z8, z9, z10, z11⟩ := hW; go_simp; done) | (obtain ⟨z0, z1, z2, z3, z4, z5, z6, z7, z8, z9, z10, z11⟩ := hW; go_simp; omega) | (obtain ⟨z0, z1, z2, z3, z4, z5, z6, z7, z8, z9, z10, z11⟩ := hW; go_simp; exact IntWalk.i64_in _ (by omega)) | (obtain ⟨z0, z1, z2, z3, z4, z5, z6, z7, z8, z9, z10, z11⟩ := hW; go_simp; exact IntWalk.i64_in _ (by omega)) | (obtain ⟨z0, z1, z2, z3, z4, z5, z6, z7, z8, z9, z10, z11⟩ := hW; go_simp; simp [*]; done)⟩) hS_7 ?_
                  try simp only [Act.put, List.setIfInBounds_toArray, List.set_cons_zero, List.set_cons_succ]
                  refine wpAnyH_take (i := 21) (oi := ⟨some 94, _, _, _, _, _⟩) (v := .bool true) rfl (by kernel_rfl) (by kernel_rfl) (by kernel_rfl) (fun _ _ _ h => h) (.inl ⟨by kernel_rfl, fun W hW => by kernel_rfl⟩) hS_7 ?_
                  try simp only [Act.put, List.setIfInBounds_toArray, List.set_cons_zero, List.set_cons_succ]
                  refine wpAnyH_take (i := 22) (oi := ⟨some 95, _, _, _, _, _⟩) (v := .bool true) rfl (by kernel_rfl) (by kernel_rfl) (by kernel_rfl) (fun _ _ _ h => h) (.inl ⟨by kernel_rfl, fun W hW => by kernel_rfl⟩) hS_7 ?_
                  try simp only [Act.put, List.setIfInBounds_toArray, List.set_cons_zero, List.set_cons_succ]
                  refine wpAnyH_take (i := 23) (oi := ⟨some 96, _, _, _, _, _⟩) (v := .slice AM M.length cM) rfl (by kernel_rfl) (by kernel_rfl) (by kernel_rfl) (fun _ _ _ h => h) (.inl ⟨by kernel_rfl, fun W hW => by kernel_rfl⟩) hS_7 ?_
                  try simp only [Act.put, List.setIfInBounds_toArray, List.set_cons_zero, List.set_cons_succ]
                  refine wpAnyH_take (i := 24) (oi := ⟨some 97, _, _, _, _, _⟩) (v := .slice (some ⟨gq, 0, none⟩) M.length cq) rfl (by kernel_rfl) (by kernel_rfl) (by kernel_rfl) (fun _ _ _ h => h) (.inl ⟨by kernel_rfl, fun W hW => by kernel_rfl⟩) hS_7 ?_
                  try simp only [Act.put, List.setIfInBounds_toArray, List.set_cons_zero, List.set_cons_succ]
                  refine wpAnyH_ready (rs := [25]) (by kernel_rfl) (by simp) (AllReadyH.cons rfl (fun K hK => ?_) AllReadyH.nil)
                  rw [if_pos (by kernel_rfl)]
                  go_simp
                  refine (HIM.out _ hb_7 AM (some ⟨gq, 0, none⟩) cM cq hRM_2_3_4_5_6_7 hRL_2_3_4_5_6_7).mono ?_
                  rintro e u_8 ⟨rfl, hq_8⟩
                  have hb_8 := hb_7.trans (hq_8.mono hb_7.size)
                  have ht0_2_3_4_5_6_7_8 := EIn.below _ ht0_2_3_4_5_6_7 hq_8 (Nat.le_refl _)
                  have ht1_2_3_4_5_6_7_8 := EIn.below _ ht1_2_3_4_5_6_7 hq_8 (Nat.le_refl _)
                  have htp_2_3_4_5_6_7_8 := EIn.below _ htp_2_3_4_5_6_7 hq_8 (Nat.le_refl _)
                  clear ht0_2_3_4_5_6_7 ht1_2_3_4_5_6_7 htp_2_3_4_5_6_7
                  have hRM_2_3_4_5_6_7_8 := hRM_2_3_4_5_6_7.below hq_8 (Nat.le_refl _)
                  clear hRM_2_3_4_5_6_7
                  have hRL_2_3_4_5_6_7_8 := hRL_2_3_4_5_6_7.below hq_8 (Nat.le_refl _)
                  clear hRL_2_3_4_5_6_7
                  refine hK.out _ _ (HS8.out _ hb_8) (fun hS_8 => ?_)
                  clear hK K
                  try simp only [Act.put, List.setIfInBounds_toArray, List.set_cons_zero, List.set_cons_succ]
                  refine wpAnyH_take (i := 26) (oi := ⟨some 99, _, _, _, _, _⟩) (v := .bool true) rfl (by kernel_rfl) (by kernel_rfl) (by kernel_rfl) (fun _ _ _ h => h) (.inl ⟨by kernel_rfl, fun W hW => by kernel_rfl⟩) hS_8 ?_
                  try simp only [Act.put, List.setIfInBounds_toArray, List.set_cons_zero, List.set_cons_succ]
                  refine wpAnyH_take (i := 27) (oi := ⟨some 100, _, _, _, _, _⟩) (v := .bool true) rfl (by kernel_rfl) (by kernel_rfl) (by kernel_rfl) (fun _ _ _ h => h) (.inl ⟨by kernel_rfl, fun W hW => by kernel_rfl⟩) hS_8 ?_
                  try simp only [Act.put, List.setIfInBounds_toArray, List.set_cons_zero, List.set_cons_succ]
                  refine wpAnyH_take (i := 28) (oi := ⟨some 101, _, _, _, _, _⟩) (v := .agg #[.int .i64 pk, .int .i64 pn, .string pz, .slice Ap pl.length (capF pl.length cp)]) rfl (by kernel_rfl) (by kernel_rfl) (by kernel_rfl) (fun _ _ _ h => h) (.inl ⟨by kernel_rfl, fun W hW => by first | (obtain ⟨z0, z1, z2, z3, z4, z5, z6, z7, z8, z9, z10, z11⟩ := hW; go_simp; done) | (obtain ⟨z0, z1, z2, z3, z4, z5, z6, z7, z8, z9, z10, z11⟩ := hW; go_simp; omega) | (obtain ⟨z0, z1, z2, z3, z4, z5, z6, z7, z8, z9, z10, z11⟩ := hW; go_simp; exact IntWalk.i64_in _ (by omega)) | (obtain ⟨z0, z1, z2, z3, z4, z5, z6, z7, z8, z9, z10, z11⟩ := hW; go_simp; exact IntWalk.i64_in _ (by omega)) | (obtain ⟨z0, z1, z2, z3, z4, z5, z6, z7, z8, z9, z10, z11⟩ := hW; go_simp; simp [*]; done)⟩) hS_8 ?_
                  try simp only [Act.put, List.setIfInBounds_toArray, List.set_cons_zero, List.set_cons_succ]
                  refine wpAnyH_take (i := 31) (oi := ⟨some 104, _, _, _, _, _⟩) (v := .agg #[.int .i64 tk, .int .i64 tn, .string tz, .slice A0 tl.length (capF tl.length c0)]) rfl (by kernel_rfl) (by kernel_rfl) (by kernel_rfl) (fun _ _ _ h => h) (.inl ⟨by kernel_rfl, fun W hW => by first | (obtain ⟨z0, z1, z2, z3, z4, z5, z6, z7, z8, z9, z10, z11⟩ := hW; go_simp; done) | (obtain ⟨z0, z1, z2, z3, z4, z5, z6, z7, z8, z9, z10, z11⟩ := hW; go_simp; omega) | (obtain ⟨z0, z1, z2, z3, z4, z5, z6, z7, z8, z9, z10, z11⟩ := hW; go_simp; exact IntWalk.i64_in _ (by omega)) | (obtain ⟨z0, z1, z2, z3, z4, z5, z6, z7, z8, z9, z10, z11⟩ := hW; go_simp; exact IntWalk.i64_in _ (by omega)) | (obtain ⟨z0, z1, z2, z3, z4, z5, z6, z7, z8, z9, z10, z11⟩ := hW; go_simp; simp [*]; done)⟩) hS_8 ?_
                  try simp only [Act.put, List.setIfInBounds_toArray, List.set_cons_zero, List.set_cons_succ]
                  refine wpAnyH_take (i := 34) (oi := ⟨some 107, _, _, _, _, _⟩) (v := .int .i64 (nu : Int)) rfl (by kernel_rfl) (by kernel_rfl) (by kernel_rfl) (fun _ _ _ h => h) (.inl ⟨by kernel_rfl, fun W hW => by kernel_rfl⟩) hS_8 ?_
                  try simp only [Act.put, List.setIfInBounds_toArray, List.set_cons_zero, List.set_cons_succ]
                  refine wpAnyH_take (i := 35) (oi := ⟨some 108, _, _, _, _, _⟩) (v := .agg #[.int .i64 sk, .int .i64 sn, .string sz, .slice A1 sl.length (capF sl.length c1)]) rfl (by kernel_rfl) (by kernel_rfl) (by kernel_rfl) (fun _ _ _ h => h) (.inl ⟨by kernel_rfl, fun W hW => by first | (obtain ⟨z0, z1, z2, z3, z4, z5, z6, z7, z8, z9, z10, z11⟩ := hW; go_simp; done) | (obtain ⟨z0, z1, z2, z3, z4, z5, z6, z7, z8, z9, z10, z11⟩ := hW; go_simp; omega) | (obtain ⟨z0, z1, z2, z3, z4, z5, z6, z7, z8, z9, z10, z11⟩ := hW; go_simp; exact IntWalk.i64_in _ (by omega)) | (obtain ⟨z0, z1, z2, z3, z4, z5, z6, z7, z8, z9, z10, z11⟩ := hW; go_simp; exact IntWalk.i64_in _ (by omega)) | (obtain ⟨z0, z1, z2, z3, z4, z5, z6, z7, z8, z9, z10, z11⟩ := hW; go_simp; simp [*]; done)⟩) hS_8 ?_
                  try simp only [Act.put, List.setIfInBounds_toArray, List.set_cons_zero, List.set_cons_succ]
                  refine wpAnyH_ready (rs := [29]) (by kernel_rfl) (by simp) (AllReadyH.cons rfl (fun K hK => ?_) AllReadyH.nil)
                  rw [if_pos (by kernel_rfl)]
                  go_simp
                  refine (HOp.out _ hb_8 Ap cp htp_2_3_4_5_6_7_8).mono ?_
                  rintro e u_9 ⟨A_9, c_9, rfl, hR_9, hq_9⟩
                  have hb_9 := hb_8.trans (hq_9.mono hb_8.size)
                  have ht0_2_3_4_5_6_7_8_9 := EIn.below _ ht0_2_3_4_5_6_7_8 hq_9 (Nat.le_refl _)
                  have ht1_2_3_4_5_6_7_8_9 := EIn.below _ ht1_2_3_4_5_6_7_8 hq_9 (Nat.le_refl _)
                  have htp_2_3_4_5_6_7_8_9 := EIn.below _ htp_2_3_4_5_6_7_8 hq_9 (Nat.le_refl _)
                  clear ht0_2_3_4_5_6_7_8 ht1_2_3_4_5_6_7_8 htp_2_3_4_5_6_7_8
                  have hRM_2_3_4_5_6_7_8_9 := hRM_2_3_4_5_6_7_8.below hq_9 (Nat.le_refl _)
                  clear hRM_2_3_4_5_6_7_8
                  have hRL_2_3_4_5_6_7_8_9 := hRL_2_3_4_5_6_7_8.below hq_9 (Nat.le_refl _)
                  clear hRL_2_3_4_5_6_7_8
                  refine hK.out _ _ (HS8.out _ hb_9) (fun hS_9 => ?_)
                  clear hK K
                  try simp only [Act.put, List.setIfInBounds_toArray, List.set_cons_zero, List.set_cons_succ]
                  refine wpAnyH_take (i := 30) (oi := ⟨some 103, _, _, _, _, _⟩) (v := .int .i64 (Op.length : Int)) rfl (by kernel_rfl) (by kernel_rfl) (by kernel_rfl) (fun _ _ _ h => h) (.inl ⟨by kernel_rfl, fun W hW => by first | (obtain ⟨z0, z1, z2, z3, z4, z5, z6, z7, z8, z9, z10, z11⟩ := hW; go_simp; done) | (obtain ⟨z0, z1, z2, z3, z4, z5, z6, z7, z8, z9, z10, z11⟩ := hW; go_simp; omega) | (obtain ⟨z0, z1, z2, z3, z4, z5, z6, z7, z8, z9, z10, z11⟩ := hW; go_simp; exact IntWalk.i64_in _ (by omega)) | (obtain ⟨z0, z1, z2, z3, z4, z5, z6, z7, z8, z9, z10, z11⟩ := hW; go_simp; exact IntWalk.i64_in _ (by omega)) | (obtain ⟨z0, z1, z2, z3, z4, z5, z6, z7, z8, z9, z10, z11⟩ := hW; go_simp; simp [*]; done)⟩) hS_9 ?_
                  try simp only [Act.put, List.setIfInBounds_toArray, List.set_cons_zero, List.set_cons_succ]
                  refine wpAnyH_ready (rs := [32]) (by kernel_rfl) (by simp) (AllReadyH.cons rfl (fun K hK => ?_) AllReadyH.nil)
                  rw [if_pos (by kernel_rfl)]
                  go_simp
                  refine (HOt.out _ hb_9 A0 c0 ht0_2_3_4_5_6_7_8_9).mono ?_
                  rintro e u_10 ⟨A_10, c_10, rfl, hR_10, hq_10⟩
                  have hb_10 := hb_9.trans (hq_10.mono hb_9.size)
                  have ht0_2_3_4_5_6_7_8_9_10 := EIn.below _ ht0_2_3_4_5_6_7_8_9 hq_10 (Nat.le_refl _)
                  have ht1_2_3_4_5_6_7_8_9_10 := EIn.below _ ht1_2_3_4_5_6_7_8_9 hq_10 (Nat.le_refl _)
                  have htp_2_3_4_5_6_7_8_9_10 := EIn.below _ htp_2_3_4_5_6_7_8_9 hq_10 (Nat.le_refl _)
                  clear ht0_2_3_4_5_6_7_8_9 ht1_2_3_4_5_6_7_8_9 htp_2_3_4_5_6_7_8_9
                  have hRM_2_3_4_5_6_7_8_9_10 := hRM_2_3_4_5_6_7_8_9.below hq_10 (Nat.le_refl _)
                  clear hRM_2_3_4_5_6_7_8_9
                  have hRL_2_3_4_5_6_7_8_9_10 := hRL_2_3_4_5_6_7_8_9.below hq_10 (Nat.le_refl _)
                  clear hRL_2_3_4_5_6_7_8_9
                  have hR_9_10 := hR_9.below hq_10 (Nat.le_refl _)
                  clear hR_9
                  refine hK.out _ _ (HS8.out _ hb_10) (fun hS_10 => ?_)
                  clear hK K
                  try simp only [Act.put, List.setIfInBounds_toArray, List.set_cons_zero, List.set_cons_succ]
                  refine wpAnyH_take (i := 33) (oi := ⟨some 106, _, _, _, _, _⟩) (v := .int .i64 (Ot.length : Int)) rfl (by kernel_rfl) (by kernel_rfl) (by kernel_rfl) (fun _ _ _ h => h) (.inl ⟨by kernel_rfl, fun W hW => by first | (obtain ⟨z0, z1, z2, z3, z4, z5, z6, z7, z8, z9, z10, z11⟩ := hW; go_simp; done) | (obtain ⟨z0, z1, z2, z3, z4, z5, z6, z7, z8, z9, z10, z11⟩ := hW; go_simp; omega) | (obtain ⟨z0, z1, z2, z3, z4, z5, z6, z7, z8, z9, z10, z11⟩ := hW; go_simp; exact IntWalk.i64_in _ (by omega)) | (obtain ⟨z0, z1, z2, z3, z4, z5, z6, z7, z8, z9, z10, z11⟩ := hW; go_simp; exact IntWalk.i64_in _ (by omega)) | (obtain ⟨z0, z1, z2, z3, z4, z5, z6, z7, z8, z9, z10, z11⟩ := hW; go_simp; simp [*]; done)⟩) hS_10 ?_
                  try simp only [Act.put, List.setIfInBounds_toArray, List.set_cons_zero, List.set_cons_succ]
                  refine wpAnyH_ready (rs := [36]) (by kernel_rfl) (by simp) (AllReadyH.cons rfl (fun K hK => ?_) AllReadyH.nil)
                  rw [if_pos (by kernel_rfl)]
                  go_simp
                  refine (HOs.out _ hb_10 A1 c1 ht1_2_3_4_5_6_7_8_9_10).mono ?_
                  rintro e u_11 ⟨A_11, c_11, rfl, hR_11, hq_11⟩
                  have hb_11 := hb_10.trans (hq_11.mono hb_10.size)
                  have ht0_2_3_4_5_6_7_8_9_10_11 := EIn.below _ ht0_2_3_4_5_6_7_8_9_10 hq_11 (Nat.le_refl _)
                  have ht1_2_3_4_5_6_7_8_9_10_11 := EIn.below _ ht1_2_3_4_5_6_7_8_9_10 hq_11 (Nat.le_refl _)
                  have htp_2_3_4_5_6_7_8_9_10_11 := EIn.below _ htp_2_3_4_5_6_7_8_9_10 hq_11 (Nat.le_refl _)
                  clear ht0_2_3_4_5_6_7_8_9_10 ht1_2_3_4_5_6_7_8_9_10 htp_2_3_4_5_6_7_8_9_10
                  have hRM_2_3_4_5_6_7_8_9_10_11 := hRM_2_3_4_5_6_7_8_9_10.below hq_11 (Nat.le_refl _)
                  clear hRM_2_3_4_5_6_7_8_9_10
                  have hRL_2_3_4_5_6_7_8_9_10_11 := hRL_2_3_4_5_6_7_8_9_10.below hq_11 (Nat.le_refl _)
                  clear hRL_2_3_4_5_6_7_8_9_10
                  have hR_9_10_11 := hR_9_10.below hq_11 (Nat.le_refl _)
                  clear hR_9_10
                  have hR_10_11 := hR_10.below hq_11 (Nat.le_refl _)
                  clear hR_10
                  refine hK.out _ _ (HS8.out _ hb_11) (fun hS_11 => ?_)
                  clear hK K
                  try simp only [Act.put, List.setIfInBounds_toArray, List.set_cons_zero, List.set_cons_succ]
                  refine wpAnyH_take (i := 37) (oi := ⟨some 110, _, _, _, _, _⟩) (v := .int .i64 (Os.length : Int)) rfl (by kernel_rfl) (by kernel_rfl) (by kernel_rfl) (fun _ _ _ h => h) (.inl ⟨by kernel_rfl, fun W hW => by first | (obtain ⟨z0, z1, z2, z3, z4, z5, z6, z7, z8, z9, z10, z11⟩ := hW; go_simp; done) | (obtain ⟨z0, z1, z2, z3, z4, z5, z6, z7, z8, z9, z10, z11⟩ := hW; go_simp; omega) | (obtain ⟨z0, z1, z2, z3, z4, z5, z6, z7, z8, z9, z10, z11⟩ := hW; go_simp; exact IntWalk.i64_in _ (by omega)) | (obtain ⟨z0, z1, z2, z3, z4, z5, z6, z7, z8, z9, z10, z11⟩ := hW; go_simp; exact IntWalk.i64_in _ (by omega)) | (obtain ⟨z0, z1, z2, z3, z4, z5, z6, z7, z8, z9, z10, z11⟩ := hW; go_simp; simp [*]; done)⟩) hS_11 ?_
                  try simp only [Act.put, List.setIfInBounds_toArray, List.set_cons_zero, List.set_cons_succ]
                  refine wpAnyH_take (i := 38) (oi := ⟨some 111, _, _, _, _, _⟩) (v := .int .i64 ((nu : Int) * (Os.length : Int))) rfl (by kernel_rfl) (by kernel_rfl) (by kernel_rfl) (fun _ _ _ h => h) (.inl ⟨by kernel_rfl, fun W hW => by first | (obtain ⟨z0, z1, z2, z3, z4, z5, z6, z7, z8, z9, z10, z11⟩ := hW; go_simp; done) | (obtain ⟨z0, z1, z2, z3, z4, z5, z6, z7, z8, z9, z10, z11⟩ := hW; go_simp; omega) | (obtain ⟨z0, z1, z2, z3, z4, z5, z6, z7, z8, z9, z10, z11⟩ := hW; go_simp; exact IntWalk.i64_in _ (by omega)) | (obtain ⟨z0, z1, z2, z3, z4, z5, z6, z7, z8, z9, z10, z11⟩ := hW; go_simp; exact IntWalk.i64_in _ (by omega)) | (obtain ⟨z0, z1, z2, z3, z4, z5, z6, z7, z8, z9, z10, z11⟩ := hW; go_simp; simp [*]; done)⟩) hS_11 ?_
                  try simp only [Act.put, List.setIfInBounds_toArray, List.set_cons_zero, List.set_cons_succ]
                  refine wpAnyH_take (i := 39) (oi := ⟨some 112, _, _, _, _, _⟩) (v := .int .i64 ((Ot.length : Int) + ((nu : Int) * (Os.length : Int)))) rfl (by kernel_rfl) (by kernel_rfl) (by kernel_rfl) (fun _ _ _ h => h) (.inl ⟨by kernel_rfl, fun W hW => by first | (obtain ⟨z0, z1, z2, z3, z4, z5, z6, z7, z8, z9, z10, z11⟩ := hW; go_simp; done) | (obtain ⟨z0, z1, z2, z3, z4, z5, z6, z7, z8, z9, z10, z11⟩ := hW; go_simp; omega) | (obtain ⟨z0, z1, z2, z3, z4, z5, z6, z7, z8, z9, z10, z11⟩ := hW; go_simp; exact IntWalk.i64_in _ (by omega)) | (obtain ⟨z0, z1, z2, z3, z4, z5, z6, z7, z8, z9, z10, z11⟩ := hW; go_simp; exact IntWalk.i64_in _ (by omega)) | (obtain ⟨z0, z1, z2, z3, z4, z5, z6, z7, z8, z9, z10, z11⟩ := hW; go_simp; simp [*]; done)⟩) hS_11 ?_
                  try simp only [Act.put, List.setIfInBounds_toArray, List.set_cons_zero, List.set_cons_succ]
                  refine wpAnyH_take (i := 40) (oi := ⟨some 113, _, _, _, _, _⟩) (v := .bool true) rfl (by kernel_rfl) (by kernel_rfl) (by kernel_rfl) (fun _ _ _ h => h) (.inl ⟨by kernel_rfl, fun W hW => by first | (obtain ⟨z0, z1, z2, z3, z4, z5, z6, z7, z8, z9, z10, z11⟩ := hW; go_simp; done) | (obtain ⟨z0, z1, z2, z3, z4, z5, z6, z7, z8, z9, z10, z11⟩ := hW; go_simp; omega) | (obtain ⟨z0, z1, z2, z3, z4, z5, z6, z7, z8, z9, z10, z11⟩ := hW; go_simp; exact IntWalk.i64_in _ (by omega)) | (obtain ⟨z0, z1, z2, z3, z4, z5, z6, z7, z8, z9, z10, z11⟩ := hW; go_simp; exact IntWalk.i64_in _ (by omega)) | (obtain ⟨z0, z1, z2, z3, z4, z5, z6, z7, z8, z9, z10, z11⟩ := hW; go_simp; simp [*]; done)⟩) hS_11 ?_
                  try simp only [Act.put, List.setIfInBounds_toArray, List.set_cons_zero, List.set_cons_succ]
                  refine wpAnyH_take (i := 41) (oi := ⟨some 114, _, _, _, _, _⟩) (v := .bool true) rfl (by kernel_rfl) (by kernel_rfl) (by kernel_rfl) (fun _ _ _ h => h) (.inl ⟨by kernel_rfl, fun W hW => by kernel_rfl⟩) hS_11 ?_
                  try simp only [Act.put, List.setIfInBounds_toArray, List.set_cons_zero, List.set_cons_succ]
                  refine wpAnyH_take (i := 42) (oi := ⟨some 4, _, _, _, _, _⟩) (v := .bool true) rfl (by kernel_rfl) (by kernel_rfl) (by kernel_rfl) (fun _ _ _ h => h) (.inl ⟨by kernel_rfl, fun W hW => by kernel_rfl⟩) hS_11 ?_
                  try simp only [Act.put, List.setIfInBounds_toArray, List.set_cons_zero, List.set_cons_succ]
                  refine wpAnyH_done (by kernel_rfl) ?_ _
                  go_wp2_with fail
                  go_ret
                  exact ⟨rfl, HB8.out.trans (hb_11.mono HB8.out.size)⟩
end Lx
end Go.Proofs.Ytcefopaphaeejaa
