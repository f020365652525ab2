/-
  The law UseSteps, walked.
-/
import Derived.Test.YtgnafcnokenogaaUsPs
import Derived.Test.YtgnafcnokenogaaC5
import Derived.Test.YtgnafcnokenogaaC7
import Derived.Test.YtgnafcnokenogaaC11
import Derived.Test.YtgnafcnokenogaaH9K
import Derived.Test.YtgnafcnokenogaaHm
import Derived.Test.YtgnafcnokenogaaCalm
namespace Go.Proofs.Ytgnafcnokenogaa
open Go Go.RowKit
namespace Lx
set_option maxRecDepth 100000
mutual
theorem depth_size : ∀ t : Te, depthE t ≤ sizeE t
  | .node k n s l => by rw [depthE, sizeE]; have := depth_sizeL l; omega
theorem depth_sizeL : ∀ l : List Te, depthEL l ≤ sizeEL l
  | [] => by simp [depthEL]
  | t :: r => by rw [depthEL, sizeEL]; have := depth_size t; have := depth_sizeL r; omega
end
set_option maxHeartbeats 16000000 in
theorem useSteps_law (t : Te) (A0 : Option Addr) (c0 : Nat) (w : World) (hI : EIn w Any t A0) :
    Calls Try.prog 3 #[ev t A0 c0] w fun e w' => e = .returned (.bool true) ∧ Below w.heap.size w w' := by
  obtain ⟨tk, tn, tz, tl⟩ := t
  show Calls Try.prog 3 #[.agg #[.int .i64 tk, .int .i64 tn, .string tz, .slice A0 tl.length (capF tl.length c0)]] w _
  have HX0 := Lib.hid (Bx8.new (c := c0) hI (Below.refl _ w) rfl)
  clear hI
  go_enter Try.func3, Try.ntmps3
  go_wp2_with fail
  refine (fixed11_any (w.alloc (.cells #[.int .i64 tk, .int .i64 tn, .string tz, .slice A0 tl.length (capF tl.length c0)] 24))).mono ?_
  rintro e w2 ⟨rfl, hb2⟩
  replace HX0 := Lib.hid (HX0.out.step hb2)
  clear hb2
  obtain ⟨d0, d1, d2, d3⟩ := HX0.out.four
  have HG := Lib.hid (HX0.out.small 150 (by omega) (by omega))
  cases hv : decide (0 ≤ fewE (.node tk tn tz tl) 150 600)
  · rw [hv] at HG
    clear hv
    go_wp2_with fail
    refine HG.out.mono ?_
    rintro e w3 ⟨rfl, hb3⟩
    clear HG d0 d1 d2 d3
    replace HX0 := Lib.hid (HX0.out.step hb3)
    clear hb3
    go_wp2_with fail
    refine (fixed11_any w3).mono ?_
    rintro e w4 ⟨rfl, hb4⟩
    have hbw := HX0.out.bw.trans (hb4.mono HX0.out.bw.size)
    go_wp2_with fail
    go_ret
    exact ⟨rfl, hbw⟩
  · rw [hv] at HG
    have hm0 := small8 hv (by omega)
    clear hv
    go_wp2_with fail
    refine HG.out.mono ?_
    rintro e w3 ⟨rfl, hb3⟩
    clear HG d0 d1 d2 d3
    replace HX0 := Lib.hid (HX0.out.step hb3)
    clear hb3
    obtain ⟨d0, d1, d2, d3⟩ := HX0.out.four
    obtain ⟨dd, hdd⟩ : ∃ d : Int, d = (depthE (.node tk tn tz tl) : Int) := ⟨_, rfl⟩
    have HG := Lib.hid (HX0.out.depth (by omega))
    rw [← hdd] at HG
    have hdd0 : 0 ≤ dd := by omega
    by_cases hc : 200 < dd
    · clear hdd
      go_wp2_with fail
      refine HG.out.mono ?_
      rintro e w5 ⟨rfl, hb5⟩
      clear HG d0 d1 d2 d3
      replace HX0 := Lib.hid (HX0.out.step hb5)
      clear hb5
      go_wp2_with fail
      refine (fixed11_any w5).mono ?_
      rintro e w6 ⟨rfl, hb6⟩
      have hbw := HX0.out.bw.trans (hb6.mono HX0.out.bw.size)
      go_wp2_with fail
      go_ret
      exact ⟨rfl, hbw⟩
    · have hdl : depthE (.node tk tn tz tl) ≤ 200 := by omega
      clear hdd
      go_wp2_with fail
      refine HG.out.mono ?_
      rintro e w5 ⟨rfl, hb5⟩
      clear HG d0 d1 d2 d3
      replace HX0 := Lib.hid (HX0.out.step hb5)
      clear hb5
      obtain ⟨d0, d1, d2, d3⟩ := HX0.out.four
      have HG := Lib.hid (rMay6_any (.node tk tn tz tl) A0 c0 0 _ HX0.out.tin (by omega) (by omega) (by omega))
      cases hv : mayQ (.node tk tn tz tl) 0 false
      · rw [hv] at HG
        clear hv
        go_wp2_with fail
        refine HG.out.mono ?_
        rintro e w7 ⟨rfl, hb7⟩
        clear HG d0 d1 d2 d3
        replace HX0 := Lib.hid (HX0.out.step hb7)
        clear hb7
        go_wp2_with fail
        refine (fixed11_any w7).mono ?_
        rintro e w8 ⟨rfl, hb8⟩
        have hbw := HX0.out.bw.trans (hb8.mono HX0.out.bw.size)
        go_wp2_with fail
        go_ret
        exact ⟨rfl, hbw⟩
      · rw [hv] at HG
        have hmt := hv
        clear hv
        go_wp2_with fail
        refine HG.out.mono ?_
        rintro e w7 ⟨rfl, hb7⟩
        clear HG d0 d1 d2 d3
        replace HX0 := Lib.hid (HX0.out.step hb7)
        clear hb7
        have htt := may_tame hmt (by omega) (by omega)
        obtain ⟨d0, d1, d2, d3⟩ := HX0.out.four
        have HG := Lib.hid (affine_any (.node tk tn tz tl) A0 c0 w7 (by omega) (by omega) htt HX0.out.tin)
        cases hv : affB (ofE (.node tk tn tz tl))
        · rw [hv] at HG
          clear hv
          go_wp2_with fail
          refine HG.out.mono ?_
          rintro e w8 ⟨rfl, hb8⟩
          clear HG d0 d1 d2 d3
          replace HX0 := Lib.hid (HX0.out.step hb8)
          clear hb8
          go_wp2_with fail
          refine (fixed11_any w8).mono ?_
          rintro e w9 ⟨rfl, hb9⟩
          have hbw := HX0.out.bw.trans (hb9.mono HX0.out.bw.size)
          go_wp2_with fail
          go_ret
          exact ⟨rfl, hbw⟩
        · rw [hv] at HG
          have hfa : fansL (ofE (.node tk tn tz tl)) = 0 := by
            rw [affB_fans] at hv
            exact of_decide_eq_true hv
          clear hv
          go_wp2_with fail
          refine HG.out.mono ?_
          rintro e w8 ⟨rfl, hb8⟩
          clear HG d0 d1 d2 d3
          replace HX0 := Lib.hid (HX0.out.step hb8)
          clear hb8
          obtain ⟨q1, q2, q3⟩ := step_aff _ (.node tk tn tz tl) (Nat.le_refl _) hmt hfa
          have hmu := step_may hmt
          have HS := Lib.hid (rStep_any (.node tk tn tz tl) A0 c0 w8 HX0.out.tin hmt ⟨by omega, by omega, htt⟩)
          obtain ⟨U, hU⟩ : ∃ U, U = (stepE (.node tk tn tz tl)).1 := ⟨_, rfl⟩
          obtain ⟨x, hxx⟩ : ∃ x, x = (stepE (.node tk tn tz tl)).2 := ⟨_, rfl⟩
          rw [← hU] at HS q1 q2 q3 hmu
          rw [← hxx] at HS q3
          clear hU hxx
          have hsu : sizeE U ≤ 150 := by omega
          have hdu := depth_size U
          have htu := may_tame hmu (by omega) (by omega)
          obtain ⟨su, hsu9⟩ : ∃ q, q = sizeE U := ⟨_, rfl⟩
          obtain ⟨st, hst9⟩ : ∃ q, q = sizeE (.node tk tn tz tl) := ⟨_, rfl⟩
          rw [← hsu9, ← hst9] at q2 q3
          have HSU := Lib.hid hsu9
          have HST := Lib.hid hst9
          have HAU : Hid (affB (ofE U) = true) := Lib.hid (by rw [affB_fans, q1]; rfl)
          clear hsu9 hst9 q1 hmu
          obtain ⟨uk, un, us, ul⟩ := U
          obtain ⟨d0, d1, d2, d3⟩ := HX0.out.four
          go_wp2_with fail
          refine HS.out.mono ?_
          rintro e w9 ⟨A2, c2, rfl, hT, hb9⟩
          simp only [ev, Te.kind, Te.n, Te.name, Te.parts]
          clear HS d0 d1 d2 d3
          replace HX0 := Lib.hid (HX0.out.step hb9)
          clear hb9
          have hT9 := EIn.any _ hT
          clear hT
          go_upto_region 4 with fail
          obtain ⟨V, hV⟩ : ∃ V, V = w9.alloc (.cells #[.int .i64 uk, .int .i64 un, .string us, .slice A2 ul.length (capF ul.length c2)] 24) := ⟨_, rfl⟩
          obtain ⟨gb, hgb⟩ : ∃ g, g = w9.heap.size := ⟨_, rfl⟩
          have hbv : Below w9.heap.size w9 V := by rw [hV]; exact (Below.refl _ _).alloc (Nat.le_refl _) _
          have hL : Lies V gb 24 #[.int .i64 uk, .int .i64 un, .string us, .slice A2 ul.length (capF ul.length c2)] := by rw [hV, hgb]; exact Lies.new _ _ _
          rw [← hV, ← hgb]
          clear hV hgb
          replace HX0 := Lib.hid (HX0.out.step hbv)
          have hTV := EIn.below _ hT9 hbv (Nat.le_refl _)
          clear hbv hT9
          obtain ⟨d0, d1, d2, d3⟩ := HX0.out.four
          have b0 : ∀ X : Abv V, X.1.cell? ⟨gb, 0, none⟩ = some (.int .i64 uk) := Abv.cell (hL.cell 0)
          have b1 : ∀ X : Abv V, X.1.cell? ⟨gb, 1, none⟩ = some (.int .i64 un) := Abv.cell (hL.cell 1)
          have b2 : ∀ X : Abv V, X.1.cell? ⟨gb, 2, none⟩ = some (.string us) := Abv.cell (hL.cell 2)
          have b3 : ∀ X : Abv V, X.1.cell? ⟨gb, 3, none⟩ = some (.slice A2 ul.length (capF ul.length c2)) := Abv.cell (hL.cell 3)
          replace d0 := Abv.cell d0
          replace d1 := Abv.cell d1
          replace d2 := Abv.cell d2
          replace d3 := Abv.cell d3
          have HA : ∀ X : Abv V, Calls Try.prog 8 #[.agg #[.int .i64 uk, .int .i64 un, .string us, .slice A2 ul.length (capF ul.length c2)]] X.1 fun e w' => e = .returned (.bool true) ∧ Below X.1.heap.size X.1 w' := fun X => by
            have h := affine_any (.node uk un us ul) A2 c2 X.1 (by omega) (by omega) htu (EIn.below _ hTV X.2 (Nat.le_refl _))
            rw [HAU.out] at h
            exact h
          have HZU : ∀ X : Abv V, Calls Try.prog 10 #[.agg #[.int .i64 uk, .int .i64 un, .string us, .slice A2 ul.length (capF ul.length c2)]] X.1 fun e w' => e = .returned (.int .i64 su) ∧ Below X.1.heap.size X.1 w' := fun X => by
            rw [HSU.out]
            exact rsize6_any _ (.node uk un us ul) A2 c2 X.1 (Nat.le_refl _) (by omega) (EIn.below _ hTV X.2 (Nat.le_refl _))
          have HZT : ∀ X : Abv V, Calls Try.prog 10 #[.agg #[.int .i64 tk, .int .i64 tn, .string tz, .slice A0 tl.length (capF tl.length c0)]] X.1 fun e w' => e = .returned (.int .i64 st) ∧ Below X.1.heap.size X.1 w' := fun X => by
            rw [HST.out]
            exact rsize6_any _ (.node tk tn tz tl) A0 c0 X.1 (Nat.le_refl _) (by omega) (EIn.below _ HX0.out.tin X.2 (Nat.le_refl _))
          have hle : decide (su ≤ st) = true := decide_eq_true q2
          by_cases hx : x = 0
          · subst hx
            clear q3
            refine region_calm (by kernel_rfl) (by kernel_rfl) ?_
            repeat (go_big_quiet_step (fail))
            go_big_quiet_step (exact calm_of (HA _))
            repeat (go_big_quiet_step (fail))
            go_big_quiet_step (exact calm_of (HZU _))
            repeat (go_big_quiet_step (fail))
            go_big_quiet_step (exact calm_of (HZT _))
            repeat (go_big_quiet_step (fail))
            refine wpQuiet_nil ?_
            rintro _ ⟨X, rfl⟩
            have hbw := HX0.out.bw.trans (X.2.mono HX0.out.bw.size)
            go_wp2_with fail
            go_ret
            exact ⟨rfl, hbw⟩
          · have hx1 : (x == 0) = false := by simpa using hx
            have hlt : decide (su < st) = true := decide_eq_true (q3 hx)
            clear q3
            refine region_calm (by kernel_rfl) (by kernel_rfl) ?_
            repeat (go_big_quiet_step (fail))
            go_big_quiet_step (exact calm_of (HA _))
            repeat (go_big_quiet_step (fail))
            go_big_quiet_step (exact calm_of (HZU _))
            repeat (go_big_quiet_step (fail))
            go_big_quiet_step (exact calm_of (HZT _))
            repeat (go_big_quiet_step (fail))
            go_big_quiet_step (exact calm_of (HZU _))
            repeat (go_big_quiet_step (fail))
            go_big_quiet_step (exact calm_of (HZT _))
            repeat (go_big_quiet_step (fail))
            refine wpQuiet_nil ?_
            rintro _ ⟨X, rfl⟩
            have hbw := HX0.out.bw.trans (X.2.mono HX0.out.bw.size)
            go_wp2_with fail
            go_ret
            exact ⟨rfl, hbw⟩
end Lx
end Go.Proofs.Ytgnafcnokenogaa
