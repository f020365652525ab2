/-
  The law UseCounts, walked.
-/
import Derived.Test.YtcefopaphaeejaaUsVr
import Derived.Test.YtcefopaphaeejaaC10
import Derived.Deep.RegionHeld3
import Derived.Deep.DrawnRows
namespace Go.Proofs.Ytcefopaphaeejaa
open Go Go.RowKit
namespace Lx
set_option maxRecDepth 100000
set_option maxHeartbeats 16000000 in
theorem useCounts_law (t : Te) (A0 : Option Addr) (c0 : Nat) (w : World) (hI : EIn w Any t A0) :
    Calls Try.prog 4 #[ev t A0 c0] w fun e w' => e = .returned (.bool true) ∧ Below w.heap.size w w' := by
  obtain ⟨tk, tn, tz, tl⟩ := t
  show Calls Try.prog 4 #[.agg #[.int .i64 tk, .int .i64 tn, .string tz, .slice A0 tl.length (capF tl.length c0)]] w _
  have HX0 := Lib.hid (Bx8.new (c := c0) hI (Below.refl _ w) rfl)
  clear hI
  go_enter Try.func4, Try.ntmps4
  go_wp2_with fail
  refine (fixed11_any (w.alloc (.cells #[.int .i64 tk, .int .i64 tn, .string tz, .slice A0 tl.length (capF tl.length c0)] 24))).mono ?_
  rintro e w2 ⟨rfl, hb2⟩
  replace HX0 := Lib.hid (HX0.out.step hb2)
  clear hb2
  obtain ⟨d0, d1, d2, d3⟩ := HX0.out.four
  have HG := Lib.hid (HX0.out.small 200 (by omega) (by omega))
  cases hv : decide (0 ≤ fewE (.node tk tn tz tl) 200 600)
  · rw [hv] at HG
    clear hv
    go_wp2_with fail
    refine HG.out.mono ?_
    rintro e w3 ⟨rfl, hb3⟩
    clear HG d0 d1 d2 d3
    replace HX0 := Lib.hid (HX0.out.step hb3)
    clear hb3
    go_wp2_with fail
    refine (fixed11_any w3).mono ?_
    rintro e w4 ⟨rfl, hb4⟩
    have hbw := HX0.out.bw.trans (hb4.mono HX0.out.bw.size)
    go_wp2_with fail
    go_ret
    exact ⟨rfl, hbw⟩
  · rw [hv] at HG
    have hm0 := small8 hv (by omega)
    clear hv
    go_wp2_with fail
    refine HG.out.mono ?_
    rintro e w3 ⟨rfl, hb3⟩
    clear HG d0 d1 d2 d3
    replace HX0 := Lib.hid (HX0.out.step hb3)
    clear hb3
    obtain ⟨d0, d1, d2, d3⟩ := HX0.out.four
    obtain ⟨dd, hdd⟩ : ∃ d : Int, d = (depthE (.node tk tn tz tl) : Int) := ⟨_, rfl⟩
    have HG := Lib.hid (HX0.out.depth (by omega))
    rw [← hdd] at HG
    have hdd0 : 0 ≤ dd := by omega
    by_cases hc : 300 < dd
    · clear hdd
      go_wp2_with fail
      refine HG.out.mono ?_
      rintro e w5 ⟨rfl, hb5⟩
      clear HG d0 d1 d2 d3
      replace HX0 := Lib.hid (HX0.out.step hb5)
      clear hb5
      go_wp2_with fail
      refine (fixed11_any w5).mono ?_
      rintro e w6 ⟨rfl, hb6⟩
      have hbw := HX0.out.bw.trans (hb6.mono HX0.out.bw.size)
      go_wp2_with fail
      go_ret
      exact ⟨rfl, hbw⟩
    · have HDD := Lib.hid hdd
      clear hdd
      go_wp2_with fail
      refine HG.out.mono ?_
      rintro e w5 ⟨rfl, hb5⟩
      clear HG d0 d1 d2 d3
      replace HX0 := Lib.hid (HX0.out.step hb5)
      clear hb5
      obtain ⟨d0, d1, d2, d3⟩ := HX0.out.four
      have HG := Lib.hid (rMay6_any (.node tk tn tz tl) A0 c0 5 _ HX0.out.tin (by omega) (by omega) (by omega))
      cases hv : mayQ (.node tk tn tz tl) 5 false
      · rw [hv] at HG
        clear hv
        go_wp2_with fail
        refine HG.out.mono ?_
        rintro e w7 ⟨rfl, hb7⟩
        clear HG d0 d1 d2 d3
        replace HX0 := Lib.hid (HX0.out.step hb7)
        clear hb7
        go_wp2_with fail
        refine (fixed11_any w7).mono ?_
        rintro e w8 ⟨rfl, hb8⟩
        have hbw := HX0.out.bw.trans (hb8.mono HX0.out.bw.size)
        go_wp2_with fail
        go_ret
        exact ⟨rfl, hbw⟩
      · rw [hv] at HG
        have hmt := hv
        clear hv
        go_wp2_with fail
        refine HG.out.mono ?_
        rintro e w7 ⟨rfl, hb7⟩
        clear HG d0 d1 d2 d3
        replace HX0 := Lib.hid (HX0.out.step hb7)
        clear hb7
        have htt := may_tame hmt (by omega) (by omega)
        have hsb := fun i => sum_take_ok (t := (.node tk tn tz tl)) (by omega) i
        have hsm := sum_is (ofE (.node tk tn tz tl)) (fun x hx => (ofE_le _ _ hx).1)
        have hvs := vars_sum _ _ _ hmt
        have hfb := fans_ok (t := (.node tk tn tz tl)) (pre := (ofE (.node tk tn tz tl)).reverse) (by omega) List.prefix_rfl
        rw [fansL_rev] at hfb
        have hdb := dropsL_bound (ofE (.node tk tn tz tl))
        have hol := ofE_len (.node tk tn tz tl)
        have hml : ∀ f : Int, 0 ≤ f → mayQ (.node tk tn tz tl) f false = decide (∀ x ∈ freeE (.node tk tn tz tl), x < f) := fun f hf => may_least hmt hf
        have h5 : ∀ x ∈ freeE (.node tk tn tz tl), 0 ≤ x ∧ x < 5 := fun x hx => ⟨fvE_pos _ _ _ ((freeE_mem _ _).1 hx), of_decide_eq_true ((hml 5 (by omega)).symm.trans hmt) x hx⟩
        have hl9 := leastL_strict (freeE (.node tk tn tz tl)) (freeE_strict _) (fun x hx => (h5 x hx).1)
        have hnil := fun h : freeE (.node tk tn tz tl) = [] => freeE_nil h
        have hFl : (freeE (.node tk tn tz tl)).length ≤ 1000000 := by rw [free_same, rfreeE, rfE]; have h1 := rf_len (fvE (.node tk tn tz tl) 0) []; have h2 := fvE_len (.node tk tn tz tl) 0; simp at h1; omega
        obtain ⟨F, hF⟩ : ∃ F, F = freeE (.node tk tn tz tl) := ⟨_, rfl⟩
        obtain ⟨O, hO⟩ : ∃ O, O = ofE (.node tk tn tz tl) := ⟨_, rfl⟩
        obtain ⟨fn, hfn⟩ : ∃ n, n = fansL (ofE (.node tk tn tz tl)) := ⟨_, rfl⟩
        obtain ⟨dn, hdn⟩ : ∃ n, n = dropsL (ofE (.node tk tn tz tl)) := ⟨_, rfl⟩
        rw [← hfn] at hfb
        rw [← hdn] at hdb
        rw [← hfn, ← hdn] at hsm
        have HFN := Lib.hid hfn
        have HDN := Lib.hid hdn
        clear hfn hdn
        rw [← hO] at hsb hsm hvs hol hdb
        rw [← hF] at hml h5 hl9 hnil hFl
        obtain ⟨nn, hnn⟩ : ∃ n, n = O.sum := ⟨_, rfl⟩
        obtain ⟨le, hle⟩ : ∃ n, n = leastL F := ⟨_, rfl⟩
        rw [← hnn] at hsm hvs
        rw [← hle] at hl9
        have hle5 : 0 ≤ le ∧ le ≤ 5 := by
          refine ⟨hl9.1, ?_⟩
          by_cases hf : F = []
          · have := hl9.2.2.2.1 hf; omega
          · have := h5 _ (hl9.2.2.1 hf); omega
        have HQ1 : Hid (mayQ (.node tk tn tz tl) le false = true) := Lib.hid (by rw [hml le hl9.1]; exact decide_eq_true hl9.2.1)
        have HQ2 : Hid (0 < le → mayQ (.node tk tn tz tl) (le - 1) false = false) := Lib.hid (fun h => by
          rw [hml (le - 1) (by omega)]
          refine decide_eq_false fun h9 => ?_
          have hf : F ≠ [] := fun e => by have := hl9.2.2.2.1 e; omega
          have := h9 _ (hl9.2.2.1 hf)
          omega)
        obtain ⟨mo, hmo⟩ : ∃ m, m = O.length := ⟨_, rfl⟩
        have HQ0 : Hid (mayQ (.node tk tn tz tl) 0 false = decide ((F.length : Int) = 0)) := Lib.hid (by
          rw [hml 0 (by omega)]
          cases F with
          | nil => simp
          | cons x r =>
            rw [decide_eq_false (fun h => by have := h x (by simp); have := (h5 x (by simp)).1; omega)]
            exact (decide_eq_false (by simp; omega)).symm)
        have HVS : Hid ((F.length : Int) = 0 → varsE (.node tk tn tz tl) = nn) := Lib.hid (fun h => by
          rw [hvs, hnil (List.eq_nil_of_length_eq_zero (by omega))]
          simp)
        have HF1 := Lib.hid hF
        have HO1 := Lib.hid hO
        have HNN : Hid (O.sum = nn) := Lib.hid hnn.symm
        have HLL : Hid (leastL F = le) := Lib.hid hle.symm
        have HSB := Lib.hid hsb
        have HFB : Hid (∀ x ∈ F, 0 ≤ x ∧ x < 5) := Lib.hid h5
        have HL9 := Lib.hid hl9
        rw [← hmo] at hsm hol hdb
        have HSM := Lib.hid hsm
        clear hsm
        have hmo1 : mo ≤ O.length := by omega
        have hmo2 : O.length ≤ mo := by omega
        clear hF hO hnn hle hsb h5 hl9 hml hvs hnil
        have hmo3 : mo ≤ 1600 := by omega
        obtain ⟨W9, hW9⟩ : ∃ V, V = w7 := ⟨_, rfl⟩
        rw [← hW9] at HX0 ⊢
        clear hW9
        obtain ⟨d0, d1, d2, d3⟩ := HX0.out.four
        have HUO := Lib.hid (of_any (.node tk tn tz tl) A0 c0 W9 (by omega) (by omega) htt HX0.out.tin)
        rw [← HO1.out] at HUO
        go_wp2_with fail
        refine HUO.out.mono ?_
        rintro e u2 ⟨AO, cO, rfl, hrO, hbO⟩
        have RO := Lib.hid (rowI_own hrO)
        replace HX0 := Lib.hid (HX0.out.step hbO)
        rw [← hmo]
        clear d0 d1 d2 d3 hrO hbO HUO hmo
        go_wp2_with fail
        go_loopw [4, 5] (fun v x wr => ∃ i : Nat, i ≤ mo ∧ x = .int .i64 i ∧ v = .int .i64 ((O.take i).sum) ∧ Below u2.heap.size u2 wr) (fun _ x _ => mo - (intOf x).toNat)
        case atStart => exact ⟨0, by omega, rfl, by simp, Below.refl _ _⟩
        case round =>
          obtain ⟨i, hi, rfl, rfl, hbr⟩ := hrel
          by_cases hlt : i < mo
          · have hix : i < O.length := by omega
            obtain ⟨g, o, hAg, d0⟩ := RO.out i hix
            have hgl := World.block_lt_of_cell? u2 _ d0
            replace d0 := (hbr.cell (p := ⟨g, o + i, none⟩) hgl).trans d0
            obtain ⟨AX, hAX⟩ : ∃ AX, AX = AO := ⟨_, rfl⟩
            have HS : Hid ((O.take (i + 1)).sum = (O.take i).sum + O[i]'hix) := Lib.hid (by rw [List.take_succ_eq_append_getElem hix, List.sum_append, List.sum_cons, List.sum_nil, Int.add_zero])
            have hb0 := HSB.out i
            have hb1 := HSB.out (i + 1)
            have hb2 := HS.out
            obtain ⟨x, hx⟩ : ∃ x, x = O[i]'hix := ⟨_, rfl⟩
            rw [← hx] at d0 HS hb2
            clear hx hAX AX
            obtain ⟨S1, hS1⟩ : ∃ q, q = (O.take i).sum := ⟨_, rfl⟩
            rw [← hS1] at hb0 hb2 HS ⊢
            clear hS1 hgl
            have HA := Lib.hid hAg
            rw [hAg]
            clear hAg
            go_wp2_with fail
            go_roundw
            case rel => exact ⟨i + 1, by omega, by go_num, by rw [HS.out], hbr⟩
            case measure => simp [intOf]; omega
          · have hi9 : mo = i := by omega
            subst hi9
            have hnn : (O.take mo).sum = nn := by rw [List.take_of_length_le (by omega), HNN.out]
            rw [hnn]
            clear hnn
            replace HX0 := Lib.hid (HX0.out.step hbr)
            obtain ⟨d0, d1, d2, d3⟩ := HX0.out.four
            have HUF := Lib.hid (useFree_any (.node tk tn tz tl) A0 c0 wr (by omega) (by omega) htt HX0.out.tin)
            rw [← HF1.out] at HUF
            go_wp2_with fail
            refine HUF.out.mono ?_
            rintro e u3 ⟨AF, cF, rfl, hrF, hbF⟩
            have RF := Lib.hid (rowI_own hrF)
            replace HX0 := Lib.hid (HX0.out.step hbF)
            clear d0 d1 d2 d3 hrF hbF HUF hbr
            obtain ⟨mf, hmf⟩ : ∃ m, m = F.length := ⟨_, rfl⟩
            rw [← hmf]
            have hmf1 : mf ≤ F.length := by omega
            have hmf2 : F.length ≤ mf := by omega
            have HLE : Hid ((le = 0 ↔ mf = 0) ∧ 0 ≤ le) := Lib.hid ⟨by rw [hmf, List.length_eq_zero_iff]; exact HL9.out.2.2.2.symm, HL9.out.1⟩
            clear hmf
            go_wp2_with fail
            go_loopw [7, 8] (fun v x wr => ∃ i : Nat, i ≤ mf ∧ x = .int .i64 i ∧ v = .int .i64 (leastL (F.take i)) ∧ Below u3.heap.size u3 wr) (fun _ x _ => mf - (intOf x).toNat)
            case atStart => exact ⟨0, by omega, rfl, by simp [leastL], Below.refl _ _⟩
            case round =>
              obtain ⟨i, hi, rfl, rfl, hbr⟩ := hrel
              by_cases hlt : i < mf
              · have hix : i < F.length := by omega
                obtain ⟨g, o, hAg, d0⟩ := RF.out i hix
                have hgl := World.block_lt_of_cell? u3 _ d0
                replace d0 := (hbr.cell (p := ⟨g, o + i, none⟩) hgl).trans d0
                obtain ⟨AX, hAX⟩ : ∃ AX, AX = AF := ⟨_, rfl⟩
                have HS : Hid (leastL (F.take (i + 1)) = F[i]'hix + 1) := Lib.hid (by rw [List.take_succ_eq_append_getElem hix, leastL_snoc])
                have hxb := HFB.out (F[i]'hix) (List.getElem_mem hix)
                obtain ⟨x, hx⟩ : ∃ x, x = F[i]'hix := ⟨_, rfl⟩
                rw [← hx] at d0 HS hxb
                clear hx hAX AX
                obtain ⟨S1, hS1⟩ : ∃ q, q = leastL (F.take i) := ⟨_, rfl⟩
                rw [← hS1]
                clear hS1 hgl
                have HA := Lib.hid hAg
                rw [hAg]
                clear hAg
                go_wp2_with fail
                go_roundw
                case rel => exact ⟨i + 1, by omega, by go_num, by rw [HS.out], hbr⟩
                case measure => simp [intOf]; omega
              · have hi9 : mf = i := by omega
                subst hi9
                have hle9 : leastL (F.take mf) = le := by rw [List.take_of_length_le (by omega), HLL.out]
                rw [hle9]
                clear hle9
                replace HX0 := Lib.hid (HX0.out.step hbr)
                clear hbr
                go_upto_region 15 with fail
                obtain ⟨g0, hg0⟩ : ∃ g, g = w.heap.size := ⟨_, rfl⟩
                have hx0 := HX0.out
                rw [← hg0] at hx0
                rw [← hg0]
                clear hg0 HX0
                obtain ⟨V, hV⟩ : ∃ V, V = wr := ⟨_, rfl⟩
                rw [← hV] at hx0 ⊢
                clear hV
                have ht0 := hx0.tin
                have HB := Lib.hid hx0.bw
                have hne : (nn != fn + (mo : Int) - dn) = false := by have := HSM.out; simp; omega
                by_cases hle : 0 < le
                · have HSS : Hid (∀ V', Below V.heap.size V V' → (fun V' : World => (V'.cell? ⟨g0, 0, none⟩ = some (.int .i64 tk) ∧ V'.cell? ⟨g0, 1, none⟩ = some (.int .i64 tn) ∧ V'.cell? ⟨g0, 2, none⟩ = some (.string tz) ∧ V'.cell? ⟨g0, 3, none⟩ = some (.slice A0 tl.length (capF tl.length c0)))) V') := Lib.hid fun V' h =>
                    ⟨(h.cell (p := ⟨g0, 0, none⟩) hx0.box.lt).trans (hx0.box.cell 0), (h.cell (p := ⟨g0, 1, none⟩) hx0.box.lt).trans (hx0.box.cell 1), (h.cell (p := ⟨g0, 2, none⟩) hx0.box.lt).trans (hx0.box.cell 2), (h.cell (p := ⟨g0, 3, none⟩) hx0.box.lt).trans (hx0.box.cell 3)⟩
                  have HUN : Hid (∀ X, Below V.heap.size V X → ∀ (A : Option Addr) (c : Nat) (hA : EIn X Any (.node tk tn tz tl) A), Calls Try.prog 20 #[.agg #[.int .i64 tk, .int .i64 tn, .string tz, .slice A tl.length (capF tl.length c)]] X fun e w' => e = .returned (.int .i64 fn) ∧ Below X.heap.size X w') := Lib.hid fun X hX A c hA => by
                    have h := fans_any (.node tk tn tz tl) A c X (by omega) (by omega) htt hA
                    rw [← HFN.out] at h
                    exact h
                  have HUD : Hid (∀ X, Below V.heap.size V X → ∀ (A : Option Addr) (c : Nat) (hA : EIn X Any (.node tk tn tz tl) A), Calls Try.prog 21 #[.agg #[.int .i64 tk, .int .i64 tn, .string tz, .slice A tl.length (capF tl.length c)]] X fun e w' => e = .returned (.int .i64 dn) ∧ Below X.heap.size X w') := Lib.hid fun X hX A c hA => by
                    have h := drops_any (.node tk tn tz tl) A c X (by omega) (by omega) htt hA
                    rw [← HDN.out] at h
                    exact h
                  have HM1 : Hid (∀ X, Below V.heap.size V X → ∀ (A : Option Addr) (c : Nat) (hA : EIn X Any (.node tk tn tz tl) A), Calls Try.prog 23 #[.agg #[.int .i64 tk, .int .i64 tn, .string tz, .slice A tl.length (capF tl.length c)], .int .i64 le] X fun e w' => e = .returned (.bool true) ∧ Below X.heap.size X w') := Lib.hid fun X hX A c hA => by
                    have h := rMay6_any (.node tk tn tz tl) A c le X hA (by omega) (by omega) (by omega)
                    rw [HQ1.out] at h
                    exact h
                  have HM2 : Hid (∀ X, Below V.heap.size V X → ∀ (A : Option Addr) (c : Nat) (hA : EIn X Any (.node tk tn tz tl) A), Calls Try.prog 23 #[.agg #[.int .i64 tk, .int .i64 tn, .string tz, .slice A tl.length (capF tl.length c)], .int .i64 (le - 1)] X fun e w' => e = .returned (.bool false) ∧ Below X.heap.size X w') := Lib.hid fun X hX A c hA => by
                    have h := rMay6_any (.node tk tn tz tl) A c (le - 1) X hA (by omega) (by omega) (by omega)
                    rw [HQ2.out hle] at h
                    exact h
                  have HX0 := Lib.hid hx0
                  clear hx0
                  have hb_1 : Below V.heap.size V V := Below.refl _ _
                  refine wp_region_held_drew (S := (fun V' : World => (V'.cell? ⟨g0, 0, none⟩ = some (.int .i64 tk) ∧ V'.cell? ⟨g0, 1, none⟩ = some (.int .i64 tn) ∧ V'.cell? ⟨g0, 2, none⟩ = some (.string tz) ∧ V'.cell? ⟨g0, 3, none⟩ = some (.slice A0 tl.length (capF tl.length c0))))) rfl (HSS.out _ hb_1.drew) (fun hSs => ?_)
                  change wpAnyH _ _ _ _ _ 26 (Array.replicate 26 false) _ _
                  refine wpAnyH_take (i := 0) (oi := ⟨some 54, _, _, _, _, _⟩) (v := .int .i64 nn) rfl (by kernel_rfl) (by kernel_rfl) (by kernel_rfl) (fun _ _ _ h => h) (.inl ⟨by kernel_rfl, fun W hW => by kernel_rfl⟩) hSs ?_
                  try simp only [Act.put, List.setIfInBounds_toArray, List.set_cons_zero, List.set_cons_succ]
                  refine wpAnyH_take (i := 1) (oi := ⟨some 55, _, _, _, _, _⟩) (v := .agg #[.int .i64 tk, .int .i64 tn, .string tz, .slice A0 tl.length (capF tl.length c0)]) rfl (by kernel_rfl) (by kernel_rfl) (by kernel_rfl) (fun _ _ _ h => h) (.inl ⟨by kernel_rfl, fun W hW => by first | (obtain ⟨z0, z1, z2, z3⟩ := hW; go_simp; done) | (obtain ⟨z0, z1, z2, z3⟩ := hW; go_simp; omega) | (obtain ⟨z0, z1, z2, z3⟩ := hW; go_simp; exact IntWalk.i64_in _ (by omega)) | (obtain ⟨z0, z1, z2, z3⟩ := hW; go_simp; simp [*]; done)⟩) hSs ?_
                  try simp only [Act.put, List.setIfInBounds_toArray, List.set_cons_zero, List.set_cons_succ]
                  refine wpAnyH_take (i := 3) (oi := ⟨some 57, _, _, _, _, _⟩) (v := .slice AO mo cO) rfl (by kernel_rfl) (by kernel_rfl) (by kernel_rfl) (fun _ _ _ h => h) (.inl ⟨by kernel_rfl, fun W hW => by kernel_rfl⟩) hSs ?_
                  try simp only [Act.put, List.setIfInBounds_toArray, List.set_cons_zero, List.set_cons_succ]
                  refine wpAnyH_take (i := 4) (oi := ⟨some 58, _, _, _, _, _⟩) (v := .int .i64 (mo : Int)) rfl (by kernel_rfl) (by kernel_rfl) (by kernel_rfl) (fun _ _ _ h => h) (.inl ⟨by kernel_rfl, fun W hW => by first | (obtain ⟨z0, z1, z2, z3⟩ := hW; go_simp; done) | (obtain ⟨z0, z1, z2, z3⟩ := hW; go_simp; omega) | (obtain ⟨z0, z1, z2, z3⟩ := hW; go_simp; exact IntWalk.i64_in _ (by omega)) | (obtain ⟨z0, z1, z2, z3⟩ := hW; go_simp; simp [*]; done)⟩) hSs ?_
                  try simp only [Act.put, List.setIfInBounds_toArray, List.set_cons_zero, List.set_cons_succ]
                  refine wpAnyH_take (i := 6) (oi := ⟨some 60, _, _, _, _, _⟩) (v := .agg #[.int .i64 tk, .int .i64 tn, .string tz, .slice A0 tl.length (capF tl.length c0)]) rfl (by kernel_rfl) (by kernel_rfl) (by kernel_rfl) (fun _ _ _ h => h) (.inl ⟨by kernel_rfl, fun W hW => by first | (obtain ⟨z0, z1, z2, z3⟩ := hW; go_simp; done) | (obtain ⟨z0, z1, z2, z3⟩ := hW; go_simp; omega) | (obtain ⟨z0, z1, z2, z3⟩ := hW; go_simp; exact IntWalk.i64_in _ (by omega)) | (obtain ⟨z0, z1, z2, z3⟩ := hW; go_simp; simp [*]; done)⟩) hSs ?_
                  try simp only [Act.put, List.setIfInBounds_toArray, List.set_cons_zero, List.set_cons_succ]
                  refine wpAnyH_ready (rs := [2]) (by kernel_rfl) (by simp) (AllReadyH.cons rfl (fun K hK => ?_) AllReadyH.nil)
                  go_simp
                  refine (HUN.out _ (hb_1.drew) A0 c0 (EIn.below _ ht0 (Below.refl _ _).drew (Nat.le_refl _))).mono ?_
                  rintro e u_2 ⟨rfl, hq_2⟩
                  have hb_2 := (hb_1.drew).trans (hq_2.mono (hb_1.drew).size)
                  have ht0_2 := EIn.below _ (EIn.below _ ht0 (Below.refl _ _).drew (Nat.le_refl _)) hq_2 (Nat.le_refl _)
                  clear ht0
                  refine hK.out _ _ (HSS.out _ hb_2) (fun hS_2 => ?_)
                  clear hK K
                  try simp only [Act.put, List.setIfInBounds_toArray, List.set_cons_zero, List.set_cons_succ]
                  refine wpAnyH_take (i := 5) (oi := ⟨some 59, _, _, _, _, _⟩) (v := .int .i64 (fn + (mo : Int))) rfl (by kernel_rfl) (by kernel_rfl) (by kernel_rfl) (fun _ _ _ h => h) (.inl ⟨by kernel_rfl, fun W hW => by first | (obtain ⟨z0, z1, z2, z3⟩ := hW; go_simp; done) | (obtain ⟨z0, z1, z2, z3⟩ := hW; go_simp; omega) | (obtain ⟨z0, z1, z2, z3⟩ := hW; go_simp; exact IntWalk.i64_in _ (by omega)) | (obtain ⟨z0, z1, z2, z3⟩ := hW; go_simp; simp [*]; done)⟩) hS_2 ?_
                  try simp only [Act.put, List.setIfInBounds_toArray, List.set_cons_zero, List.set_cons_succ]
                  refine wpAnyH_ready (rs := [7]) (by kernel_rfl) (by simp) (AllReadyH.cons rfl (fun K hK => ?_) AllReadyH.nil)
                  go_simp
                  refine (HUD.out _ hb_2 A0 c0 ht0_2).mono ?_
                  rintro e u_3 ⟨rfl, hq_3⟩
                  have hb_3 := hb_2.trans (hq_3.mono hb_2.size)
                  have ht0_2_3 := EIn.below _ ht0_2 hq_3 (Nat.le_refl _)
                  clear ht0_2
                  refine hK.out _ _ (HSS.out _ hb_3) (fun hS_3 => ?_)
                  clear hK K
                  try simp only [Act.put, List.setIfInBounds_toArray, List.set_cons_zero, List.set_cons_succ]
                  refine wpAnyH_take (i := 8) (oi := ⟨some 62, _, _, _, _, _⟩) (v := .int .i64 ((fn + (mo : Int)) - dn)) rfl (by kernel_rfl) (by kernel_rfl) (by kernel_rfl) (fun _ _ _ h => h) (.inl ⟨by kernel_rfl, fun W hW => by first | (obtain ⟨z0, z1, z2, z3⟩ := hW; go_simp; done) | (obtain ⟨z0, z1, z2, z3⟩ := hW; go_simp; omega) | (obtain ⟨z0, z1, z2, z3⟩ := hW; go_simp; exact IntWalk.i64_in _ (by omega)) | (obtain ⟨z0, z1, z2, z3⟩ := hW; go_simp; simp [*]; done)⟩) hS_3 ?_
                  try simp only [Act.put, List.setIfInBounds_toArray, List.set_cons_zero, List.set_cons_succ]
                  refine wpAnyH_take (i := 9) (oi := ⟨some 63, _, _, _, _, _⟩) (v := .bool false) rfl (by kernel_rfl) (by kernel_rfl) (by kernel_rfl) (fun _ _ _ h => h) (.inl ⟨by kernel_rfl, fun W hW => by first | (obtain ⟨z0, z1, z2, z3⟩ := hW; go_simp; done) | (obtain ⟨z0, z1, z2, z3⟩ := hW; go_simp; omega) | (obtain ⟨z0, z1, z2, z3⟩ := hW; go_simp; exact IntWalk.i64_in _ (by omega)) | (obtain ⟨z0, z1, z2, z3⟩ := hW; go_simp; simp [*]; done)⟩) hS_3 ?_
                  try simp only [Act.put, List.setIfInBounds_toArray, List.set_cons_zero, List.set_cons_succ]
                  refine wpAnyH_take (i := 10) (oi := ⟨some 64, _, _, _, _, _⟩) (v := .bool false) rfl (by kernel_rfl) (by kernel_rfl) (by kernel_rfl) (fun _ _ _ h => h) (.inl ⟨by kernel_rfl, fun W hW => by kernel_rfl⟩) hS_3 ?_
                  try simp only [Act.put, List.setIfInBounds_toArray, List.set_cons_zero, List.set_cons_succ]
                  refine wpAnyH_take (i := 11) (oi := ⟨some 65, _, _, _, _, _⟩) (v := .agg #[.int .i64 tk, .int .i64 tn, .string tz, .slice A0 tl.length (capF tl.length c0)]) rfl (by kernel_rfl) (by kernel_rfl) (by kernel_rfl) (fun _ _ _ h => h) (.inl ⟨by kernel_rfl, fun W hW => by first | (obtain ⟨z0, z1, z2, z3⟩ := hW; go_simp; done) | (obtain ⟨z0, z1, z2, z3⟩ := hW; go_simp; omega) | (obtain ⟨z0, z1, z2, z3⟩ := hW; go_simp; exact IntWalk.i64_in _ (by omega)) | (obtain ⟨z0, z1, z2, z3⟩ := hW; go_simp; simp [*]; done)⟩) hS_3 ?_
                  try simp only [Act.put, List.setIfInBounds_toArray, List.set_cons_zero, List.set_cons_succ]
                  refine wpAnyH_take (i := 12) (oi := ⟨some 66, _, _, _, _, _⟩) (v := .int .i64 le) rfl (by kernel_rfl) (by kernel_rfl) (by kernel_rfl) (fun _ _ _ h => h) (.inl ⟨by kernel_rfl, fun W hW => by kernel_rfl⟩) hS_3 ?_
                  try simp only [Act.put, List.setIfInBounds_toArray, List.set_cons_zero, List.set_cons_succ]
                  refine wpAnyH_ready (rs := [13]) (by kernel_rfl) (by simp) (AllReadyH.cons rfl (fun K hK => ?_) AllReadyH.nil)
                  rw [if_pos (by kernel_rfl)]
                  go_simp
                  refine (HM1.out _ hb_3 A0 c0 ht0_2_3).mono ?_
                  rintro e u_4 ⟨rfl, hq_4⟩
                  have hb_4 := hb_3.trans (hq_4.mono hb_3.size)
                  have ht0_2_3_4 := EIn.below _ ht0_2_3 hq_4 (Nat.le_refl _)
                  clear ht0_2_3
                  refine hK.out _ _ (HSS.out _ hb_4) (fun hS_4 => ?_)
                  clear hK K
                  try simp only [Act.put, List.setIfInBounds_toArray, List.set_cons_zero, List.set_cons_succ]
                  refine wpAnyH_take (i := 14) (oi := ⟨some 68, _, _, _, _, _⟩) (v := .bool false) rfl (by kernel_rfl) (by kernel_rfl) (by kernel_rfl) (fun _ _ _ h => h) (.inl ⟨by kernel_rfl, fun W hW => by kernel_rfl⟩) hS_4 ?_
                  try simp only [Act.put, List.setIfInBounds_toArray, List.set_cons_zero, List.set_cons_succ]
                  refine wpAnyH_take (i := 15) (oi := ⟨some 69, _, _, _, _, _⟩) (v := .bool false) rfl (by kernel_rfl) (by kernel_rfl) (by kernel_rfl) (fun _ _ _ h => h) (.inl ⟨by kernel_rfl, fun W hW => by kernel_rfl⟩) hS_4 ?_
                  try simp only [Act.put, List.setIfInBounds_toArray, List.set_cons_zero, List.set_cons_succ]
                  refine wpAnyH_take (i := 16) (oi := ⟨some 70, _, _, _, _, _⟩) (v := .bool false) rfl (by kernel_rfl) (by kernel_rfl) (by kernel_rfl) (fun _ _ _ h => h) (.inl ⟨by kernel_rfl, fun W hW => by kernel_rfl⟩) hS_4 ?_
                  try simp only [Act.put, List.setIfInBounds_toArray, List.set_cons_zero, List.set_cons_succ]
                  refine wpAnyH_take (i := 17) (oi := ⟨some 71, _, _, _, _, _⟩) (v := .int .i64 le) rfl (by kernel_rfl) (by kernel_rfl) (by kernel_rfl) (fun _ _ _ h => h) (.inl ⟨by kernel_rfl, fun W hW => by kernel_rfl⟩) hS_4 ?_
                  try simp only [Act.put, List.setIfInBounds_toArray, List.set_cons_zero, List.set_cons_succ]
                  refine wpAnyH_take (i := 18) (oi := ⟨some 72, _, _, _, _, _⟩) (v := .bool true) rfl (by kernel_rfl) (by kernel_rfl) (by kernel_rfl) (fun _ _ _ h => h) (.inl ⟨by kernel_rfl, fun W hW => by first | (obtain ⟨z0, z1, z2, z3⟩ := hW; go_simp; done) | (obtain ⟨z0, z1, z2, z3⟩ := hW; go_simp; omega) | (obtain ⟨z0, z1, z2, z3⟩ := hW; go_simp; exact IntWalk.i64_in _ (by omega)) | (obtain ⟨z0, z1, z2, z3⟩ := hW; go_simp; simp [*]; done)⟩) hS_4 ?_
                  try simp only [Act.put, List.setIfInBounds_toArray, List.set_cons_zero, List.set_cons_succ]
                  refine wpAnyH_take (i := 19) (oi := ⟨some 73, _, _, _, _, _⟩) (v := .bool true) rfl (by kernel_rfl) (by kernel_rfl) (by kernel_rfl) (fun _ _ _ h => h) (.inl ⟨by kernel_rfl, fun W hW => by kernel_rfl⟩) hS_4 ?_
                  try simp only [Act.put, List.setIfInBounds_toArray, List.set_cons_zero, List.set_cons_succ]
                  refine wpAnyH_take (i := 20) (oi := ⟨some 74, _, _, _, _, _⟩) (v := .agg #[.int .i64 tk, .int .i64 tn, .string tz, .slice A0 tl.length (capF tl.length c0)]) rfl (by kernel_rfl) (by kernel_rfl) (by kernel_rfl) (fun _ _ _ h => h) (.inl ⟨by kernel_rfl, fun W hW => by first | (obtain ⟨z0, z1, z2, z3⟩ := hW; go_simp; done) | (obtain ⟨z0, z1, z2, z3⟩ := hW; go_simp; omega) | (obtain ⟨z0, z1, z2, z3⟩ := hW; go_simp; exact IntWalk.i64_in _ (by omega)) | (obtain ⟨z0, z1, z2, z3⟩ := hW; go_simp; simp [*]; done)⟩) hS_4 ?_
                  try simp only [Act.put, List.setIfInBounds_toArray, List.set_cons_zero, List.set_cons_succ]
                  refine wpAnyH_take (i := 21) (oi := ⟨some 75, _, _, _, _, _⟩) (v := .int .i64 le) rfl (by kernel_rfl) (by kernel_rfl) (by kernel_rfl) (fun _ _ _ h => h) (.inl ⟨by kernel_rfl, fun W hW => by kernel_rfl⟩) hS_4 ?_
                  try simp only [Act.put, List.setIfInBounds_toArray, List.set_cons_zero, List.set_cons_succ]
                  refine wpAnyH_take (i := 22) (oi := ⟨some 76, _, _, _, _, _⟩) (v := .int .i64 (le - 1)) rfl (by kernel_rfl) (by kernel_rfl) (by kernel_rfl) (fun _ _ _ h => h) (.inl ⟨by kernel_rfl, fun W hW => by first | (obtain ⟨z0, z1, z2, z3⟩ := hW; go_simp; done) | (obtain ⟨z0, z1, z2, z3⟩ := hW; go_simp; omega) | (obtain ⟨z0, z1, z2, z3⟩ := hW; go_simp; exact IntWalk.i64_in _ (by omega)) | (obtain ⟨z0, z1, z2, z3⟩ := hW; go_simp; simp [*]; done)⟩) hS_4 ?_
                  try simp only [Act.put, List.setIfInBounds_toArray, List.set_cons_zero, List.set_cons_succ]
                  refine wpAnyH_ready (rs := [23]) (by kernel_rfl) (by simp) (AllReadyH.cons rfl (fun K hK => ?_) AllReadyH.nil)
                  rw [if_pos (by kernel_rfl)]
                  go_simp
                  refine (HM2.out _ hb_4 A0 c0 ht0_2_3_4).mono ?_
                  rintro e u_5 ⟨rfl, hq_5⟩
                  have hb_5 := hb_4.trans (hq_5.mono hb_4.size)
                  have ht0_2_3_4_5 := EIn.below _ ht0_2_3_4 hq_5 (Nat.le_refl _)
                  clear ht0_2_3_4
                  refine hK.out _ _ (HSS.out _ hb_5) (fun hS_5 => ?_)
                  clear hK K
                  try simp only [Act.put, List.setIfInBounds_toArray, List.set_cons_zero, List.set_cons_succ]
                  refine wpAnyH_take (i := 24) (oi := ⟨some 78, _, _, _, _, _⟩) (v := .bool false) rfl (by kernel_rfl) (by kernel_rfl) (by kernel_rfl) (fun _ _ _ h => h) (.inl ⟨by kernel_rfl, fun W hW => by kernel_rfl⟩) hS_5 ?_
                  try simp only [Act.put, List.setIfInBounds_toArray, List.set_cons_zero, List.set_cons_succ]
                  refine wpAnyH_take (i := 25) (oi := ⟨some 79, _, _, _, _, _⟩) (v := .bool false) rfl (by kernel_rfl) (by kernel_rfl) (by kernel_rfl) (fun _ _ _ h => h) (.inl ⟨by kernel_rfl, fun W hW => by kernel_rfl⟩) hS_5 ?_
                  try simp only [Act.put, List.setIfInBounds_toArray, List.set_cons_zero, List.set_cons_succ]
                  refine wpAnyH_done (by kernel_rfl) ?_ _
                  have hbx := hb_5
                  have hx0 := HX0.out.step hbx
                  clear HSS HB hbx HX0 ht0_2_3_4_5
                  clear HUN HUD HM1 HM2
                  obtain ⟨V7, hV7⟩ : ∃ V, V = u_5 := ⟨_, rfl⟩
                  rw [← hV7] at hx0 ⊢
                  clear hV7
                  have hmf : ¬ (mf : Int) = 0 := by have := HLE.out; omega
                  have hmf1 : ((mf : Int) == 0) = false := by simp; omega
                  have hmf2 : (0 : Int) < mf := by omega
                  have HM0 := Lib.hid (rMay6_any (.node tk tn tz tl) A0 c0 0 V7 hx0.tin (by omega) (by omega) (by omega))
                  rw [show mayQ (.node tk tn tz tl) 0 false = false from by rw [HQ0.out]; exact decide_eq_false (by omega)] at HM0
                  obtain ⟨d0, d1, d2, d3⟩ := hx0.four
                  have HX0 := Lib.hid hx0
                  clear hx0
                  go_wp2_with fail
                  refine HM0.out.mono ?_
                  rintro e u5 ⟨rfl, hb5⟩
                  replace HX0 := Lib.hid (HX0.out.step hb5)
                  clear hb5 d0 d1 d2 d3
                  go_wp2_with fail
                  go_ret
                  exact ⟨rfl, HX0.out.bw⟩
                · have HSS : Hid (∀ V', Below V.heap.size V V' → (fun V' : World => (V'.cell? ⟨g0, 0, none⟩ = some (.int .i64 tk) ∧ V'.cell? ⟨g0, 1, none⟩ = some (.int .i64 tn) ∧ V'.cell? ⟨g0, 2, none⟩ = some (.string tz) ∧ V'.cell? ⟨g0, 3, none⟩ = some (.slice A0 tl.length (capF tl.length c0)))) V') := Lib.hid fun V' h =>
                    ⟨(h.cell (p := ⟨g0, 0, none⟩) hx0.box.lt).trans (hx0.box.cell 0), (h.cell (p := ⟨g0, 1, none⟩) hx0.box.lt).trans (hx0.box.cell 1), (h.cell (p := ⟨g0, 2, none⟩) hx0.box.lt).trans (hx0.box.cell 2), (h.cell (p := ⟨g0, 3, none⟩) hx0.box.lt).trans (hx0.box.cell 3)⟩
                  have HUN : Hid (∀ X, Below V.heap.size V X → ∀ (A : Option Addr) (c : Nat) (hA : EIn X Any (.node tk tn tz tl) A), Calls Try.prog 20 #[.agg #[.int .i64 tk, .int .i64 tn, .string tz, .slice A tl.length (capF tl.length c)]] X fun e w' => e = .returned (.int .i64 fn) ∧ Below X.heap.size X w') := Lib.hid fun X hX A c hA => by
                    have h := fans_any (.node tk tn tz tl) A c X (by omega) (by omega) htt hA
                    rw [← HFN.out] at h
                    exact h
                  have HUD : Hid (∀ X, Below V.heap.size V X → ∀ (A : Option Addr) (c : Nat) (hA : EIn X Any (.node tk tn tz tl) A), Calls Try.prog 21 #[.agg #[.int .i64 tk, .int .i64 tn, .string tz, .slice A tl.length (capF tl.length c)]] X fun e w' => e = .returned (.int .i64 dn) ∧ Below X.heap.size X w') := Lib.hid fun X hX A c hA => by
                    have h := drops_any (.node tk tn tz tl) A c X (by omega) (by omega) htt hA
                    rw [← HDN.out] at h
                    exact h
                  have HM1 : Hid (∀ X, Below V.heap.size V X → ∀ (A : Option Addr) (c : Nat) (hA : EIn X Any (.node tk tn tz tl) A), Calls Try.prog 23 #[.agg #[.int .i64 tk, .int .i64 tn, .string tz, .slice A tl.length (capF tl.length c)], .int .i64 le] X fun e w' => e = .returned (.bool true) ∧ Below X.heap.size X w') := Lib.hid fun X hX A c hA => by
                    have h := rMay6_any (.node tk tn tz tl) A c le X hA (by omega) (by omega) (by omega)
                    rw [HQ1.out] at h
                    exact h
                  have HX0 := Lib.hid hx0
                  clear hx0
                  have hb_1 : Below V.heap.size V V := Below.refl _ _
                  refine wp_region_held_drew (S := (fun V' : World => (V'.cell? ⟨g0, 0, none⟩ = some (.int .i64 tk) ∧ V'.cell? ⟨g0, 1, none⟩ = some (.int .i64 tn) ∧ V'.cell? ⟨g0, 2, none⟩ = some (.string tz) ∧ V'.cell? ⟨g0, 3, none⟩ = some (.slice A0 tl.length (capF tl.length c0))))) rfl (HSS.out _ hb_1.drew) (fun hSs => ?_)
                  change wpAnyH _ _ _ _ _ 26 (Array.replicate 26 false) _ _
                  refine wpAnyH_take (i := 0) (oi := ⟨some 54, _, _, _, _, _⟩) (v := .int .i64 nn) rfl (by kernel_rfl) (by kernel_rfl) (by kernel_rfl) (fun _ _ _ h => h) (.inl ⟨by kernel_rfl, fun W hW => by kernel_rfl⟩) hSs ?_
                  try simp only [Act.put, List.setIfInBounds_toArray, List.set_cons_zero, List.set_cons_succ]
                  refine wpAnyH_take (i := 1) (oi := ⟨some 55, _, _, _, _, _⟩) (v := .agg #[.int .i64 tk, .int .i64 tn, .string tz, .slice A0 tl.length (capF tl.length c0)]) rfl (by kernel_rfl) (by kernel_rfl) (by kernel_rfl) (fun _ _ _ h => h) (.inl ⟨by kernel_rfl, fun W hW => by first | (obtain ⟨z0, z1, z2, z3⟩ := hW; go_simp; done) | (obtain ⟨z0, z1, z2, z3⟩ := hW; go_simp; omega) | (obtain ⟨z0, z1, z2, z3⟩ := hW; go_simp; exact IntWalk.i64_in _ (by omega)) | (obtain ⟨z0, z1, z2, z3⟩ := hW; go_simp; simp [*]; done)⟩) hSs ?_
                  try simp only [Act.put, List.setIfInBounds_toArray, List.set_cons_zero, List.set_cons_succ]
                  refine wpAnyH_take (i := 3) (oi := ⟨some 57, _, _, _, _, _⟩) (v := .slice AO mo cO) rfl (by kernel_rfl) (by kernel_rfl) (by kernel_rfl) (fun _ _ _ h => h) (.inl ⟨by kernel_rfl, fun W hW => by kernel_rfl⟩) hSs ?_
                  try simp only [Act.put, List.setIfInBounds_toArray, List.set_cons_zero, List.set_cons_succ]
                  refine wpAnyH_take (i := 4) (oi := ⟨some 58, _, _, _, _, _⟩) (v := .int .i64 (mo : Int)) rfl (by kernel_rfl) (by kernel_rfl) (by kernel_rfl) (fun _ _ _ h => h) (.inl ⟨by kernel_rfl, fun W hW => by first | (obtain ⟨z0, z1, z2, z3⟩ := hW; go_simp; done) | (obtain ⟨z0, z1, z2, z3⟩ := hW; go_simp; omega) | (obtain ⟨z0, z1, z2, z3⟩ := hW; go_simp; exact IntWalk.i64_in _ (by omega)) | (obtain ⟨z0, z1, z2, z3⟩ := hW; go_simp; simp [*]; done)⟩) hSs ?_
                  try simp only [Act.put, List.setIfInBounds_toArray, List.set_cons_zero, List.set_cons_succ]
                  refine wpAnyH_take (i := 6) (oi := ⟨some 60, _, _, _, _, _⟩) (v := .agg #[.int .i64 tk, .int .i64 tn, .string tz, .slice A0 tl.length (capF tl.length c0)]) rfl (by kernel_rfl) (by kernel_rfl) (by kernel_rfl) (fun _ _ _ h => h) (.inl ⟨by kernel_rfl, fun W hW => by first | (obtain ⟨z0, z1, z2, z3⟩ := hW; go_simp; done) | (obtain ⟨z0, z1, z2, z3⟩ := hW; go_simp; omega) | (obtain ⟨z0, z1, z2, z3⟩ := hW; go_simp; exact IntWalk.i64_in _ (by omega)) | (obtain ⟨z0, z1, z2, z3⟩ := hW; go_simp; simp [*]; done)⟩) hSs ?_
                  try simp only [Act.put, List.setIfInBounds_toArray, List.set_cons_zero, List.set_cons_succ]
                  refine wpAnyH_ready (rs := [2]) (by kernel_rfl) (by simp) (AllReadyH.cons rfl (fun K hK => ?_) AllReadyH.nil)
                  go_simp
                  refine (HUN.out _ (hb_1.drew) A0 c0 (EIn.below _ ht0 (Below.refl _ _).drew (Nat.le_refl _))).mono ?_
                  rintro e u_2 ⟨rfl, hq_2⟩
                  have hb_2 := (hb_1.drew).trans (hq_2.mono (hb_1.drew).size)
                  have ht0_2 := EIn.below _ (EIn.below _ ht0 (Below.refl _ _).drew (Nat.le_refl _)) hq_2 (Nat.le_refl _)
                  clear ht0
                  refine hK.out _ _ (HSS.out _ hb_2) (fun hS_2 => ?_)
                  clear hK K
                  try simp only [Act.put, List.setIfInBounds_toArray, List.set_cons_zero, List.set_cons_succ]
                  refine wpAnyH_take (i := 5) (oi := ⟨some 59, _, _, _, _, _⟩) (v := .int .i64 (fn + (mo : Int))) rfl (by kernel_rfl) (by kernel_rfl) (by kernel_rfl) (fun _ _ _ h => h) (.inl ⟨by kernel_rfl, fun W hW => by first | (obtain ⟨z0, z1, z2, z3⟩ := hW; go_simp; done) | (obtain ⟨z0, z1, z2, z3⟩ := hW; go_simp; omega) | (obtain ⟨z0, z1, z2, z3⟩ := hW; go_simp; exact IntWalk.i64_in _ (by omega)) | (obtain ⟨z0, z1, z2, z3⟩ := hW; go_simp; simp [*]; done)⟩) hS_2 ?_
                  try simp only [Act.put, List.setIfInBounds_toArray, List.set_cons_zero, List.set_cons_succ]
                  refine wpAnyH_ready (rs := [7]) (by kernel_rfl) (by simp) (AllReadyH.cons rfl (fun K hK => ?_) AllReadyH.nil)
                  go_simp
                  refine (HUD.out _ hb_2 A0 c0 ht0_2).mono ?_
                  rintro e u_3 ⟨rfl, hq_3⟩
                  have hb_3 := hb_2.trans (hq_3.mono hb_2.size)
                  have ht0_2_3 := EIn.below _ ht0_2 hq_3 (Nat.le_refl _)
                  clear ht0_2
                  refine hK.out _ _ (HSS.out _ hb_3) (fun hS_3 => ?_)
                  clear hK K
                  try simp only [Act.put, List.setIfInBounds_toArray, List.set_cons_zero, List.set_cons_succ]
                  refine wpAnyH_take (i := 8) (oi := ⟨some 62, _, _, _, _, _⟩) (v := .int .i64 ((fn + (mo : Int)) - dn)) rfl (by kernel_rfl) (by kernel_rfl) (by kernel_rfl) (fun _ _ _ h => h) (.inl ⟨by kernel_rfl, fun W hW => by first | (obtain ⟨z0, z1, z2, z3⟩ := hW; go_simp; done) | (obtain ⟨z0, z1, z2, z3⟩ := hW; go_simp; omega) | (obtain ⟨z0, z1, z2, z3⟩ := hW; go_simp; exact IntWalk.i64_in _ (by omega)) | (obtain ⟨z0, z1, z2, z3⟩ := hW; go_simp; simp [*]; done)⟩) hS_3 ?_
                  try simp only [Act.put, List.setIfInBounds_toArray, List.set_cons_zero, List.set_cons_succ]
                  refine wpAnyH_take (i := 9) (oi := ⟨some 63, _, _, _, _, _⟩) (v := .bool false) rfl (by kernel_rfl) (by kernel_rfl) (by kernel_rfl) (fun _ _ _ h => h) (.inl ⟨by kernel_rfl, fun W hW => by first | (obtain ⟨z0, z1, z2, z3⟩ := hW; go_simp; done) | (obtain ⟨z0, z1, z2, z3⟩ := hW; go_simp; omega) | (obtain ⟨z0, z1, z2, z3⟩ := hW; go_simp; exact IntWalk.i64_in _ (by omega)) | (obtain ⟨z0, z1, z2, z3⟩ := hW; go_simp; simp [*]; done)⟩) hS_3 ?_
                  try simp only [Act.put, List.setIfInBounds_toArray, List.set_cons_zero, List.set_cons_succ]
                  refine wpAnyH_take (i := 10) (oi := ⟨some 64, _, _, _, _, _⟩) (v := .bool false) rfl (by kernel_rfl) (by kernel_rfl) (by kernel_rfl) (fun _ _ _ h => h) (.inl ⟨by kernel_rfl, fun W hW => by kernel_rfl⟩) hS_3 ?_
                  try simp only [Act.put, List.setIfInBounds_toArray, List.set_cons_zero, List.set_cons_succ]
                  refine wpAnyH_take (i := 11) (oi := ⟨some 65, _, _, _, _, _⟩) (v := .agg #[.int .i64 tk, .int .i64 tn, .string tz, .slice A0 tl.length (capF tl.length c0)]) rfl (by kernel_rfl) (by kernel_rfl) (by kernel_rfl) (fun _ _ _ h => h) (.inl ⟨by kernel_rfl, fun W hW => by first | (obtain ⟨z0, z1, z2, z3⟩ := hW; go_simp; done) | (obtain ⟨z0, z1, z2, z3⟩ := hW; go_simp; omega) | (obtain ⟨z0, z1, z2, z3⟩ := hW; go_simp; exact IntWalk.i64_in _ (by omega)) | (obtain ⟨z0, z1, z2, z3⟩ := hW; go_simp; simp [*]; done)⟩) hS_3 ?_
                  try simp only [Act.put, List.setIfInBounds_toArray, List.set_cons_zero, List.set_cons_succ]
                  refine wpAnyH_take (i := 12) (oi := ⟨some 66, _, _, _, _, _⟩) (v := .int .i64 le) rfl (by kernel_rfl) (by kernel_rfl) (by kernel_rfl) (fun _ _ _ h => h) (.inl ⟨by kernel_rfl, fun W hW => by kernel_rfl⟩) hS_3 ?_
                  try simp only [Act.put, List.setIfInBounds_toArray, List.set_cons_zero, List.set_cons_succ]
                  refine wpAnyH_ready (rs := [13]) (by kernel_rfl) (by simp) (AllReadyH.cons rfl (fun K hK => ?_) AllReadyH.nil)
                  rw [if_pos (by kernel_rfl)]
                  go_simp
                  refine (HM1.out _ hb_3 A0 c0 ht0_2_3).mono ?_
                  rintro e u_4 ⟨rfl, hq_4⟩
                  have hb_4 := hb_3.trans (hq_4.mono hb_3.size)
                  have ht0_2_3_4 := EIn.below _ ht0_2_3 hq_4 (Nat.le_refl _)
                  clear ht0_2_3
                  refine hK.out _ _ (HSS.out _ hb_4) (fun hS_4 => ?_)
                  clear hK K
                  try simp only [Act.put, List.setIfInBounds_toArray, List.set_cons_zero, List.set_cons_succ]
                  refine wpAnyH_take (i := 14) (oi := ⟨some 68, _, _, _, _, _⟩) (v := .bool false) rfl (by kernel_rfl) (by kernel_rfl) (by kernel_rfl) (fun _ _ _ h => h) (.inl ⟨by kernel_rfl, fun W hW => by kernel_rfl⟩) hS_4 ?_
                  try simp only [Act.put, List.setIfInBounds_toArray, List.set_cons_zero, List.set_cons_succ]
                  refine wpAnyH_take (i := 15) (oi := ⟨some 69, _, _, _, _, _⟩) (v := .bool false) rfl (by kernel_rfl) (by kernel_rfl) (by kernel_rfl) (fun _ _ _ h => h) (.inl ⟨by kernel_rfl, fun W hW => by kernel_rfl⟩) hS_4 ?_
                  try simp only [Act.put, List.setIfInBounds_toArray, List.set_cons_zero, List.set_cons_succ]
                  refine wpAnyH_take (i := 16) (oi := ⟨some 70, _, _, _, _, _⟩) (v := .bool false) rfl (by kernel_rfl) (by kernel_rfl) (by kernel_rfl) (fun _ _ _ h => h) (.inl ⟨by kernel_rfl, fun W hW => by kernel_rfl⟩) hS_4 ?_
                  try simp only [Act.put, List.setIfInBounds_toArray, List.set_cons_zero, List.set_cons_succ]
                  refine wpAnyH_take (i := 17) (oi := ⟨some 71, _, _, _, _, _⟩) (v := .int .i64 le) rfl (by kernel_rfl) (by kernel_rfl) (by kernel_rfl) (fun _ _ _ h => h) (.inl ⟨by kernel_rfl, fun W hW => by kernel_rfl⟩) hS_4 ?_
                  try simp only [Act.put, List.setIfInBounds_toArray, List.set_cons_zero, List.set_cons_succ]
                  refine wpAnyH_take (i := 18) (oi := ⟨some 72, _, _, _, _, _⟩) (v := .bool false) rfl (by kernel_rfl) (by kernel_rfl) (by kernel_rfl) (fun _ _ _ h => h) (.inl ⟨by kernel_rfl, fun W hW => by first | (obtain ⟨z0, z1, z2, z3⟩ := hW; go_simp; done) | (obtain ⟨z0, z1, z2, z3⟩ := hW; go_simp; omega) | (obtain ⟨z0, z1, z2, z3⟩ := hW; go_simp; exact IntWalk.i64_in _ (by omega)) | (obtain ⟨z0, z1, z2, z3⟩ := hW; go_simp; simp [*]; done)⟩) hS_4 ?_
                  try simp only [Act.put, List.setIfInBounds_toArray, List.set_cons_zero, List.set_cons_succ]
                  refine wpAnyH_take (i := 19) (oi := ⟨some 73, _, _, _, _, _⟩) (v := .bool false) rfl (by kernel_rfl) (by kernel_rfl) (by kernel_rfl) (fun _ _ _ h => h) (.inl ⟨by kernel_rfl, fun W hW => by kernel_rfl⟩) hS_4 ?_
                  try simp only [Act.put, List.setIfInBounds_toArray, List.set_cons_zero, List.set_cons_succ]
                  refine wpAnyH_take (i := 20) (oi := ⟨some 74, _, _, _, _, _⟩) (v := undef) rfl (by kernel_rfl) (by kernel_rfl) (by kernel_rfl) (fun _ _ _ h => h) (.inr ⟨by kernel_rfl, rfl⟩) hS_4 ?_
                  try simp only [Act.put, List.setIfInBounds_toArray, List.set_cons_zero, List.set_cons_succ]
                  refine wpAnyH_take (i := 21) (oi := ⟨some 75, _, _, _, _, _⟩) (v := undef) rfl (by kernel_rfl) (by kernel_rfl) (by kernel_rfl) (fun _ _ _ h => h) (.inr ⟨by kernel_rfl, rfl⟩) hS_4 ?_
                  try simp only [Act.put, List.setIfInBounds_toArray, List.set_cons_zero, List.set_cons_succ]
                  refine wpAnyH_take (i := 22) (oi := ⟨some 76, _, _, _, _, _⟩) (v := undef) rfl (by kernel_rfl) (by kernel_rfl) (by kernel_rfl) (fun _ _ _ h => h) (.inr ⟨by kernel_rfl, rfl⟩) hS_4 ?_
                  try simp only [Act.put, List.setIfInBounds_toArray, List.set_cons_zero, List.set_cons_succ]
                  refine wpAnyH_take (i := 23) (oi := ⟨some 77, _, _, _, _, _⟩) (v := undef) rfl (by kernel_rfl) (by kernel_rfl) (by kernel_rfl) (fun _ _ _ h => h) (.inr ⟨by kernel_rfl, rfl⟩) hS_4 ?_
                  try simp only [Act.put, List.setIfInBounds_toArray, List.set_cons_zero, List.set_cons_succ]
                  refine wpAnyH_take (i := 24) (oi := ⟨some 78, _, _, _, _, _⟩) (v := .bool false) rfl (by kernel_rfl) (by kernel_rfl) (by kernel_rfl) (fun _ _ _ h => h) (.inl ⟨by kernel_rfl, fun W hW => by kernel_rfl⟩) hS_4 ?_
                  try simp only [Act.put, List.setIfInBounds_toArray, List.set_cons_zero, List.set_cons_succ]
                  refine wpAnyH_take (i := 25) (oi := ⟨some 79, _, _, _, _, _⟩) (v := .bool false) rfl (by kernel_rfl) (by kernel_rfl) (by kernel_rfl) (fun _ _ _ h => h) (.inl ⟨by kernel_rfl, fun W hW => by kernel_rfl⟩) hS_4 ?_
                  try simp only [Act.put, List.setIfInBounds_toArray, List.set_cons_zero, List.set_cons_succ]
                  refine wpAnyH_done (by kernel_rfl) ?_ _
                  have hbx := hb_4
                  have hx0 := HX0.out.step hbx
                  clear HSS HB hbx HX0 ht0_2_3_4
                  clear HUN HUD HM1
                  obtain ⟨V7, hV7⟩ : ∃ V, V = u_4 := ⟨_, rfl⟩
                  rw [← hV7] at hx0 ⊢
                  clear hV7
                  have hmf : (mf : Int) = 0 := by have := HLE.out; omega
                  have hmf1 : ((mf : Int) == 0) = true := by simp; omega
                  have hmf2 : ¬ (0 : Int) < mf := by omega
                  have HM0 := Lib.hid (rMay6_any (.node tk tn tz tl) A0 c0 0 V7 hx0.tin (by omega) (by omega) (by omega))
                  rw [show mayQ (.node tk tn tz tl) 0 false = true from by rw [HQ0.out]; exact decide_eq_true (by omega)] at HM0
                  obtain ⟨d0, d1, d2, d3⟩ := hx0.four
                  have HX0 := Lib.hid hx0
                  clear hx0
                  go_wp2_with fail
                  refine HM0.out.mono ?_
                  rintro e u5 ⟨rfl, hb5⟩
                  replace HX0 := Lib.hid (HX0.out.step hb5)
                  clear hb5 d0 d1 d2 d3
                  have HVR := Lib.hid (vars_any (depthE (.node tk tn tz tl)) (.node tk tn tz tl) A0 c0 u5 (Nat.le_refl _) (by omega) HX0.out.tin)
                  rw [HVS.out (by omega)] at HVR
                  obtain ⟨d0, d1, d2, d3⟩ := HX0.out.four
                  go_wp2_with fail
                  refine HVR.out.mono ?_
                  rintro e u6 ⟨rfl, hb6⟩
                  replace HX0 := Lib.hid (HX0.out.step hb6)
                  clear hb6 d0 d1 d2 d3
                  go_wp2_with fail
                  go_ret
                  exact ⟨rfl, HX0.out.bw⟩
end Lx
end Go.Proofs.Ytcefopaphaeejaa
