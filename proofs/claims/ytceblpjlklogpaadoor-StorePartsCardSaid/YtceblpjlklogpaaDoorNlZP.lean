/-
  The law StorePorts, walked.
-/
import Derived.Test.YtceblpjlklogpaaDoorNlFx
import Derived.Test.YtceblpjlklogpaaDoorC7
namespace Go.Proofs.YtceblpjlklogpaaDoor
open Go Go.RowKit
namespace Lx
set_option maxRecDepth 100000
theorem fresh_ports (x : Nd) : (freshV x).ports = x.ports := by
  simp only [freshV, Nd.ports, List.length_replicate, portsN]
  split <;> rfl
theorem ports_pos {x : Nd} (h : nodeV x = true) (h2 : 2 ≤ x.kind) : 1 ≤ x.ports ∧ x.ports ≤ 10 := by
  obtain ⟨k, l, n, s, al, tp⟩ := x
  rw [nodeV_eq] at h
  simp only [n1, n3, n5, Bool.and_eq_true, Bool.not_eq_true', decide_eq_false_iff_not] at h
  obtain ⟨h1, _, h5, _⟩ := h
  simp only at h2
  simp only [Nd.ports, portsN]
  repeat' split
  all_goals omega
theorem node_lens {x : Nd} (h : nodeV x = true) : x.alts.length ≤ 8 := by
  simp only [nodeV, Bool.and_eq_true, decide_eq_true_eq] at h
  exact h.2.2.2.1.2.2.2
theorem fx_ports {x : Nd} (h : makeable x = true) : makeV nsN 9 x = (nsN ++ [freshV x], 2, 0) := by
  rw [makeV, if_pos h, if_pos (by decide)]
  rfl
set_option maxHeartbeats 16000000 in
theorem storePorts_law (x : Nd) (B C : Option Addr) (b c : Nat) (w : World) (hI : NdIn w AnyB x B C) (hT : PTab w) :
    Calls Tryd.prog 7 #[ndv x B b C c] w fun e w' => e = .returned (.bool true) ∧ Below w.heap.size w w' := by
  obtain ⟨W, hW⟩ : ∃ W, W = w.alloc (.cells #[.int .i64 x.kind, .int .i64 x.level, .int .i64 x.n, .string x.name, .slice B x.alts.length (capN x.alts.length b), .slice C x.to.length (capN x.to.length c)] 28) := ⟨_, rfl⟩
  have hbW : Below w.heap.size w W := by rw [hW]; exact (Below.refl _ w).alloc (Nat.le_refl _) _
  have HLX : Hid (Lies W w.heap.size 28 #[.int .i64 x.kind, .int .i64 x.level, .int .i64 x.n, .string x.name, .slice B x.alts.length (capN x.alts.length b), .slice C x.to.length (capN x.to.length c)]) := Lib.hid (by rw [hW]; exact Lies.new _ _ _)
  have HBW := Lib.hid hbW
  have HF := Lib.hid (fixed12_any W (hT.below hbW (Nat.le_refl _)))
  have HI := Lib.hid hI
  have HT := Lib.hid hT
  obtain ⟨ma, hma⟩ : ∃ ma, ma = x.alts.length := ⟨_, rfl⟩
  obtain ⟨mt, hmt⟩ : ∃ mt, mt = x.to.length := ⟨_, rfl⟩
  unfold ndv
  rw [← hma, ← hmt] at HLX hW ⊢
  have HMA := Lib.hid hma
  have HMT := Lib.hid hmt
  clear hI hT hbW hma hmt
  go_enter Tryd.func7, Tryd.ntmps7
  go_upto_region 1 with fail
  rw [← hW]
  clear hW
  go_wp2_with fail
  refine HF.out.mono ?_
  rintro e w2 ⟨rfl, hb2⟩
  replace HLX := Lib.hid (HLX.out.below hb2 HLX.out.lt)
  replace HBW := Lib.hid (HBW.out.trans (hb2.mono HBW.out.size))
  clear HF hb2
  have HF := Lib.hid (fixed12_any w2 (HT.out.below HBW.out (Nat.le_refl _)))
  obtain ⟨x0, x1, x2, x3, x4, x5⟩ := six_cells HLX.out
  by_cases k1 : 20 < mt
  · have e1 : decide (20 < (mt : Int)) = true := decide_eq_true (by omega)
    go_wp2_with fail
    refine HF.out.mono ?_
    rintro e w3 ⟨rfl, hb3⟩
    go_wp2_with fail
    go_ret
    exact ⟨rfl, HBW.out.trans (hb3.mono HBW.out.size)⟩
  · have e1 : decide (20 < (mt : Int)) = false := decide_eq_false (by omega)
    by_cases k2 : 20 < ma
    · have e2 : decide (20 < (ma : Int)) = true := decide_eq_true (by omega)
      go_wp2_with fail
      refine HF.out.mono ?_
      rintro e w3 ⟨rfl, hb3⟩
      go_wp2_with fail
      go_ret
      exact ⟨rfl, HBW.out.trans (hb3.mono HBW.out.size)⟩
    · have e2 : decide (20 < (ma : Int)) = false := decide_eq_false (by omega)
      by_cases k3 : x.kind < 2
      · have e3 : decide (x.kind < 2) = true := decide_eq_true k3
        go_wp2_with fail
        refine HF.out.mono ?_
        rintro e w3 ⟨rfl, hb3⟩
        go_wp2_with fail
        go_ret
        exact ⟨rfl, HBW.out.trans (hb3.mono HBW.out.size)⟩
      · have e3 : decide (x.kind < 2) = false := decide_eq_false k3
        have HN := Lib.hid (rnode_any x B C b c w2 (HI.out.below HBW.out (Nat.le_refl _)))
        unfold ndv at HN
        rw [← HMA.out, ← HMT.out] at HN
        cases hv : nodeV x with
        | false =>
          rw [hv] at HN
          go_wp2_with fail
          refine HN.out.mono ?_
          rintro e w3 ⟨rfl, hb3⟩
          have HF3 := Lib.hid (fixed12_any w3 (HT.out.below (HBW.out.trans (hb3.mono HBW.out.size)) (Nat.le_refl _)))
          clear HF
          go_wp2_with fail
          refine HF3.out.mono ?_
          rintro e w4 ⟨rfl, hb4⟩
          go_wp2_with fail
          go_ret
          exact ⟨rfl, (HBW.out.trans (hb3.mono HBW.out.size)).trans (hb4.mono (HBW.out.trans (hb3.mono HBW.out.size)).size)⟩
        | true =>
          rw [hv] at HN
          have HV := Lib.hid hv
          clear hv HF
          go_wp2_with fail
          refine HN.out.mono ?_
          rintro e w3 ⟨rfl, hb3⟩
          replace HLX := Lib.hid (HLX.out.below hb3 HLX.out.lt)
          replace HBW := Lib.hid (HBW.out.trans (hb3.mono HBW.out.size))
          clear HN hb3 x0 x1 x2 x3 x4 x5
          have HC1 : Hid (Calls Tryd.prog 18 #[.int .i64 9] w3 (GivesNet nsN 9 [.int .i64 0] w3)) := Lib.hid (new_any 9 w3 (by decide))
          go_wp2_with fail
          refine HC1.out.mono ?_
          rintro e w4 ⟨A1, d1, he, hN1, hb4⟩
          obtain ⟨c1, hc1⟩ : ∃ cc, cc = capN 2 d1 := ⟨_, rfl⟩
          have he2 : e = .returned (.tuple #[.agg #[.slice A1 2 c1, .int .i64 9], .int .i64 0]) := by rw [hc1]; exact he
          subst he2
          clear he hc1 HC1
          go_upto_region 4 with fail
          obtain ⟨V1, hV1⟩ : ∃ V, V = w4.alloc (.cells #[.slice A1 2 c1, .int .i64 9] 24) := ⟨_, rfl⟩
          have hbv : Below w4.heap.size w4 V1 := by rw [hV1]; exact (Below.refl _ w4).alloc (Nat.le_refl _) _
          have HL1 : Hid (Lies V1 w4.heap.size 24 #[.slice A1 2 c1, .int .i64 9]) := Lib.hid (by rw [hV1]; exact Lies.new _ _ _)
          have HN1 : Hid (NdsIn V1 AnyB nsN A1) := Lib.hid (hN1.any.below hbv (Nat.le_refl _))
          have hs := hb4.trans (hbv.mono hb4.size)
          replace HLX := Lib.hid (HLX.out.below hs HLX.out.lt)
          replace HBW := Lib.hid (HBW.out.trans (hs.mono HBW.out.size))
          rw [← hV1]
          obtain ⟨g1, hg1⟩ : ∃ g, g = w4.heap.size := ⟨_, rfl⟩
          rw [← hg1] at HL1 ⊢
          clear hV1 hb4 hbv hs hN1 hg1
          obtain ⟨p1, q1⟩ := two_cells HL1.out
          obtain ⟨x0, x1, x2, x3, x4, x5⟩ := six_cells HLX.out
          have hpp := ports_pos HV.out (by omega)
          have hal8 := node_lens HV.out
          have HMK : Hid (makeable x = true) := Lib.hid (by simp only [makeable, HV.out, Bool.and_true, decide_eq_true_eq]; omega)
          have HC2 : Hid (Calls Tryd.prog 12 #[.agg #[.slice A1 2 c1, .int .i64 9], .agg #[.int .i64 x.kind, .int .i64 x.level, .int .i64 x.n, .string x.name, .slice B ma (capN ma b), .slice C mt (capN mt c)]] V1 (GivesNet (nsN ++ [freshV x]) 9 [.int .i64 2, .int .i64 0] V1)) := Lib.hid (by
            have h := make_any nsN A1 2 c1 9 x B C b c V1 rfl (by decide) (by decide) (fx_small _ (by simp)) HN1.out (HI.out.below HBW.out (Nat.le_refl _)) (by omega) (by omega) (HT.out.below HBW.out (Nat.le_refl _))
            rw [fx_ports HMK.out] at h
            rw [HMA.out, HMT.out]
            exact h)
          go_wp2_with fail
          refine HC2.out.mono ?_
          rintro e w5 ⟨A2, d2, he, hN2, hb5⟩
          obtain ⟨c2, hc2⟩ : ∃ cc, cc = capN 3 d2 := ⟨_, rfl⟩
          have he2 : e = .returned (.tuple #[.agg #[.slice A2 3 c2, .int .i64 9], .int .i64 2, .int .i64 0]) := by rw [hc2]; exact he
          subst he2
          clear he hc2 HC2 p1 q1 x0 x1 x2 x3 x4 x5 HL1 HN1
          go_upto_region 5 with fail
          obtain ⟨V2, hV2⟩ : ∃ V, V = w5.alloc (.cells #[.slice A2 3 c2, .int .i64 9] 24) := ⟨_, rfl⟩
          have hbv : Below w5.heap.size w5 V2 := by rw [hV2]; exact (Below.refl _ w5).alloc (Nat.le_refl _) _
          have HL2 : Hid (Lies V2 w5.heap.size 24 #[.slice A2 3 c2, .int .i64 9]) := Lib.hid (by rw [hV2]; exact Lies.new _ _ _)
          have hN3 : NdsIn V2 AnyB (nsN ++ [freshV x]) A2 := hN2.any.below hbv (Nat.le_refl _)
          have hs := hb5.trans (hbv.mono hb5.size)
          replace HLX := Lib.hid (HLX.out.below hs HLX.out.lt)
          replace HBW := Lib.hid (HBW.out.trans (hs.mono HBW.out.size))
          rw [← hV2]
          obtain ⟨g2, hg2⟩ : ∃ g, g = w5.heap.size := ⟨_, rfl⟩
          rw [← hg2] at HL2 ⊢
          clear hV2 hb5 hbv hs hN2 hg2
          obtain ⟨gr, og, y, B2, b2, C2, e2', hy, rfl, _, ⟨y0, y1, y2, y3, y4, y5⟩, hIy⟩ := NdsIn.get hN3 2 (by show 2 < 3; omega)
          obtain rfl : y = freshV x := hy
          simp only [freshV, List.length_replicate] at y0 y1 y2 y3 y4 y5
          obtain ⟨np, hnp⟩ : ∃ np, np = x.ports := ⟨_, rfl⟩
          rw [← hnp] at y5 hpp
          rw [← HMA.out] at y4
          have HNP := Lib.hid hnp
          have HIY := Lib.hid hIy
          obtain ⟨p2, q2⟩ := two_cells HL2.out
          clear hIy hN3 hnp e1 e2 e3
          go_upto_region 8 with fail
          obtain ⟨V3, hV3⟩ : ∃ V, V = V2.alloc (.cells #[.int .i64 x.kind, .int .i64 x.level, .int .i64 x.n, .string x.name, .slice B2 ma (capN ma b2), .slice C2 np (capN np e2')] 28) := ⟨_, rfl⟩
          have hbv : Below V2.heap.size V2 V3 := by rw [hV3]; exact (Below.refl _ V2).alloc (Nat.le_refl _) _
          have HLY : Hid (Lies V3 V2.heap.size 28 #[.int .i64 x.kind, .int .i64 x.level, .int .i64 x.n, .string x.name, .slice B2 ma (capN ma b2), .slice C2 np (capN np e2')]) := Lib.hid (by rw [hV3]; exact Lies.new _ _ _)
          replace HIY := Lib.hid (HIY.out.below hbv (Nat.le_refl _))
          replace HLX := Lib.hid (HLX.out.below hbv HLX.out.lt)
          replace HBW := Lib.hid (HBW.out.trans (hbv.mono HBW.out.size))
          rw [← hV3]
          obtain ⟨gy, hgy⟩ : ∃ g, g = V2.heap.size := ⟨_, rfl⟩
          rw [← hgy] at HLY ⊢
          clear hV3 hbv hgy y0 y1 y2 y3 y4 y5 p2 q2 HL2
          have z5 := (six_cells HLY.out).2.2.2.2.2
          have hgyl := ncell_lt z5
          have hnp10 : np ≤ 10 := hpp.2
          go_wp2_with fail
          go_loopw [9] (fun v wr => ∃ i : Nat, i ≤ np ∧ v = .int .i64 i ∧ Below V3.heap.size V3 wr) (fun v _ => np - (intOf v).toNat)
          case atStart => exact ⟨0, Nat.zero_le _, rfl, Below.refl _ _⟩
          case round =>
            obtain ⟨i, hi, rfl, hbr⟩ := hrel
            have t5 := (hbr.cell (p := ⟨gy, 5, none⟩) hgyl).trans z5
            by_cases hlt : i < np
            · have hil : i < (freshV x).to.length := by simp only [freshV, List.length_replicate, ← HNP.out]; exact hlt
              obtain ⟨g4, o4, ⟨rfl, _⟩, d0, d1⟩ := HIY.out.2.2 i hil
              simp only [freshV, List.getElem_replicate] at d0 d1
              replace d0 := (hbr.cell (p := ⟨g4, o4 + i * 2, none⟩) (ncell_lt d0)).trans d0
              replace d1 := (hbr.cell (p := ⟨g4, o4 + i * 2 + 1, none⟩) (ncell_lt d1)).trans d1
              go_wp2_with fail
              go_roundw
              case rel =>
                go_light
                exact ⟨i + 1, by omega, by go_num, hbr⟩
              case measure => simp [intOf]; omega
            · have hin : i = np := by omega
              subst hin
              obtain ⟨V4, hV4⟩ : ∃ V, V = wr := ⟨_, rfl⟩
              rw [← hV4] at hbr t5 ⊢
              clear hV4 t5
              replace HLX := Lib.hid (HLX.out.below hbr HLX.out.lt)
              replace HLY := Lib.hid (HLY.out.below hbr HLY.out.lt)
              replace HIY := Lib.hid (HIY.out.below hbr (Nat.le_refl _))
              replace HBW := Lib.hid (HBW.out.trans (hbr.mono HBW.out.size))
              clear hbr z5 hgyl
              obtain ⟨x0, x1, x2, x3, x4, x5⟩ := six_cells HLX.out
              have v5 := (six_cells HLY.out).2.2.2.2.2
              go_upto_region 16 with fail
              obtain ⟨V5, hV5⟩ : ∃ V, V = V4.alloc (.cells #[.int .i64 x.kind, .int .i64 0, .int .i64 0, .string x.name, .slice B ma (capN ma b), .slice C mt (capN mt c)] 28) := ⟨_, rfl⟩
              have hbv : Below V4.heap.size V4 V5 := by rw [hV5]; exact (Below.refl _ V4).alloc (Nat.le_refl _) _
              have hLZ : Lies V5 V4.heap.size 28 #[.int .i64 x.kind, .int .i64 0, .int .i64 0, .string x.name, .slice B ma (capN ma b), .slice C mt (capN mt c)] := by rw [hV5]; exact Lies.new _ _ _
              replace HLX := Lib.hid (HLX.out.below hbv HLX.out.lt)
              replace HLY := Lib.hid (HLY.out.below hbv HLY.out.lt)
              replace HIY := Lib.hid (HIY.out.below hbv (Nat.le_refl _))
              replace HBW := Lib.hid (HBW.out.trans (hbv.mono HBW.out.size))
              rw [← hV5]
              obtain ⟨gz, hgz⟩ : ∃ g, g = V4.heap.size := ⟨_, rfl⟩
              rw [← hgz] at hLZ ⊢
              clear hV5 hbv hgz x0 x1 x2 x3 x4 x5 v5
              obtain ⟨x0, x1, x2, x3, x4, x5⟩ := six_cells HLX.out
              obtain ⟨y0, y1, y2, y3, y4, y5⟩ := six_cells HLY.out
              obtain ⟨z0, z1, z2, z3, z4, z5⟩ := six_cells hLZ
              have a0 := Abv.cell x0
              have a1 := Abv.cell x1
              have a2 := Abv.cell x2
              have a3 := Abv.cell x3
              have a4 := Abv.cell x4
              have a5 := Abv.cell x5
              have s0 := Abv.cell y0
              have s1 := Abv.cell y1
              have s2 := Abv.cell y2
              have s3 := Abv.cell y3
              have s4 := Abv.cell y4
              have s5 := Abv.cell y5
              have t0 := Abv.cell z0
              have t1 := Abv.cell z1
              have t2 := Abv.cell z2
              have t3 := Abv.cell z3
              have t4 := Abv.cell z4
              have t5 := Abv.cell z5
              clear x0 x1 x2 x3 x4 x5 y0 y1 y2 y3 y4 y5 z0 z1 z2 z3 z4 z5 hLZ
              have hTV : ∀ V : Abv V5, PTab V.1 := fun V => (HT.out.below HBW.out (Nat.le_refl _)).below V.2 (Nat.le_refl _)
              have hPx : ∀ V : Abv V5, Calls Tryd.prog 21 #[.agg #[.int .i64 x.kind, .int .i64 x.level, .int .i64 x.n, .string x.name, .slice B ma (capN ma b), .slice C mt (capN mt c)]] V.1 fun e w' => e = .returned (.int .i64 i) ∧ Below V.1.heap.size V.1 w' := fun V => by
                have h := ports_any x B C b c V.1 HI.out.1 (hTV V)
                unfold ndv at h
                rw [← HMA.out, ← HMT.out, ← HNP.out] at h
                exact h
              have hPz : ∀ V : Abv V5, Calls Tryd.prog 21 #[.agg #[.int .i64 x.kind, .int .i64 0, .int .i64 0, .string x.name, .slice B ma (capN ma b), .slice C mt (capN mt c)]] V.1 fun e w' => e = .returned (.int .i64 i) ∧ Below V.1.heap.size V.1 w' := fun V => by
                have h := ports_any ⟨x.kind, 0, 0, x.name, x.alts, x.to⟩ B C b c V.1 HI.out.1 (hTV V)
                unfold ndv at h
                simp only [show Nd.ports ⟨x.kind, 0, 0, x.name, x.alts, x.to⟩ = x.ports from rfl] at h
                rw [← HMA.out, ← HMT.out, ← HNP.out] at h
                exact h
              have hPy : ∀ V : Abv V5, Calls Tryd.prog 21 #[.agg #[.int .i64 x.kind, .int .i64 x.level, .int .i64 x.n, .string x.name, .slice B2 ma (capN ma b2), .slice C2 i (capN i e2')]] V.1 fun e w' => e = .returned (.int .i64 i) ∧ Below V.1.heap.size V.1 w' := fun V => by
                have h := ports_any (freshV x) B2 C2 b2 e2' V.1 HIY.out.1 (hTV V)
                unfold ndv at h
                rw [fresh_ports] at h
                simp only [freshV, List.length_replicate] at h
                rw [← HMA.out, ← HNP.out] at h
                exact h
              have hp1 : decide (1 ≤ (i : Int)) = true := decide_eq_true (by omega)
              refine region_calm (by kernel_rfl) (by kernel_rfl) ?_
              go_big_quiet_step (fail)
              go_big_quiet_step (fail)
              go_big_quiet_step (fail)
              go_big_quiet_step (fail)
              go_big_quiet_step (exact calm_of (hPx _))
              go_big_quiet_step (fail)
              go_big_quiet_step (fail)
              go_big_quiet_step (fail)
              go_big_quiet_step (exact calm_of (hPx _))
              go_big_quiet_step (fail)
              go_big_quiet_step (exact calm_of (hPz _))
              go_big_quiet_step (fail)
              go_big_quiet_step (fail)
              go_big_quiet_step (fail)
              go_big_quiet_step (fail)
              go_big_quiet_step (exact calm_of (hPy _))
              go_big_quiet_step (fail)
              go_big_quiet_step (exact calm_of (hPx _))
              go_big_quiet_step (fail)
              go_big_quiet_step (fail)
              go_big_quiet_step (fail)
              go_big_quiet_step (fail)
              go_big_quiet_step (exact calm_of (hPx _))
              repeat (go_big_quiet_step (fail))
              refine wpQuiet_nil ?_
              rintro _ ⟨V, rfl⟩
              go_wp2_with fail
              go_ret
              exact ⟨by simp, HBW.out.trans (V.2.mono HBW.out.size)⟩
end Lx
end Go.Proofs.YtceblpjlklogpaaDoor
