/-
  The law StoreFills, walked.
-/
import Derived.Test.YtceblpjlklogpaaDoorNlPF
import Derived.Test.YtceblpjlklogpaaDoorNlZP
namespace Go.Proofs.YtceblpjlklogpaaDoor
open Go Go.RowKit
namespace Lx
set_option maxRecDepth 100000
set_option maxHeartbeats 16000000 in
theorem storeFills_law (most : Int) (x : Nd) (B C : Option Addr) (b c : Nat) (w : World) (hI : NdIn w AnyB x B C) (hT : PTab w) :
    Calls Tryd.prog 5 #[.int .i64 most, ndv x B b C c] w fun e w' => e = .returned (.bool true) ∧ Below w.heap.size w w' := by
  obtain ⟨W, hW⟩ : ∃ W, W = w.alloc (.cells #[.int .i64 x.kind, .int .i64 x.level, .int .i64 x.n, .string x.name, .slice B x.alts.length (capN x.alts.length b), .slice C x.to.length (capN x.to.length c)] 28) := ⟨_, rfl⟩
  have hbW : Below w.heap.size w W := by rw [hW]; exact (Below.refl _ w).alloc (Nat.le_refl _) _
  have HLX : Hid (Lies W w.heap.size 28 #[.int .i64 x.kind, .int .i64 x.level, .int .i64 x.n, .string x.name, .slice B x.alts.length (capN x.alts.length b), .slice C x.to.length (capN x.to.length c)]) := Lib.hid (by rw [hW]; exact Lies.new _ _ _)
  have HBW := Lib.hid hbW
  have HF := Lib.hid (fixed12_any W (hT.below hbW (Nat.le_refl _)))
  have HI := Lib.hid hI
  have HT := Lib.hid hT
  obtain ⟨ma, hma⟩ : ∃ ma, ma = x.alts.length := ⟨_, rfl⟩
  obtain ⟨mt, hmt⟩ : ∃ mt, mt = x.to.length := ⟨_, rfl⟩
  unfold ndv
  rw [← hma, ← hmt] at HLX hW ⊢
  have HMA := Lib.hid hma
  have HMT := Lib.hid hmt
  clear hI hT hbW hma hmt
  go_enter Tryd.func5, Tryd.ntmps5
  go_upto_region 1 with fail
  rw [← hW]
  clear hW
  go_wp2_with fail
  refine HF.out.mono ?_
  rintro e w2 ⟨rfl, hb2⟩
  replace HLX := Lib.hid (HLX.out.below hb2 HLX.out.lt)
  replace HBW := Lib.hid (HBW.out.trans (hb2.mono HBW.out.size))
  clear HF hb2
  have HF := Lib.hid (fixed12_any w2 (HT.out.below HBW.out (Nat.le_refl _)))
  obtain ⟨x0, x1, x2, x3, x4, x5⟩ := six_cells HLX.out
  by_cases k1 : most < 2
  · have e1 : decide (most < 2) = true := decide_eq_true (by omega)
    go_wp2_with fail
    refine HF.out.mono ?_
    rintro e w3 ⟨rfl, hb3⟩
    go_wp2_with fail
    go_ret
    exact ⟨rfl, HBW.out.trans (hb3.mono HBW.out.size)⟩
  · have e1 : decide (most < 2) = false := decide_eq_false (by omega)
    by_cases k2 : 40 < most
    · have e2 : decide (40 < most) = true := decide_eq_true (by omega)
      go_wp2_with fail
      refine HF.out.mono ?_
      rintro e w3 ⟨rfl, hb3⟩
      go_wp2_with fail
      go_ret
      exact ⟨rfl, HBW.out.trans (hb3.mono HBW.out.size)⟩
    · have e2 : decide (40 < most) = false := decide_eq_false (by omega)
      by_cases k3 : x.kind < 2
      · have e3 : decide (x.kind < 2) = true := decide_eq_true (by omega)
        go_wp2_with fail
        refine HF.out.mono ?_
        rintro e w3 ⟨rfl, hb3⟩
        go_wp2_with fail
        go_ret
        exact ⟨rfl, HBW.out.trans (hb3.mono HBW.out.size)⟩
      · have e3 : decide (x.kind < 2) = false := decide_eq_false (by omega)
        by_cases k4 : 20 < mt
        · have e4 : decide (20 < (mt : Int)) = true := decide_eq_true (by omega)
          go_wp2_with fail
          refine HF.out.mono ?_
          rintro e w3 ⟨rfl, hb3⟩
          go_wp2_with fail
          go_ret
          exact ⟨rfl, HBW.out.trans (hb3.mono HBW.out.size)⟩
        · have e4 : decide (20 < (mt : Int)) = false := decide_eq_false (by omega)
          by_cases k5 : 20 < ma
          · have e5 : decide (20 < (ma : Int)) = true := decide_eq_true (by omega)
            go_wp2_with fail
            refine HF.out.mono ?_
            rintro e w3 ⟨rfl, hb3⟩
            go_wp2_with fail
            go_ret
            exact ⟨rfl, HBW.out.trans (hb3.mono HBW.out.size)⟩
          · have e5 : decide (20 < (ma : Int)) = false := decide_eq_false (by omega)
            have HN := Lib.hid (rnode_any x B C b c w2 (HI.out.below HBW.out (Nat.le_refl _)))
            unfold ndv at HN
            rw [← HMA.out, ← HMT.out] at HN
            cases hv : nodeV x with
            | false =>
              rw [hv] at HN
              go_wp2_with fail
              refine HN.out.mono ?_
              rintro e w3 ⟨rfl, hb3⟩
              have HF3 := Lib.hid (fixed12_any w3 (HT.out.below (HBW.out.trans (hb3.mono HBW.out.size)) (Nat.le_refl _)))
              clear HF
              go_wp2_with fail
              refine HF3.out.mono ?_
              rintro e w4 ⟨rfl, hb4⟩
              go_wp2_with fail
              go_ret
              exact ⟨rfl, (HBW.out.trans (hb3.mono HBW.out.size)).trans (hb4.mono (HBW.out.trans (hb3.mono HBW.out.size)).size)⟩
            | true =>
              rw [hv] at HN
              have HV := Lib.hid hv
              clear hv HF
              go_wp2_with fail
              refine HN.out.mono ?_
              rintro e w3 ⟨rfl, hb3⟩
              replace HLX := Lib.hid (HLX.out.below hb3 HLX.out.lt)
              replace HBW := Lib.hid (HBW.out.trans (hb3.mono HBW.out.size))
              clear HN hb3 x0 x1 x2 x3 x4 x5
              have HC1 : Hid (Calls Tryd.prog 18 #[.int .i64 most] w3 (GivesNet nsN most [.int .i64 0] w3)) := Lib.hid (new_any most w3 (by omega))
              go_wp2_with fail
              refine HC1.out.mono ?_
              rintro e w4 ⟨A1, d1, he, hN1, hb4⟩
              obtain ⟨c1, hc1⟩ : ∃ cc, cc = capN 2 d1 := ⟨_, rfl⟩
              have he2 : e = .returned (.tuple #[.agg #[.slice A1 2 c1, .int .i64 most], .int .i64 0]) := by rw [hc1]; exact he
              subst he2
              clear he hc1 HC1
              go_upto_region 4 with fail
              obtain ⟨V1, hV1⟩ : ∃ V, V = w4.alloc (.cells #[.slice A1 2 c1, .int .i64 most] 24) := ⟨_, rfl⟩
              have hbv : Below w4.heap.size w4 V1 := by rw [hV1]; exact (Below.refl _ w4).alloc (Nat.le_refl _) _
              have HL1 : Hid (Lies V1 w4.heap.size 24 #[.slice A1 2 c1, .int .i64 most]) := Lib.hid (by rw [hV1]; exact Lies.new _ _ _)
              have HN1 : Hid (NdsIn V1 (fun g => g ≠ w4.heap.size) nsN A1) := Lib.hid (hN1.keep (fun g j _ hlt => ⟨hbv.cell (p := ⟨g, j, none⟩) hlt, Nat.ne_of_lt hlt⟩))
              have hxl : w.heap.size + 1 ≤ w4.heap.size := Nat.lt_of_lt_of_le HLX.out.lt hb4.size
              have hs := hb4.trans (hbv.mono hb4.size)
              replace HLX := Lib.hid (HLX.out.below hs HLX.out.lt)
              replace HBW := Lib.hid (HBW.out.trans (hs.mono HBW.out.size))
              rw [← hV1]
              obtain ⟨g1, hg1⟩ : ∃ g, g = w4.heap.size := ⟨_, rfl⟩
              rw [← hg1] at HL1 HN1 hxl ⊢
              clear hV1 hb4 hbv hs hN1 hg1
              have hpp := ports_pos HV.out (by omega)
              have hal8 := node_lens HV.out
              have HMK : Hid (makeable x = true) := Lib.hid (by simp only [makeable, HV.out, Bool.and_true, decide_eq_true_eq]; omega)
              clear e1 e2 e3 e4 e5
              have HG1 : Hid (w.heap.size + 1 ≤ g1) := Lib.hid hxl
              clear hxl
              go_wp2_with fail
              go_loopw [7] (fun v wr => ∃ (j : Nat) (A : Option Addr) (cc : Nat), (2 + j : Int) ≤ most ∧ v = .int .i64 (2 + j : Int) ∧ Lies wr g1 24 #[.slice A (2 + j) cc, .int .i64 most] ∧ NdsIn wr (fun g => g ≠ g1) (fillN x j) A ∧ Below g1 V1 wr) (fun v _ => (most - intOf v).toNat)
              case atStart => exact ⟨0, A1, c1, by omega, rfl, HL1.out, HN1.out, Below.refl _ _⟩
              case round =>
                obtain ⟨j, A, cc, hj, rfl, hLr, hNr, hbr⟩ := hrel
                have HLR := Lib.hid hLr
                have HNR := Lib.hid hNr
                have HBR := Lib.hid hbr
                clear hLr hNr hbr HL1 HN1
                obtain ⟨V2, hV2⟩ : ∃ V, V = wr := ⟨_, rfl⟩
                rw [← hV2] at HLR HNR HBR ⊢
                clear hV2
                replace HLX := Lib.hid (HLX.out.below (HBR.out.mono (by have := HG1.out; omega)) (by have := HG1.out; have := HLX.out.lt; omega))
                replace HBW := Lib.hid (HBW.out.trans (HBR.out.mono (by have := HG1.out; omega)))
                obtain ⟨p1, q1⟩ := two_cells HLR.out
                obtain ⟨x0, x1, x2, x3, x4, x5⟩ := six_cells HLX.out
                by_cases hlt : (2 + j : Int) < most
                · have e1 : decide ((2 + j : Int) < most) = true := decide_eq_true hlt
                  have HS := Lib.hid (fill_small (x := x) (by omega) (by omega) j)
                  have HC2 : Hid (Calls Tryd.prog 12 #[.agg #[.slice A (2 + j) cc, .int .i64 most], .agg #[.int .i64 x.kind, .int .i64 x.level, .int .i64 x.n, .string x.name, .slice B ma (capN ma b), .slice C mt (capN mt c)]] V2 (GivesNet (fillN x (j + 1)) most [.int .i64 (2 + j : Int), .int .i64 0] V2)) := Lib.hid (by
                    have h := make_any (fillN x j) A (2 + j) cc most x B C b c V2 (fill_len x j).symm (by omega) (by omega) HS.out HNR.out.any (HI.out.below HBW.out (Nat.le_refl _)) (by omega) (by omega) (HT.out.below HBW.out (Nat.le_refl _))
                    rw [fill_make HMK.out hlt] at h
                    rw [HMA.out, HMT.out]
                    exact h)
                  go_wp2_with fail
                  refine HC2.out.mono ?_
                  rintro e w5 ⟨A2, d2, he, hN2, hb5⟩
                  obtain ⟨c2, hc2⟩ : ∃ cc, cc = capN (2 + (j + 1)) d2 := ⟨_, rfl⟩
                  have he2 : e = .returned (.tuple #[.agg #[.slice A2 (2 + (j + 1)) c2, .int .i64 most], .int .i64 (2 + j : Int), .int .i64 0]) := by
                    rw [hc2]
                    have := fill_len x (j + 1)
                    rw [he, netv, this]
                  subst he2
                  clear he hc2 HC2 p1 q1 x0 x1 x2 x3 x4 x5 HS
                  go_upto_region 8 with fail
                  obtain ⟨V3, hV3⟩ : ∃ V, V = w5.alloc (.cells #[.slice A2 (2 + (j + 1)) c2, .int .i64 most] 24) := ⟨_, rfl⟩
                  have hbv : Below w5.heap.size w5 V3 := by rw [hV3]; exact (Below.refl _ w5).alloc (Nat.le_refl _) _
                  have HL2 : Hid (Lies V3 w5.heap.size 24 #[.slice A2 (2 + (j + 1)) c2, .int .i64 most]) := Lib.hid (by rw [hV3]; exact Lies.new _ _ _)
                  have hgl : g1 < V2.heap.size := HLR.out.lt
                  have HN2 : Hid (NdsIn V3 (fun g => g ≠ g1) (fillN x (j + 1)) A2) := Lib.hid (hN2.keep (fun g k hX hl => ⟨hbv.cell (p := ⟨g, k, none⟩) hl, by omega⟩))
                  have hs := hb5.trans (hbv.mono hb5.size)
                  replace HLR := Lib.hid (HLR.out.below hs HLR.out.lt)
                  have HB3 := Lib.hid (HBR.out.trans (hs.mono (Nat.le_of_lt hgl)))
                  have HBU := Lib.hid hs
                  rw [← hV3]
                  obtain ⟨g2, hg2⟩ : ∃ g, g = w5.heap.size := ⟨_, rfl⟩
                  rw [← hg2] at HL2 ⊢
                  have hgg : g1 < g2 := by have := hb5.size; omega
                  clear hV3 hb5 hbv hs hN2 hg2 hgl HNR
                  obtain ⟨p2, q2⟩ := two_cells HL2.out
                  have HU : Hid (Calls Tryd.prog 15 #[.agg #[.slice A2 (2 + (j + 1)) c2, .int .i64 most]] V3 fun e w' => e = .returned (.int .i64 ((2 + j : Int) + 1)) ∧ Below V3.heap.size V3 w') := Lib.hid (by
                    have h := used_any (fillN x (j + 1)) A2 (2 + (j + 1)) c2 most V3 (fill_len x (j + 1)).symm (by omega) HN2.out.any
                    rw [fill_used HMK.out] at h
                    have e9 : ((2 + (j + 1) : Nat) : Int) = (2 + j : Int) + 1 := by omega
                    rw [e9] at h
                    exact h)
                  go_wp2_with fail
                  refine HU.out.mono ?_
                  rintro e w6 ⟨rfl, hb6⟩
                  have HL6 := HL2.out.below hb6 HL2.out.lt
                  obtain ⟨p3, q3⟩ := two_cells HL6
                  have hr6 := HLR.out.below hb6 HLR.out.lt
                  obtain ⟨p1, q1⟩ := two_cells hr6
                  have f0 := hr6.frozen 0
                  have f1 := hr6.frozen 1
                  clear p2 q2
                  go_wp2_with fail
                  have hb7 : Below g1 V1 w6 := HB3.out.trans (hb6.mono (Nat.le_of_lt HLR.out.lt))
                  have hn6 := HN2.out.below hb6 (Nat.le_refl _)
                  go_roundw
                  case rel =>
                    go_light
                    exact ⟨j + 1, A2, c2, by omega, by congr 1, lies_put2 hr6 _ _, (hn6.keep (keep_set _ _ (by simp))).keep (keep_set _ _ (by simp)), (hb7.setCell (p := ⟨g1, 0, none⟩) (Nat.le_refl _) _).setCell (p := ⟨g1, 1, none⟩) (Nat.le_refl _) _⟩
                  case measure => simp [intOf]; omega
                · have e1 : decide ((2 + j : Int) < most) = false := decide_eq_false hlt
                  have HS := Lib.hid (fill_small (x := x) (by omega) (by omega) j)
                  have HC2 : Hid (Calls Tryd.prog 12 #[.agg #[.slice A (2 + j) cc, .int .i64 most], .agg #[.int .i64 x.kind, .int .i64 x.level, .int .i64 x.n, .string x.name, .slice B ma (capN ma b), .slice C mt (capN mt c)]] V2 (GivesNet (fillN x j) most [.int .i64 0, .int .i64 121] V2)) := Lib.hid (by
                    have h := make_any (fillN x j) A (2 + j) cc most x B C b c V2 (fill_len x j).symm (by omega) (by omega) HS.out HNR.out.any (HI.out.below HBW.out (Nat.le_refl _)) (by omega) (by omega) (HT.out.below HBW.out (Nat.le_refl _))
                    rw [fill_full HMK.out (show (2 + j : Int) = most by omega)] at h
                    rw [HMA.out, HMT.out]
                    exact h)
                  go_wp2_with fail
                  refine HC2.out.mono ?_
                  rintro e w5 ⟨A2, d2, he, hN2, hb5⟩
                  obtain ⟨c2, hc2⟩ : ∃ cc, cc = capN (2 + j) d2 := ⟨_, rfl⟩
                  have he2 : e = .returned (.tuple #[.agg #[.slice A2 (2 + j) c2, .int .i64 most], .int .i64 0, .int .i64 121]) := by
                    rw [hc2]
                    rw [he, netv, fill_len x j]
                  subst he2
                  clear he hc2 HC2 p1 q1 x0 x1 x2 x3 x4 x5 hN2
                  go_upto_region 12 with fail
                  obtain ⟨V3, hV3⟩ : ∃ V, V = w5.alloc (.cells #[.slice A2 (2 + j) c2, .int .i64 most] 24) := ⟨_, rfl⟩
                  have hbv : Below w5.heap.size w5 V3 := by rw [hV3]; exact (Below.refl _ w5).alloc (Nat.le_refl _) _
                  have hs := hb5.trans (hbv.mono hb5.size)
                  have hgl : g1 < V2.heap.size := HLR.out.lt
                  replace HLR := Lib.hid (HLR.out.below hs HLR.out.lt)
                  replace HNR := Lib.hid (HNR.out.below hs (Nat.le_refl _))
                  replace HBW := Lib.hid (HBW.out.trans (hs.mono HBW.out.size))
                  rw [← hV3]
                  clear hV3 hb5 hbv hs hgl
                  obtain ⟨p1, q1⟩ := two_cells HLR.out
                  have HC3 : Hid (Calls Tryd.prog 12 #[.agg #[.slice A (2 + j) cc, .int .i64 most], .agg #[.int .i64 1, .int .i64 0, .int .i64 0, .string ⟨#[]⟩, .slice none 0 0, .slice none 0 0]] V3 (GivesNet (fillN x j) most [.int .i64 0, .int .i64 122] V3)) := Lib.hid (by
                    have h := make_any (fillN x j) A (2 + j) cc most (⟨1, 0, 0, ⟨#[]⟩, [], []⟩ : Nd) none none 0 0 V3 (fill_len x j).symm (by omega) (by omega) HS.out HNR.out.any (fx_nd _ _ _ _) (by decide) (by decide) (HT.out.below HBW.out (Nat.le_refl _))
                    rw [fill_root] at h
                    exact h)
                  go_wp2_with fail
                  refine HC3.out.mono ?_
                  rintro e w6 ⟨A3, d3, he, hN3, hb6⟩
                  obtain ⟨c3, hc3⟩ : ∃ cc, cc = capN (2 + j) d3 := ⟨_, rfl⟩
                  have he2 : e = .returned (.tuple #[.agg #[.slice A3 (2 + j) c3, .int .i64 most], .int .i64 0, .int .i64 122]) := by
                    rw [hc3]
                    rw [he, netv, fill_len x j]
                  subst he2
                  clear he hc3 HC3 p1 q1 hN3
                  go_upto_region 14 with fail
                  obtain ⟨V4, hV4⟩ : ∃ V, V = w6.alloc (.cells #[.slice A3 (2 + j) c3, .int .i64 most] 24) := ⟨_, rfl⟩
                  have hbv : Below w6.heap.size w6 V4 := by rw [hV4]; exact (Below.refl _ w6).alloc (Nat.le_refl _) _
                  have hs := hb6.trans (hbv.mono hb6.size)
                  replace HLR := Lib.hid (HLR.out.below hs HLR.out.lt)
                  replace HNR := Lib.hid (HNR.out.below hs (Nat.le_refl _))
                  replace HBW := Lib.hid (HBW.out.trans (hs.mono HBW.out.size))
                  rw [← hV4]
                  clear hV4 hb6 hbv hs HS HBR HLX e1
                  obtain ⟨j0, hj0⟩ : ∃ q, q = j := ⟨_, rfl⟩
                  go_loopw [17] (fun v wr => ∃ (j : Nat) (A : Option Addr) (cc : Nat), (2 + j : Int) ≤ most ∧ v = .int .i64 (1 + j : Int) ∧ Lies wr g1 24 #[.slice A (2 + j) cc, .int .i64 most] ∧ NdsIn wr (fun g => g ≠ g1) (fillN x j) A ∧ Below g1 V4 wr) (fun v _ => (intOf v).toNat)
                  case atStart => exact ⟨j, A, cc, hj, by congr 1; omega, HLR.out, HNR.out, Below.refl _ _⟩
                  case round =>
                    clear hj hlt HLR HNR hj0
                    obtain ⟨j, A, cc, hj, rfl, hLr, hNr, hbr⟩ := hrel
                    have HLR := Lib.hid hLr
                    have HNR := Lib.hid hNr
                    have HBR := Lib.hid hbr
                    clear hLr hNr hbr
                    obtain ⟨V5, hV5⟩ : ∃ V, V = wr := ⟨_, rfl⟩
                    rw [← hV5] at HLR HNR HBR ⊢
                    clear hV5
                    replace HBW := Lib.hid (HBW.out.trans (HBR.out.mono (by have := HG1.out; omega)))
                    obtain ⟨p1, q1⟩ := two_cells HLR.out
                    cases j with
                    | zero =>
                      have e1 : decide ((2 : Int) ≤ 1 + (0 : Nat)) = false := by decide
                      have HD : Hid (Calls Tryd.prog 19 #[.agg #[.slice A 2 cc, .int .i64 most]] V5 fun e w' => e = .returned (.int .i64 0) ∧ Below V5.heap.size V5 w') := Lib.hid (by
                        have h := check_any (fillN x 0) A 2 cc most V5 rfl (by decide) HNR.out.any (HT.out.below HBW.out (Nat.le_refl _))
                        rw [show checkI (fillN x 0) most = 0 from fill_check (by omega)] at h
                        exact h)
                      go_wp2_with fail
                      refine HD.out.mono ?_
                      rintro e w7 ⟨rfl, hb7⟩
                      replace HLR := Lib.hid (HLR.out.below hb7 HLR.out.lt)
                      replace HNR := Lib.hid (HNR.out.below hb7 (Nat.le_refl _))
                      replace HBW := Lib.hid (HBW.out.trans (hb7.mono HBW.out.size))
                      clear p1 q1 HD hb7 HBR
                      obtain ⟨p1, q1⟩ := two_cells HLR.out
                      have HU : Hid (Calls Tryd.prog 15 #[.agg #[.slice A 2 cc, .int .i64 most]] w7 fun e w' => e = .returned (.int .i64 2) ∧ Below w7.heap.size w7 w') := Lib.hid (by
                        have h := used_any (fillN x 0) A 2 cc most w7 rfl (by decide) HNR.out.any
                        rw [show usedV (fillN x 0) = 2 from rfl] at h
                        exact h)
                      go_wp2_with fail
                      refine HU.out.mono ?_
                      rintro e w8 ⟨rfl, hb8⟩
                      go_wp2_with fail
                      go_ret
                      exact ⟨rfl, HBW.out.trans (hb8.mono HBW.out.size)⟩
                    | succ j =>
                      have e1 : decide ((2 : Int) ≤ 1 + (j + 1 : Nat)) = true := decide_eq_true (by omega)
                      have HS := Lib.hid (fill_small (x := x) (by omega) (by omega) (j + 1))
                      have HF5 : Hid (Calls Tryd.prog 17 #[.agg #[.slice A (2 + (j + 1)) cc, .int .i64 most], .int .i64 (1 + ((j : Int) + 1))] V5 (GivesNet (fillN x j) most [.int .i64 0] V5)) := Lib.hid (by
                        have h := free_any (fillN x (j + 1)) A (2 + (j + 1)) cc most (2 + j : Int) V5 (fill_len x (j + 1)).symm (by omega) (by omega) HS.out HNR.out.any
                        rw [fill_free HMK.out j] at h
                        rw [show (1 + ((j : Int) + 1)) = 2 + j by omega]
                        exact h)
                      go_wp2_with fail
                      refine HF5.out.mono ?_
                      rintro e w7 ⟨A7, d7, he, hN7, hb7⟩
                      obtain ⟨c7, hc7⟩ : ∃ cc, cc = capN (2 + j) d7 := ⟨_, rfl⟩
                      have he2 : e = .returned (.tuple #[.agg #[.slice A7 (2 + j) c7, .int .i64 most], .int .i64 0]) := by
                        rw [hc7]
                        rw [he, netv, fill_len x j]
                      subst he2
                      clear he hc7 HF5 p1 q1 HS
                      go_upto_region 17 with fail
                      obtain ⟨V6, hV6⟩ : ∃ V, V = w7.alloc (.cells #[.slice A7 (2 + j) c7, .int .i64 most] 24) := ⟨_, rfl⟩
                      have hbv : Below w7.heap.size w7 V6 := by rw [hV6]; exact (Below.refl _ w7).alloc (Nat.le_refl _) _
                      have HL7 : Hid (Lies V6 w7.heap.size 24 #[.slice A7 (2 + j) c7, .int .i64 most]) := Lib.hid (by rw [hV6]; exact Lies.new _ _ _)
                      have hgl : g1 < V5.heap.size := HLR.out.lt
                      have HN7 : Hid (NdsIn V6 (fun g => g ≠ g1) (fillN x j) A7) := Lib.hid (hN7.keep (fun g k hX hl => ⟨hbv.cell (p := ⟨g, k, none⟩) hl, by omega⟩))
                      have hs := hb7.trans (hbv.mono hb7.size)
                      replace HLR := Lib.hid (HLR.out.below hs HLR.out.lt)
                      replace HBR := Lib.hid (HBR.out.trans (hs.mono (Nat.le_of_lt hgl)))
                      rw [← hV6]
                      obtain ⟨g7, hg7⟩ : ∃ g, g = w7.heap.size := ⟨_, rfl⟩
                      rw [← hg7] at HL7 ⊢
                      clear hV6 hb7 hbv hs hN7 hg7 hgl HNR
                      obtain ⟨p7, q7⟩ := two_cells HL7.out
                      obtain ⟨p1, q1⟩ := two_cells HLR.out
                      have f0 := HLR.out.frozen 0
                      have f1 := HLR.out.frozen 1
                      have e2 : ((2 + j : Nat) : Int) = 1 + ((j : Int) + 1) := by omega
                      go_wp2_with fail
                      have hr7 := HLR.out
                      have hn7 := HN7.out
                      have hb9 := HBR.out
                      go_roundw
                      case rel =>
                        go_light
                        exact ⟨j, A7, c7, by omega, by congr 1; omega, lies_put2 hr7 _ _, (hn7.keep (keep_set _ _ (by simp))).keep (keep_set _ _ (by simp)), (hb9.setCell (p := ⟨g1, 0, none⟩) (Nat.le_refl _) _).setCell (p := ⟨g1, 1, none⟩) (Nat.le_refl _) _⟩
                      case measure => simp [intOf]; omega
end Lx
end Go.Proofs.YtceblpjlklogpaaDoor
