/-
  The law WireTells, walked.
-/
import Derived.Test.YtceblpjlklogpaaC10
namespace Go.Proofs.Ytceblpjlklogpaa
open Go Go.RowKit
namespace Lx
set_option maxRecDepth 100000
set_option maxHeartbeats 40000000 in
theorem wireTells_law (HFX : ∀ V : World, Calls Try.prog 9 #[] V fun e w' => e = .returned (.bool true) ∧ Below V.heap.size V w') (l : List Nd) (A : Option Addr) (m c : Nat) (cap pa pb qa qb : Int) (w : World) (hm : m = l.length) (hm2 : m ≤ 140737488351232) (hN : NdsIn w AnyB l A) :
    Calls Try.prog 3 #[.agg #[.slice A m c, .int .i64 cap], .agg #[.int .i64 pa, .int .i64 pb, .int .i64 qa, .int .i64 qb]] w fun e w' => e = .returned (.bool true) ∧ Below w.heap.size w w' := by
  obtain ⟨W, hW⟩ : ∃ W, W = ((w.alloc (.cells #[.slice A m c, .int .i64 cap] 24)).alloc (.cells #[.int .i64 pa, .int .i64 pb, .int .i64 qa, .int .i64 qb] 28)) := ⟨_, rfl⟩
  have hb : Below w.heap.size w W := by rw [hW]; exact ((Below.refl _ w).alloc (Nat.le_refl _) _).alloc (by simp) _
  have BN : Hid (Lies W w.heap.size 24 #[.slice A m c, .int .i64 cap]) := Lib.hid (by rw [hW]; exact (Lies.new _ _ _).old _)
  have BX : Hid (Lies W (w.heap.size + 1) 28 #[.int .i64 pa, .int .i64 pb, .int .i64 qa, .int .i64 qb]) := Lib.hid (by rw [hW]; simpa using Lies.new (w.alloc (.cells #[.slice A m c, .int .i64 cap] 24)) 28 #[.int .i64 pa, .int .i64 pb, .int .i64 qa, .int .i64 qb])
  have HN : Hid (NdsIn W (fun g => g < w.heap.size) l A) := Lib.hid (hN.keep (fun q j _ hlt => ⟨hb.cell (p := ⟨q, j, none⟩) hlt, hlt⟩))
  have HB := Lib.hid hb
  have HM := Lib.hid hm
  clear hN hm hb
  go_enter Try.func3, Try.ntmps3
  go_upto_region 1 with fail
  rw [← hW]
  clear hW
  have HC1 := Lib.hid (small_any l A m c cap 150 W HM.out hm2 HN.out.any)
  obtain ⟨BNc0, BNc1⟩ := two_cells BN.out
  go_wp2_with fail
  refine HC1.out.mono ?_
  rintro e V1 ⟨rfl, hb⟩
  clear BNc0 BNc1 HC1
  replace BN := Lib.hid (BN.out.below hb BN.out.lt)
  replace BX := Lib.hid (BX.out.below hb BX.out.lt)
  replace HN := Lib.hid (HN.out.below hb (Nat.le_refl _))
  replace HB := Lib.hid (HB.out.trans (hb.mono HB.out.size))
  clear hb
  cases hs : smallV l 150 with
  | false =>
    have HC2 := Lib.hid (HFX V1)
    go_wp2_with fail
    refine HC2.out.mono ?_
    rintro e V2 ⟨rfl, hb⟩
    clear  HC2
    replace BN := Lib.hid (BN.out.below hb BN.out.lt)
    replace BX := Lib.hid (BX.out.below hb BX.out.lt)
    replace HN := Lib.hid (HN.out.below hb (Nat.le_refl _))
    replace HB := Lib.hid (HB.out.trans (hb.mono HB.out.size))
    clear hb
    go_wp2_with fail
    go_ret
    exact ⟨rfl, HB.out⟩
  | true =>
    obtain ⟨hm150', hfew, h12⟩ := small_few hs
    have hm150 : m ≤ 150 := by have := HM.out; omega
    have HF9 := Lib.hid hfew
    have H12 := Lib.hid h12
    clear hs hm150' hfew h12
    obtain ⟨ra, hra⟩ : ∃ q, q = (peerNV l (pa, pb)).1.1 := ⟨_, rfl⟩
    have Hra := Lib.hid hra
    clear hra
    obtain ⟨rb, hrb⟩ : ∃ q, q = (peerNV l (pa, pb)).1.2 := ⟨_, rfl⟩
    have Hrb := Lib.hid hrb
    clear hrb
    obtain ⟨re, hre⟩ : ∃ q, q = (peerNV l (pa, pb)).2 := ⟨_, rfl⟩
    have Hre := Lib.hid hre
    clear hre
    obtain ⟨nL, hnL⟩ : ∃ q, q = (linkNV l (pa, pb) (qa, qb)).1 := ⟨_, rfl⟩
    have HnL := Lib.hid hnL
    clear hnL
    obtain ⟨eL, heL⟩ : ∃ q, q = (linkNV l (pa, pb) (qa, qb)).2 := ⟨_, rfl⟩
    have HeL := Lib.hid heL
    clear heL
    obtain ⟨nM, hnM⟩ : ∃ q, q = (moveNV l (pa, pb) (qa, qb)).1 := ⟨_, rfl⟩
    have HnM := Lib.hid hnM
    clear hnM
    obtain ⟨eM, heM⟩ : ∃ q, q = (moveNV l (pa, pb) (qa, qb)).2 := ⟨_, rfl⟩
    have HeM := Lib.hid heM
    clear heM
    obtain ⟨nJ, hnJ⟩ : ∃ q, q = (joinNV l (pa, pb) (qa, qb)).1 := ⟨_, rfl⟩
    have HnJ := Lib.hid hnJ
    clear hnJ
    obtain ⟨eJ, heJ⟩ : ∃ q, q = (joinNV l (pa, pb) (qa, qb)).2 := ⟨_, rfl⟩
    have HeJ := Lib.hid heJ
    clear heJ
    have HC3 := Lib.hid (by
      have h := wPeer_any l A m c cap (pa, pb) V1 HM.out HN.out.any
      rw [← Hra.out, ← Hrb.out, ← Hre.out] at h
      exact h)
    obtain ⟨BNc0, BNc1⟩ := two_cells BN.out
    obtain ⟨BXc0, BXc1, BXc2, BXc3⟩ := four_cells BX.out
    go_wp2_with fail
    refine HC3.out.mono ?_
    rintro e V3 ⟨rfl, hb⟩
    clear BNc0 BNc1 BXc0 BXc1 BXc2 BXc3 HC3
    replace BN := Lib.hid (BN.out.below hb BN.out.lt)
    replace BX := Lib.hid (BX.out.below hb BX.out.lt)
    replace HN := Lib.hid (HN.out.below hb (Nat.le_refl _))
    replace HB := Lib.hid (HB.out.trans (hb.mono HB.out.size))
    clear hb
    go_upto_region 4 with fail
    obtain ⟨V4, hV4⟩ : ∃ V, V = V3.alloc (.cells #[.int .i64 ra, .int .i64 rb] 26) := ⟨_, rfl⟩
    obtain ⟨B1b, hB1b⟩ : ∃ B, B = V3.heap.size := ⟨_, rfl⟩
    have hb : Below V3.heap.size V3 V4 := by rw [hV4]; exact (Below.refl _ _).alloc (Nat.le_refl _) _
    have B1 : Hid (Lies V4 B1b 26 #[.int .i64 ra, .int .i64 rb]) := Lib.hid (by rw [hV4, hB1b]; exact Lies.new _ _ _)
    rw [← hV4, ← hB1b]
    clear hV4 hB1b
    replace BN := Lib.hid (BN.out.below hb BN.out.lt)
    replace BX := Lib.hid (BX.out.below hb BX.out.lt)
    replace HN := Lib.hid (HN.out.below hb (Nat.le_refl _))
    replace HB := Lib.hid (HB.out.trans (hb.mono HB.out.size))
    clear hb
    have HC5 := Lib.hid (by
      have h := rPeer_any l A m c cap (pa, pb) V4 HM.out HN.out.any
      rw [← Hra.out, ← Hrb.out, ← Hre.out] at h
      exact h)
    obtain ⟨BNc0, BNc1⟩ := two_cells BN.out
    obtain ⟨BXc0, BXc1, BXc2, BXc3⟩ := four_cells BX.out
    go_wp2_with fail
    refine HC5.out.mono ?_
    rintro e V5 ⟨rfl, hb⟩
    clear BNc0 BNc1 BXc0 BXc1 BXc2 BXc3 HC5
    replace BN := Lib.hid (BN.out.below hb BN.out.lt)
    replace BX := Lib.hid (BX.out.below hb BX.out.lt)
    replace B1 := Lib.hid (B1.out.below hb B1.out.lt)
    replace HN := Lib.hid (HN.out.below hb (Nat.le_refl _))
    replace HB := Lib.hid (HB.out.trans (hb.mono HB.out.size))
    clear hb
    go_upto_region 5 with fail
    obtain ⟨V6, hV6⟩ : ∃ V, V = V5.alloc (.cells #[.int .i64 ra, .int .i64 rb] 26) := ⟨_, rfl⟩
    obtain ⟨B2b, hB2b⟩ : ∃ B, B = V5.heap.size := ⟨_, rfl⟩
    have hb : Below V5.heap.size V5 V6 := by rw [hV6]; exact (Below.refl _ _).alloc (Nat.le_refl _) _
    have B2 : Hid (Lies V6 B2b 26 #[.int .i64 ra, .int .i64 rb]) := Lib.hid (by rw [hV6, hB2b]; exact Lies.new _ _ _)
    rw [← hV6, ← hB2b]
    clear hV6 hB2b
    replace BN := Lib.hid (BN.out.below hb BN.out.lt)
    replace BX := Lib.hid (BX.out.below hb BX.out.lt)
    replace B1 := Lib.hid (B1.out.below hb B1.out.lt)
    replace HN := Lib.hid (HN.out.below hb (Nat.le_refl _))
    replace HB := Lib.hid (HB.out.trans (hb.mono HB.out.size))
    clear hb
    have HC7 := Lib.hid (show Calls Try.prog 12 _ _ (GivesM nL m cap eL V6) from by
      rw [HnL.out, HeL.out]
      exact (wlink_any l A m c cap (pa, pb) (qa, qb) V6 HM.out (by omega) HF9.out HN.out.any).mono fun _ _ h => h.m (by rw [link_len]; exact HM.out))
    obtain ⟨BNc0, BNc1⟩ := two_cells BN.out
    obtain ⟨BXc0, BXc1, BXc2, BXc3⟩ := four_cells BX.out
    go_wp2_with fail
    refine HC7.out.mono ?_
    rintro e V7 ⟨AnLw, cnLw, rfl, hn, hb⟩
    clear BNc0 BNc1 BXc0 BXc1 BXc2 BXc3 HC7
    replace BN := Lib.hid (BN.out.below hb BN.out.lt)
    replace BX := Lib.hid (BX.out.below hb BX.out.lt)
    replace B1 := Lib.hid (B1.out.below hb B1.out.lt)
    replace B2 := Lib.hid (B2.out.below hb B2.out.lt)
    replace HN := Lib.hid (HN.out.below hb (Nat.le_refl _))
    replace HB := Lib.hid (HB.out.trans (hb.mono HB.out.size))
    clear hb
    have HnLw := Lib.hid hn
    clear hn
    go_upto_region 6 with fail
    obtain ⟨V8, hV8⟩ : ∃ V, V = V7.alloc (.cells #[.slice AnLw m cnLw, .int .i64 cap] 24) := ⟨_, rfl⟩
    obtain ⟨BnLwb, hBnLwb⟩ : ∃ B, B = V7.heap.size := ⟨_, rfl⟩
    have hb : Below V7.heap.size V7 V8 := by rw [hV8]; exact (Below.refl _ _).alloc (Nat.le_refl _) _
    have BnLw : Hid (Lies V8 BnLwb 24 #[.slice AnLw m cnLw, .int .i64 cap]) := Lib.hid (by rw [hV8, hBnLwb]; exact Lies.new _ _ _)
    rw [← hV8, ← hBnLwb]
    clear hV8 hBnLwb
    replace BN := Lib.hid (BN.out.below hb BN.out.lt)
    replace BX := Lib.hid (BX.out.below hb BX.out.lt)
    replace B1 := Lib.hid (B1.out.below hb B1.out.lt)
    replace B2 := Lib.hid (B2.out.below hb B2.out.lt)
    replace HN := Lib.hid (HN.out.below hb (Nat.le_refl _))
    replace HnLw := Lib.hid (HnLw.out.below hb (Nat.le_refl _))
    replace HB := Lib.hid (HB.out.trans (hb.mono HB.out.size))
    clear hb
    have HC9 := Lib.hid (show Calls Try.prog 13 _ _ (GivesM nL m cap eL V8) from by
      rw [HnL.out, HeL.out]
      exact (rlink_any l A m c cap (pa, pb) (qa, qb) V8 HM.out (by omega) HF9.out (fun g => g < w.heap.size) (fun g h => Nat.lt_of_lt_of_le h HB.out.size) HN.out).mono fun _ _ h => h.m (by rw [link_len]; exact HM.out))
    obtain ⟨BNc0, BNc1⟩ := two_cells BN.out
    obtain ⟨BXc0, BXc1, BXc2, BXc3⟩ := four_cells BX.out
    go_wp2_with fail
    refine HC9.out.mono ?_
    rintro e V9 ⟨AnLr, cnLr, rfl, hn, hb⟩
    clear BNc0 BNc1 BXc0 BXc1 BXc2 BXc3 HC9
    replace BN := Lib.hid (BN.out.below hb BN.out.lt)
    replace BX := Lib.hid (BX.out.below hb BX.out.lt)
    replace B1 := Lib.hid (B1.out.below hb B1.out.lt)
    replace B2 := Lib.hid (B2.out.below hb B2.out.lt)
    replace BnLw := Lib.hid (BnLw.out.below hb BnLw.out.lt)
    replace HN := Lib.hid (HN.out.below hb (Nat.le_refl _))
    replace HnLw := Lib.hid (HnLw.out.below hb (Nat.le_refl _))
    replace HB := Lib.hid (HB.out.trans (hb.mono HB.out.size))
    clear hb
    have HnLr := Lib.hid hn
    clear hn
    go_upto_region 7 with fail
    obtain ⟨V10, hV10⟩ : ∃ V, V = V9.alloc (.cells #[.slice AnLr m cnLr, .int .i64 cap] 24) := ⟨_, rfl⟩
    obtain ⟨BnLrb, hBnLrb⟩ : ∃ B, B = V9.heap.size := ⟨_, rfl⟩
    have hb : Below V9.heap.size V9 V10 := by rw [hV10]; exact (Below.refl _ _).alloc (Nat.le_refl _) _
    have BnLr : Hid (Lies V10 BnLrb 24 #[.slice AnLr m cnLr, .int .i64 cap]) := Lib.hid (by rw [hV10, hBnLrb]; exact Lies.new _ _ _)
    rw [← hV10, ← hBnLrb]
    clear hV10 hBnLrb
    replace BN := Lib.hid (BN.out.below hb BN.out.lt)
    replace BX := Lib.hid (BX.out.below hb BX.out.lt)
    replace B1 := Lib.hid (B1.out.below hb B1.out.lt)
    replace B2 := Lib.hid (B2.out.below hb B2.out.lt)
    replace BnLw := Lib.hid (BnLw.out.below hb BnLw.out.lt)
    replace HN := Lib.hid (HN.out.below hb (Nat.le_refl _))
    replace HnLw := Lib.hid (HnLw.out.below hb (Nat.le_refl _))
    replace HnLr := Lib.hid (HnLr.out.below hb (Nat.le_refl _))
    replace HB := Lib.hid (HB.out.trans (hb.mono HB.out.size))
    clear hb
    have HC11 := Lib.hid (show Calls Try.prog 14 _ _ (GivesM nM m cap eM V10) from by
      rw [HnM.out, HeM.out]
      exact (wmove_any l A m c cap (pa, pb) (qa, qb) V10 HM.out (by omega) HF9.out HN.out.any).mono fun _ _ h => h.m (by rw [move_len]; exact HM.out))
    obtain ⟨BNc0, BNc1⟩ := two_cells BN.out
    obtain ⟨BXc0, BXc1, BXc2, BXc3⟩ := four_cells BX.out
    go_wp2_with fail
    refine HC11.out.mono ?_
    rintro e V11 ⟨AnMw, cnMw, rfl, hn, hb⟩
    clear BNc0 BNc1 BXc0 BXc1 BXc2 BXc3 HC11
    replace BN := Lib.hid (BN.out.below hb BN.out.lt)
    replace BX := Lib.hid (BX.out.below hb BX.out.lt)
    replace B1 := Lib.hid (B1.out.below hb B1.out.lt)
    replace B2 := Lib.hid (B2.out.below hb B2.out.lt)
    replace BnLw := Lib.hid (BnLw.out.below hb BnLw.out.lt)
    replace BnLr := Lib.hid (BnLr.out.below hb BnLr.out.lt)
    replace HN := Lib.hid (HN.out.below hb (Nat.le_refl _))
    replace HnLw := Lib.hid (HnLw.out.below hb (Nat.le_refl _))
    replace HnLr := Lib.hid (HnLr.out.below hb (Nat.le_refl _))
    replace HB := Lib.hid (HB.out.trans (hb.mono HB.out.size))
    clear hb
    have HnMw := Lib.hid hn
    clear hn
    go_upto_region 8 with fail
    obtain ⟨V12, hV12⟩ : ∃ V, V = V11.alloc (.cells #[.slice AnMw m cnMw, .int .i64 cap] 24) := ⟨_, rfl⟩
    obtain ⟨BnMwb, hBnMwb⟩ : ∃ B, B = V11.heap.size := ⟨_, rfl⟩
    have hb : Below V11.heap.size V11 V12 := by rw [hV12]; exact (Below.refl _ _).alloc (Nat.le_refl _) _
    have BnMw : Hid (Lies V12 BnMwb 24 #[.slice AnMw m cnMw, .int .i64 cap]) := Lib.hid (by rw [hV12, hBnMwb]; exact Lies.new _ _ _)
    rw [← hV12, ← hBnMwb]
    clear hV12 hBnMwb
    replace BN := Lib.hid (BN.out.below hb BN.out.lt)
    replace BX := Lib.hid (BX.out.below hb BX.out.lt)
    replace B1 := Lib.hid (B1.out.below hb B1.out.lt)
    replace B2 := Lib.hid (B2.out.below hb B2.out.lt)
    replace BnLw := Lib.hid (BnLw.out.below hb BnLw.out.lt)
    replace BnLr := Lib.hid (BnLr.out.below hb BnLr.out.lt)
    replace HN := Lib.hid (HN.out.below hb (Nat.le_refl _))
    replace HnLw := Lib.hid (HnLw.out.below hb (Nat.le_refl _))
    replace HnLr := Lib.hid (HnLr.out.below hb (Nat.le_refl _))
    replace HnMw := Lib.hid (HnMw.out.below hb (Nat.le_refl _))
    replace HB := Lib.hid (HB.out.trans (hb.mono HB.out.size))
    clear hb
    have HC13 := Lib.hid (show Calls Try.prog 15 _ _ (GivesM nM m cap eM V12) from by
      rw [HnM.out, HeM.out]
      exact (rmove_any l A m c cap (pa, pb) (qa, qb) V12 HM.out (by omega) HF9.out (fun g => g < w.heap.size) (fun g h => Nat.lt_of_lt_of_le h HB.out.size) HN.out).mono fun _ _ h => h.m (by rw [move_len]; exact HM.out))
    obtain ⟨BNc0, BNc1⟩ := two_cells BN.out
    obtain ⟨BXc0, BXc1, BXc2, BXc3⟩ := four_cells BX.out
    go_wp2_with fail
    refine HC13.out.mono ?_
    rintro e V13 ⟨AnMr, cnMr, rfl, hn, hb⟩
    clear BNc0 BNc1 BXc0 BXc1 BXc2 BXc3 HC13
    replace BN := Lib.hid (BN.out.below hb BN.out.lt)
    replace BX := Lib.hid (BX.out.below hb BX.out.lt)
    replace B1 := Lib.hid (B1.out.below hb B1.out.lt)
    replace B2 := Lib.hid (B2.out.below hb B2.out.lt)
    replace BnLw := Lib.hid (BnLw.out.below hb BnLw.out.lt)
    replace BnLr := Lib.hid (BnLr.out.below hb BnLr.out.lt)
    replace BnMw := Lib.hid (BnMw.out.below hb BnMw.out.lt)
    replace HN := Lib.hid (HN.out.below hb (Nat.le_refl _))
    replace HnLw := Lib.hid (HnLw.out.below hb (Nat.le_refl _))
    replace HnLr := Lib.hid (HnLr.out.below hb (Nat.le_refl _))
    replace HnMw := Lib.hid (HnMw.out.below hb (Nat.le_refl _))
    replace HB := Lib.hid (HB.out.trans (hb.mono HB.out.size))
    clear hb
    have HnMr := Lib.hid hn
    clear hn
    go_upto_region 9 with fail
    obtain ⟨V14, hV14⟩ : ∃ V, V = V13.alloc (.cells #[.slice AnMr m cnMr, .int .i64 cap] 24) := ⟨_, rfl⟩
    obtain ⟨BnMrb, hBnMrb⟩ : ∃ B, B = V13.heap.size := ⟨_, rfl⟩
    have hb : Below V13.heap.size V13 V14 := by rw [hV14]; exact (Below.refl _ _).alloc (Nat.le_refl _) _
    have BnMr : Hid (Lies V14 BnMrb 24 #[.slice AnMr m cnMr, .int .i64 cap]) := Lib.hid (by rw [hV14, hBnMrb]; exact Lies.new _ _ _)
    rw [← hV14, ← hBnMrb]
    clear hV14 hBnMrb
    replace BN := Lib.hid (BN.out.below hb BN.out.lt)
    replace BX := Lib.hid (BX.out.below hb BX.out.lt)
    replace B1 := Lib.hid (B1.out.below hb B1.out.lt)
    replace B2 := Lib.hid (B2.out.below hb B2.out.lt)
    replace BnLw := Lib.hid (BnLw.out.below hb BnLw.out.lt)
    replace BnLr := Lib.hid (BnLr.out.below hb BnLr.out.lt)
    replace BnMw := Lib.hid (BnMw.out.below hb BnMw.out.lt)
    replace HN := Lib.hid (HN.out.below hb (Nat.le_refl _))
    replace HnLw := Lib.hid (HnLw.out.below hb (Nat.le_refl _))
    replace HnLr := Lib.hid (HnLr.out.below hb (Nat.le_refl _))
    replace HnMw := Lib.hid (HnMw.out.below hb (Nat.le_refl _))
    replace HnMr := Lib.hid (HnMr.out.below hb (Nat.le_refl _))
    replace HB := Lib.hid (HB.out.trans (hb.mono HB.out.size))
    clear hb
    have HC15 := Lib.hid (show Calls Try.prog 16 _ _ (GivesM nJ m cap eJ V14) from by
      rw [HnJ.out, HeJ.out]
      exact (wjoin_any l A m c cap (pa, pb) (qa, qb) V14 HM.out (by omega) HF9.out HN.out.any).mono fun _ _ h => h.m (by rw [join_len]; exact HM.out))
    obtain ⟨BNc0, BNc1⟩ := two_cells BN.out
    obtain ⟨BXc0, BXc1, BXc2, BXc3⟩ := four_cells BX.out
    go_wp2_with fail
    refine HC15.out.mono ?_
    rintro e V15 ⟨AnJw, cnJw, rfl, hn, hb⟩
    clear BNc0 BNc1 BXc0 BXc1 BXc2 BXc3 HC15
    replace BN := Lib.hid (BN.out.below hb BN.out.lt)
    replace BX := Lib.hid (BX.out.below hb BX.out.lt)
    replace B1 := Lib.hid (B1.out.below hb B1.out.lt)
    replace B2 := Lib.hid (B2.out.below hb B2.out.lt)
    replace BnLw := Lib.hid (BnLw.out.below hb BnLw.out.lt)
    replace BnLr := Lib.hid (BnLr.out.below hb BnLr.out.lt)
    replace BnMw := Lib.hid (BnMw.out.below hb BnMw.out.lt)
    replace BnMr := Lib.hid (BnMr.out.below hb BnMr.out.lt)
    replace HN := Lib.hid (HN.out.below hb (Nat.le_refl _))
    replace HnLw := Lib.hid (HnLw.out.below hb (Nat.le_refl _))
    replace HnLr := Lib.hid (HnLr.out.below hb (Nat.le_refl _))
    replace HnMw := Lib.hid (HnMw.out.below hb (Nat.le_refl _))
    replace HnMr := Lib.hid (HnMr.out.below hb (Nat.le_refl _))
    replace HB := Lib.hid (HB.out.trans (hb.mono HB.out.size))
    clear hb
    have HnJw := Lib.hid hn
    clear hn
    go_upto_region 10 with fail
    obtain ⟨V16, hV16⟩ : ∃ V, V = V15.alloc (.cells #[.slice AnJw m cnJw, .int .i64 cap] 24) := ⟨_, rfl⟩
    obtain ⟨BnJwb, hBnJwb⟩ : ∃ B, B = V15.heap.size := ⟨_, rfl⟩
    have hb : Below V15.heap.size V15 V16 := by rw [hV16]; exact (Below.refl _ _).alloc (Nat.le_refl _) _
    have BnJw : Hid (Lies V16 BnJwb 24 #[.slice AnJw m cnJw, .int .i64 cap]) := Lib.hid (by rw [hV16, hBnJwb]; exact Lies.new _ _ _)
    rw [← hV16, ← hBnJwb]
    clear hV16 hBnJwb
    replace BN := Lib.hid (BN.out.below hb BN.out.lt)
    replace BX := Lib.hid (BX.out.below hb BX.out.lt)
    replace B1 := Lib.hid (B1.out.below hb B1.out.lt)
    replace B2 := Lib.hid (B2.out.below hb B2.out.lt)
    replace BnLw := Lib.hid (BnLw.out.below hb BnLw.out.lt)
    replace BnLr := Lib.hid (BnLr.out.below hb BnLr.out.lt)
    replace BnMw := Lib.hid (BnMw.out.below hb BnMw.out.lt)
    replace BnMr := Lib.hid (BnMr.out.below hb BnMr.out.lt)
    replace HN := Lib.hid (HN.out.below hb (Nat.le_refl _))
    replace HnLw := Lib.hid (HnLw.out.below hb (Nat.le_refl _))
    replace HnLr := Lib.hid (HnLr.out.below hb (Nat.le_refl _))
    replace HnMw := Lib.hid (HnMw.out.below hb (Nat.le_refl _))
    replace HnMr := Lib.hid (HnMr.out.below hb (Nat.le_refl _))
    replace HnJw := Lib.hid (HnJw.out.below hb (Nat.le_refl _))
    replace HB := Lib.hid (HB.out.trans (hb.mono HB.out.size))
    clear hb
    have HC17 := Lib.hid (show Calls Try.prog 17 _ _ (GivesM nJ m cap eJ V16) from by
      rw [HnJ.out, HeJ.out]
      exact (rjoin_any l A m c cap (pa, pb) (qa, qb) V16 HM.out (by omega) HF9.out (fun g => g < w.heap.size) (fun g h => Nat.lt_of_lt_of_le h HB.out.size) HN.out).mono fun _ _ h => h.m (by rw [join_len]; exact HM.out))
    obtain ⟨BNc0, BNc1⟩ := two_cells BN.out
    obtain ⟨BXc0, BXc1, BXc2, BXc3⟩ := four_cells BX.out
    go_wp2_with fail
    refine HC17.out.mono ?_
    rintro e V17 ⟨AnJr, cnJr, rfl, hn, hb⟩
    clear BNc0 BNc1 BXc0 BXc1 BXc2 BXc3 HC17
    replace BN := Lib.hid (BN.out.below hb BN.out.lt)
    replace BX := Lib.hid (BX.out.below hb BX.out.lt)
    replace B1 := Lib.hid (B1.out.below hb B1.out.lt)
    replace B2 := Lib.hid (B2.out.below hb B2.out.lt)
    replace BnLw := Lib.hid (BnLw.out.below hb BnLw.out.lt)
    replace BnLr := Lib.hid (BnLr.out.below hb BnLr.out.lt)
    replace BnMw := Lib.hid (BnMw.out.below hb BnMw.out.lt)
    replace BnMr := Lib.hid (BnMr.out.below hb BnMr.out.lt)
    replace BnJw := Lib.hid (BnJw.out.below hb BnJw.out.lt)
    replace HN := Lib.hid (HN.out.below hb (Nat.le_refl _))
    replace HnLw := Lib.hid (HnLw.out.below hb (Nat.le_refl _))
    replace HnLr := Lib.hid (HnLr.out.below hb (Nat.le_refl _))
    replace HnMw := Lib.hid (HnMw.out.below hb (Nat.le_refl _))
    replace HnMr := Lib.hid (HnMr.out.below hb (Nat.le_refl _))
    replace HnJw := Lib.hid (HnJw.out.below hb (Nat.le_refl _))
    replace HB := Lib.hid (HB.out.trans (hb.mono HB.out.size))
    clear hb
    have HnJr := Lib.hid hn
    clear hn
    go_upto_region 11 with fail
    obtain ⟨V18, hV18⟩ : ∃ V, V = V17.alloc (.cells #[.slice AnJr m cnJr, .int .i64 cap] 24) := ⟨_, rfl⟩
    obtain ⟨BnJrb, hBnJrb⟩ : ∃ B, B = V17.heap.size := ⟨_, rfl⟩
    have hb : Below V17.heap.size V17 V18 := by rw [hV18]; exact (Below.refl _ _).alloc (Nat.le_refl _) _
    have BnJr : Hid (Lies V18 BnJrb 24 #[.slice AnJr m cnJr, .int .i64 cap]) := Lib.hid (by rw [hV18, hBnJrb]; exact Lies.new _ _ _)
    rw [← hV18, ← hBnJrb]
    clear hV18 hBnJrb
    replace BN := Lib.hid (BN.out.below hb BN.out.lt)
    replace BX := Lib.hid (BX.out.below hb BX.out.lt)
    replace B1 := Lib.hid (B1.out.below hb B1.out.lt)
    replace B2 := Lib.hid (B2.out.below hb B2.out.lt)
    replace BnLw := Lib.hid (BnLw.out.below hb BnLw.out.lt)
    replace BnLr := Lib.hid (BnLr.out.below hb BnLr.out.lt)
    replace BnMw := Lib.hid (BnMw.out.below hb BnMw.out.lt)
    replace BnMr := Lib.hid (BnMr.out.below hb BnMr.out.lt)
    replace BnJw := Lib.hid (BnJw.out.below hb BnJw.out.lt)
    replace HN := Lib.hid (HN.out.below hb (Nat.le_refl _))
    replace HnLw := Lib.hid (HnLw.out.below hb (Nat.le_refl _))
    replace HnLr := Lib.hid (HnLr.out.below hb (Nat.le_refl _))
    replace HnMw := Lib.hid (HnMw.out.below hb (Nat.le_refl _))
    replace HnMr := Lib.hid (HnMr.out.below hb (Nat.le_refl _))
    replace HnJw := Lib.hid (HnJw.out.below hb (Nat.le_refl _))
    replace HnJr := Lib.hid (HnJr.out.below hb (Nat.le_refl _))
    replace HB := Lib.hid (HB.out.trans (hb.mono HB.out.size))
    clear hb
    have HC19 := Lib.hid (HFX V18)
    go_wp2_with fail
    refine HC19.out.mono ?_
    rintro e V19 ⟨rfl, hb⟩
    clear  HC19
    replace BN := Lib.hid (BN.out.below hb BN.out.lt)
    replace BX := Lib.hid (BX.out.below hb BX.out.lt)
    replace B1 := Lib.hid (B1.out.below hb B1.out.lt)
    replace B2 := Lib.hid (B2.out.below hb B2.out.lt)
    replace BnLw := Lib.hid (BnLw.out.below hb BnLw.out.lt)
    replace BnLr := Lib.hid (BnLr.out.below hb BnLr.out.lt)
    replace BnMw := Lib.hid (BnMw.out.below hb BnMw.out.lt)
    replace BnMr := Lib.hid (BnMr.out.below hb BnMr.out.lt)
    replace BnJw := Lib.hid (BnJw.out.below hb BnJw.out.lt)
    replace BnJr := Lib.hid (BnJr.out.below hb BnJr.out.lt)
    replace HN := Lib.hid (HN.out.below hb (Nat.le_refl _))
    replace HnLw := Lib.hid (HnLw.out.below hb (Nat.le_refl _))
    replace HnLr := Lib.hid (HnLr.out.below hb (Nat.le_refl _))
    replace HnMw := Lib.hid (HnMw.out.below hb (Nat.le_refl _))
    replace HnMr := Lib.hid (HnMr.out.below hb (Nat.le_refl _))
    replace HnJw := Lib.hid (HnJw.out.below hb (Nat.le_refl _))
    replace HnJr := Lib.hid (HnJr.out.below hb (Nat.le_refl _))
    replace HB := Lib.hid (HB.out.trans (hb.mono HB.out.size))
    clear hb
    have hpq := port_eql ra rb ra rb
    simp only [beq_self_eq_true] at hpq
    have HC20 := Lib.hid (same_any nL AnLw AnLr m cnLw cnLr cap V19 (by rw [HnL.out, link_len]; exact HM.out) (by omega) HnLw.out.any HnLr.out.any)
    obtain ⟨B1c0, B1c1⟩ := two_cells B1.out
    obtain ⟨B2c0, B2c1⟩ := two_cells B2.out
    obtain ⟨BnLwc0, BnLwc1⟩ := two_cells BnLw.out
    obtain ⟨BnLrc0, BnLrc1⟩ := two_cells BnLr.out
    go_wp2_with fail
    refine HC20.out.mono ?_
    rintro e V20 ⟨rfl, hb⟩
    clear B1c0 B1c1 B2c0 B2c1 BnLwc0 BnLwc1 BnLrc0 BnLrc1 HC20
    replace BN := Lib.hid (BN.out.below hb BN.out.lt)
    replace BX := Lib.hid (BX.out.below hb BX.out.lt)
    replace B1 := Lib.hid (B1.out.below hb B1.out.lt)
    replace B2 := Lib.hid (B2.out.below hb B2.out.lt)
    replace BnLw := Lib.hid (BnLw.out.below hb BnLw.out.lt)
    replace BnLr := Lib.hid (BnLr.out.below hb BnLr.out.lt)
    replace BnMw := Lib.hid (BnMw.out.below hb BnMw.out.lt)
    replace BnMr := Lib.hid (BnMr.out.below hb BnMr.out.lt)
    replace BnJw := Lib.hid (BnJw.out.below hb BnJw.out.lt)
    replace BnJr := Lib.hid (BnJr.out.below hb BnJr.out.lt)
    replace HN := Lib.hid (HN.out.below hb (Nat.le_refl _))
    replace HnLw := Lib.hid (HnLw.out.below hb (Nat.le_refl _))
    replace HnLr := Lib.hid (HnLr.out.below hb (Nat.le_refl _))
    replace HnMw := Lib.hid (HnMw.out.below hb (Nat.le_refl _))
    replace HnMr := Lib.hid (HnMr.out.below hb (Nat.le_refl _))
    replace HnJw := Lib.hid (HnJw.out.below hb (Nat.le_refl _))
    replace HnJr := Lib.hid (HnJr.out.below hb (Nat.le_refl _))
    replace HB := Lib.hid (HB.out.trans (hb.mono HB.out.size))
    clear hb
    have HC21 := Lib.hid (same_any nM AnMw AnMr m cnMw cnMr cap V20 (by rw [HnM.out, move_len]; exact HM.out) (by omega) HnMw.out.any HnMr.out.any)
    obtain ⟨BnMwc0, BnMwc1⟩ := two_cells BnMw.out
    obtain ⟨BnMrc0, BnMrc1⟩ := two_cells BnMr.out
    go_wp2_with fail
    refine HC21.out.mono ?_
    rintro e V21 ⟨rfl, hb⟩
    clear BnMwc0 BnMwc1 BnMrc0 BnMrc1 HC21
    replace BN := Lib.hid (BN.out.below hb BN.out.lt)
    replace BX := Lib.hid (BX.out.below hb BX.out.lt)
    replace B1 := Lib.hid (B1.out.below hb B1.out.lt)
    replace B2 := Lib.hid (B2.out.below hb B2.out.lt)
    replace BnLw := Lib.hid (BnLw.out.below hb BnLw.out.lt)
    replace BnLr := Lib.hid (BnLr.out.below hb BnLr.out.lt)
    replace BnMw := Lib.hid (BnMw.out.below hb BnMw.out.lt)
    replace BnMr := Lib.hid (BnMr.out.below hb BnMr.out.lt)
    replace BnJw := Lib.hid (BnJw.out.below hb BnJw.out.lt)
    replace BnJr := Lib.hid (BnJr.out.below hb BnJr.out.lt)
    replace HN := Lib.hid (HN.out.below hb (Nat.le_refl _))
    replace HnLw := Lib.hid (HnLw.out.below hb (Nat.le_refl _))
    replace HnLr := Lib.hid (HnLr.out.below hb (Nat.le_refl _))
    replace HnMw := Lib.hid (HnMw.out.below hb (Nat.le_refl _))
    replace HnMr := Lib.hid (HnMr.out.below hb (Nat.le_refl _))
    replace HnJw := Lib.hid (HnJw.out.below hb (Nat.le_refl _))
    replace HnJr := Lib.hid (HnJr.out.below hb (Nat.le_refl _))
    replace HB := Lib.hid (HB.out.trans (hb.mono HB.out.size))
    clear hb
    have HC22 := Lib.hid (same_any nJ AnJw AnJr m cnJw cnJr cap V21 (by rw [HnJ.out, join_len]; exact HM.out) (by omega) HnJw.out.any HnJr.out.any)
    obtain ⟨BnJwc0, BnJwc1⟩ := two_cells BnJw.out
    obtain ⟨BnJrc0, BnJrc1⟩ := two_cells BnJr.out
    go_wp2_with fail
    refine HC22.out.mono ?_
    rintro e V22 ⟨rfl, hb⟩
    clear BnJwc0 BnJwc1 BnJrc0 BnJrc1 HC22
    replace BN := Lib.hid (BN.out.below hb BN.out.lt)
    replace BX := Lib.hid (BX.out.below hb BX.out.lt)
    replace B1 := Lib.hid (B1.out.below hb B1.out.lt)
    replace B2 := Lib.hid (B2.out.below hb B2.out.lt)
    replace BnLw := Lib.hid (BnLw.out.below hb BnLw.out.lt)
    replace BnLr := Lib.hid (BnLr.out.below hb BnLr.out.lt)
    replace BnMw := Lib.hid (BnMw.out.below hb BnMw.out.lt)
    replace BnMr := Lib.hid (BnMr.out.below hb BnMr.out.lt)
    replace BnJw := Lib.hid (BnJw.out.below hb BnJw.out.lt)
    replace BnJr := Lib.hid (BnJr.out.below hb BnJr.out.lt)
    replace HN := Lib.hid (HN.out.below hb (Nat.le_refl _))
    replace HnLw := Lib.hid (HnLw.out.below hb (Nat.le_refl _))
    replace HnLr := Lib.hid (HnLr.out.below hb (Nat.le_refl _))
    replace HnMw := Lib.hid (HnMw.out.below hb (Nat.le_refl _))
    replace HnMr := Lib.hid (HnMr.out.below hb (Nat.le_refl _))
    replace HnJw := Lib.hid (HnJw.out.below hb (Nat.le_refl _))
    replace HnJr := Lib.hid (HnJr.out.below hb (Nat.le_refl _))
    replace HB := Lib.hid (HB.out.trans (hb.mono HB.out.size))
    clear hb
    go_wp2_with fail
    go_ret
    exact ⟨rfl, HB.out⟩
end Lx
end Go.Proofs.Ytceblpjlklogpaa
