/-
  The law WireLinks, walked.
-/
import Derived.Test.YtceblpjlklogpaaC10
namespace Go.Proofs.Ytceblpjlklogpaa
open Go Go.RowKit
namespace Lx
set_option maxRecDepth 100000
set_option maxHeartbeats 40000000 in
theorem wireLinks_law (HFX : ∀ V : World, Calls Try.prog 9 #[] V fun e w' => e = .returned (.bool true) ∧ Below V.heap.size V w') (l : List Nd) (A : Option Addr) (m c : Nat) (cap pa pb qa qb : Int) (w : World) (hm : m = l.length) (hm2 : m ≤ 140737488351232) (hN : NdsIn w AnyB l A) :
    Calls Try.prog 5 #[.agg #[.slice A m c, .int .i64 cap], .agg #[.int .i64 pa, .int .i64 pb, .int .i64 qa, .int .i64 qb]] w fun e w' => e = .returned (.bool true) ∧ Below w.heap.size w w' := by
  obtain ⟨W, hW⟩ : ∃ W, W = ((w.alloc (.cells #[.slice A m c, .int .i64 cap] 24)).alloc (.cells #[.int .i64 pa, .int .i64 pb, .int .i64 qa, .int .i64 qb] 28)) := ⟨_, rfl⟩
  have hb : Below w.heap.size w W := by rw [hW]; exact ((Below.refl _ w).alloc (Nat.le_refl _) _).alloc (by simp) _
  have BN : Hid (Lies W w.heap.size 24 #[.slice A m c, .int .i64 cap]) := Lib.hid (by rw [hW]; exact (Lies.new _ _ _).old _)
  have BX : Hid (Lies W (w.heap.size + 1) 28 #[.int .i64 pa, .int .i64 pb, .int .i64 qa, .int .i64 qb]) := Lib.hid (by rw [hW]; simpa using Lies.new (w.alloc (.cells #[.slice A m c, .int .i64 cap] 24)) 28 #[.int .i64 pa, .int .i64 pb, .int .i64 qa, .int .i64 qb])
  have HN : Hid (NdsIn W (fun g => g < w.heap.size) l A) := Lib.hid (hN.keep (fun q j _ hlt => ⟨hb.cell (p := ⟨q, j, none⟩) hlt, hlt⟩))
  have HB := Lib.hid hb
  have HM := Lib.hid hm
  clear hN hm hb
  go_enter Try.func5, Try.ntmps5
  go_upto_region 1 with fail
  rw [← hW]
  clear hW
  have HC1 := Lib.hid (HFX W)
  go_wp2_with fail
  refine HC1.out.mono ?_
  rintro e V1 ⟨rfl, hb⟩
  clear  HC1
  replace BN := Lib.hid (BN.out.below hb BN.out.lt)
  replace BX := Lib.hid (BX.out.below hb BX.out.lt)
  replace HN := Lib.hid (HN.out.below hb (Nat.le_refl _))
  replace HB := Lib.hid (HB.out.trans (hb.mono HB.out.size))
  clear hb
  have HC2 := Lib.hid (small_any l A m c cap 150 V1 HM.out hm2 HN.out.any)
  obtain ⟨BNc0, BNc1⟩ := two_cells BN.out
  go_wp2_with fail
  refine HC2.out.mono ?_
  rintro e V2 ⟨rfl, hb⟩
  clear BNc0 BNc1 HC2
  replace BN := Lib.hid (BN.out.below hb BN.out.lt)
  replace BX := Lib.hid (BX.out.below hb BX.out.lt)
  replace HN := Lib.hid (HN.out.below hb (Nat.le_refl _))
  replace HB := Lib.hid (HB.out.trans (hb.mono HB.out.size))
  clear hb
  cases hs : smallV l 150 with
  | false =>
    have HC3 := Lib.hid (HFX V2)
    go_wp2_with fail
    refine HC3.out.mono ?_
    rintro e V3 ⟨rfl, hb⟩
    clear  HC3
    replace BN := Lib.hid (BN.out.below hb BN.out.lt)
    replace BX := Lib.hid (BX.out.below hb BX.out.lt)
    replace HN := Lib.hid (HN.out.below hb (Nat.le_refl _))
    replace HB := Lib.hid (HB.out.trans (hb.mono HB.out.size))
    clear hb
    go_wp2_with fail
    go_ret
    exact ⟨rfl, HB.out⟩
  | true =>
    obtain ⟨hm150', hfew, h12⟩ := small_few hs
    have hm150 : m ≤ 150 := by have := HM.out; omega
    have HF9 := Lib.hid hfew
    have H12 := Lib.hid h12
    clear hs hm150' hfew h12
    by_cases hc : hasV l (pa, pb) = true ∧ hasV l (qa, qb) = true ∧ ((pa, pb) : Int × Int) ≠ (qa, qb)
    · skip
      obtain ⟨h1, h2, h3⟩ := hc
      obtain ⟨nL, hnL⟩ : ∃ q, q = setNV (setNV l (pa, pb) (qa, qb)) (qa, qb) (pa, pb) := ⟨_, rfl⟩
      have HnL := Lib.hid hnL
      have HE := Lib.hid (show linkNV l (pa, pb) (qa, qb) = (nL, 0) by rw [hnL]; exact link_ok h1 h2 h3)
      have HE1 := Lib.hid (show peerNV nL (pa, pb) = ((qa, qb), 0) by rw [hnL, peer_ok (by rw [has2]; exact h1), to2 h1 h2 h1, if_neg h3, if_pos rfl])
      have HE2 := Lib.hid (show peerNV nL (qa, qb) = ((pa, pb), 0) by rw [hnL, peer_ok (by rw [has2]; exact h2), to2 h1 h2 h2, if_pos rfl])
      have HE3 := Lib.hid (show linkNV nL (qa, qb) (pa, pb) = (nL, 0) by rw [hnL]; exact link_again h1 h2 h3)
      have HO9 := Lib.hid (show othersN l nL [(pa, pb), (qa, qb)] by rw [hnL]; exact others2 h1 h2)
      have HML := Lib.hid (show m = nL.length by rw [hnL, len2]; exact HM.out)
      have HFL := Lib.hid (show Few9 nL by have h := few_link (p := (pa, pb)) (q := (qa, qb)) HF9.out; rw [HE.out] at h; exact h)
      clear hnL h1 h2 h3
      have HC4 := Lib.hid (show Calls Try.prog 12 _ _ (GivesM nL m cap 0 V2) from by
        have h := wlink_any l A m c cap (pa, pb) (qa, qb) V2 HM.out (by omega) HF9.out HN.out.any
        rw [HE.out] at h
        exact h.mono fun _ _ h => h.m HML.out)
      obtain ⟨BNc0, BNc1⟩ := two_cells BN.out
      obtain ⟨BXc0, BXc1, BXc2, BXc3⟩ := four_cells BX.out
      go_wp2_with fail
      refine HC4.out.mono ?_
      rintro e V4 ⟨A5, c5, rfl, hn, hb⟩
      clear BNc0 BNc1 BXc0 BXc1 BXc2 BXc3 HC4
      replace BN := Lib.hid (BN.out.below hb BN.out.lt)
      replace BX := Lib.hid (BX.out.below hb BX.out.lt)
      replace HN := Lib.hid (HN.out.below hb (Nat.le_refl _))
      replace HB := Lib.hid (HB.out.trans (hb.mono HB.out.size))
      clear hb
      have H5 := Lib.hid hn
      clear hn
      go_upto_region 4 with fail
      obtain ⟨V5, hV5⟩ : ∃ V, V = V4.alloc (.cells #[.slice A5 m c5, .int .i64 cap] 24) := ⟨_, rfl⟩
      obtain ⟨B5b, hB5b⟩ : ∃ B, B = V4.heap.size := ⟨_, rfl⟩
      have hb : Below V4.heap.size V4 V5 := by rw [hV5]; exact (Below.refl _ _).alloc (Nat.le_refl _) _
      have B5 : Hid (Lies V5 B5b 24 #[.slice A5 m c5, .int .i64 cap]) := Lib.hid (by rw [hV5, hB5b]; exact Lies.new _ _ _)
      rw [← hV5, ← hB5b]
      clear hV5 hB5b
      replace BN := Lib.hid (BN.out.below hb BN.out.lt)
      replace BX := Lib.hid (BX.out.below hb BX.out.lt)
      replace HN := Lib.hid (HN.out.below hb (Nat.le_refl _))
      replace H5 := Lib.hid (H5.out.below hb (Nat.le_refl _))
      replace HB := Lib.hid (HB.out.trans (hb.mono HB.out.size))
      clear hb
      have HC6 := Lib.hid (show Calls Try.prog 10 _ _ (fun e w' => e = .returned (.tuple #[.agg #[.int .i64 qa, .int .i64 qb], .int .i64 0]) ∧ Below V5.heap.size V5 w') from by
        have h := wPeer_any nL A5 m c5 cap (pa, pb) V5 HML.out H5.out.any
        rw [HE1.out] at h
        exact h)
      obtain ⟨BXc0, BXc1, BXc2, BXc3⟩ := four_cells BX.out
      obtain ⟨B5c0, B5c1⟩ := two_cells B5.out
      go_wp2_with fail
      refine HC6.out.mono ?_
      rintro e V6 ⟨rfl, hb⟩
      clear BXc0 BXc1 BXc2 BXc3 B5c0 B5c1 HC6
      replace BN := Lib.hid (BN.out.below hb BN.out.lt)
      replace BX := Lib.hid (BX.out.below hb BX.out.lt)
      replace B5 := Lib.hid (B5.out.below hb B5.out.lt)
      replace HN := Lib.hid (HN.out.below hb (Nat.le_refl _))
      replace H5 := Lib.hid (H5.out.below hb (Nat.le_refl _))
      replace HB := Lib.hid (HB.out.trans (hb.mono HB.out.size))
      clear hb
      go_upto_region 7 with fail
      obtain ⟨V7, hV7⟩ : ∃ V, V = V6.alloc (.cells #[.int .i64 qa, .int .i64 qb] 26) := ⟨_, rfl⟩
      obtain ⟨B7b, hB7b⟩ : ∃ B, B = V6.heap.size := ⟨_, rfl⟩
      have hb : Below V6.heap.size V6 V7 := by rw [hV7]; exact (Below.refl _ _).alloc (Nat.le_refl _) _
      have B7 : Hid (Lies V7 B7b 26 #[.int .i64 qa, .int .i64 qb]) := Lib.hid (by rw [hV7, hB7b]; exact Lies.new _ _ _)
      rw [← hV7, ← hB7b]
      clear hV7 hB7b
      replace BN := Lib.hid (BN.out.below hb BN.out.lt)
      replace BX := Lib.hid (BX.out.below hb BX.out.lt)
      replace B5 := Lib.hid (B5.out.below hb B5.out.lt)
      replace HN := Lib.hid (HN.out.below hb (Nat.le_refl _))
      replace H5 := Lib.hid (H5.out.below hb (Nat.le_refl _))
      replace HB := Lib.hid (HB.out.trans (hb.mono HB.out.size))
      clear hb
      have HC8 := Lib.hid (show Calls Try.prog 10 _ _ (fun e w' => e = .returned (.tuple #[.agg #[.int .i64 pa, .int .i64 pb], .int .i64 0]) ∧ Below V7.heap.size V7 w') from by
        have h := wPeer_any nL A5 m c5 cap (qa, qb) V7 HML.out H5.out.any
        rw [HE2.out] at h
        exact h)
      obtain ⟨BXc0, BXc1, BXc2, BXc3⟩ := four_cells BX.out
      obtain ⟨B5c0, B5c1⟩ := two_cells B5.out
      go_wp2_with fail
      refine HC8.out.mono ?_
      rintro e V8 ⟨rfl, hb⟩
      clear BXc0 BXc1 BXc2 BXc3 B5c0 B5c1 HC8
      replace BN := Lib.hid (BN.out.below hb BN.out.lt)
      replace BX := Lib.hid (BX.out.below hb BX.out.lt)
      replace B5 := Lib.hid (B5.out.below hb B5.out.lt)
      replace B7 := Lib.hid (B7.out.below hb B7.out.lt)
      replace HN := Lib.hid (HN.out.below hb (Nat.le_refl _))
      replace H5 := Lib.hid (H5.out.below hb (Nat.le_refl _))
      replace HB := Lib.hid (HB.out.trans (hb.mono HB.out.size))
      clear hb
      go_upto_region 8 with fail
      obtain ⟨V9, hV9⟩ : ∃ V, V = V8.alloc (.cells #[.int .i64 pa, .int .i64 pb] 26) := ⟨_, rfl⟩
      obtain ⟨B9b, hB9b⟩ : ∃ B, B = V8.heap.size := ⟨_, rfl⟩
      have hb : Below V8.heap.size V8 V9 := by rw [hV9]; exact (Below.refl _ _).alloc (Nat.le_refl _) _
      have B9 : Hid (Lies V9 B9b 26 #[.int .i64 pa, .int .i64 pb]) := Lib.hid (by rw [hV9, hB9b]; exact Lies.new _ _ _)
      rw [← hV9, ← hB9b]
      clear hV9 hB9b
      replace BN := Lib.hid (BN.out.below hb BN.out.lt)
      replace BX := Lib.hid (BX.out.below hb BX.out.lt)
      replace B5 := Lib.hid (B5.out.below hb B5.out.lt)
      replace B7 := Lib.hid (B7.out.below hb B7.out.lt)
      replace HN := Lib.hid (HN.out.below hb (Nat.le_refl _))
      replace H5 := Lib.hid (H5.out.below hb (Nat.le_refl _))
      replace HB := Lib.hid (HB.out.trans (hb.mono HB.out.size))
      clear hb
      have HC10 := Lib.hid (show Calls Try.prog 12 _ _ (GivesM nL m cap 0 V9) from by
        have h := wlink_any nL A5 m c5 cap (qa, qb) (pa, pb) V9 HML.out (by omega) HFL.out H5.out.any
        rw [HE3.out] at h
        exact h.mono fun _ _ h => h.m HML.out)
      obtain ⟨BXc0, BXc1, BXc2, BXc3⟩ := four_cells BX.out
      obtain ⟨B5c0, B5c1⟩ := two_cells B5.out
      go_wp2_with fail
      refine HC10.out.mono ?_
      rintro e V10 ⟨A11, c11, rfl, hn, hb⟩
      clear BXc0 BXc1 BXc2 BXc3 B5c0 B5c1 HC10
      replace BN := Lib.hid (BN.out.below hb BN.out.lt)
      replace BX := Lib.hid (BX.out.below hb BX.out.lt)
      replace B5 := Lib.hid (B5.out.below hb B5.out.lt)
      replace B7 := Lib.hid (B7.out.below hb B7.out.lt)
      replace B9 := Lib.hid (B9.out.below hb B9.out.lt)
      replace HN := Lib.hid (HN.out.below hb (Nat.le_refl _))
      replace H5 := Lib.hid (H5.out.below hb (Nat.le_refl _))
      replace HB := Lib.hid (HB.out.trans (hb.mono HB.out.size))
      clear hb
      have H11 := Lib.hid hn
      clear hn
      go_upto_region 9 with fail
      obtain ⟨V11, hV11⟩ : ∃ V, V = V10.alloc (.cells #[.slice A11 m c11, .int .i64 cap] 24) := ⟨_, rfl⟩
      obtain ⟨B11b, hB11b⟩ : ∃ B, B = V10.heap.size := ⟨_, rfl⟩
      have hb : Below V10.heap.size V10 V11 := by rw [hV11]; exact (Below.refl _ _).alloc (Nat.le_refl _) _
      have B11 : Hid (Lies V11 B11b 24 #[.slice A11 m c11, .int .i64 cap]) := Lib.hid (by rw [hV11, hB11b]; exact Lies.new _ _ _)
      rw [← hV11, ← hB11b]
      clear hV11 hB11b
      replace BN := Lib.hid (BN.out.below hb BN.out.lt)
      replace BX := Lib.hid (BX.out.below hb BX.out.lt)
      replace B5 := Lib.hid (B5.out.below hb B5.out.lt)
      replace B7 := Lib.hid (B7.out.below hb B7.out.lt)
      replace B9 := Lib.hid (B9.out.below hb B9.out.lt)
      replace HN := Lib.hid (HN.out.below hb (Nat.le_refl _))
      replace H5 := Lib.hid (H5.out.below hb (Nat.le_refl _))
      replace H11 := Lib.hid (H11.out.below hb (Nat.le_refl _))
      replace HB := Lib.hid (HB.out.trans (hb.mono HB.out.size))
      clear hb
      have hq1 := port_eql qa qb qa qb
      have hq2 := port_eql pa pb pa pb
      simp only [beq_self_eq_true] at hq1 hq2
      have HC12 := Lib.hid (same_any nL A11 A5 m c11 c5 cap V11 HML.out (by omega) H11.out.any H5.out.any)
      obtain ⟨BXc0, BXc1, BXc2, BXc3⟩ := four_cells BX.out
      obtain ⟨B5c0, B5c1⟩ := two_cells B5.out
      obtain ⟨B7c0, B7c1⟩ := two_cells B7.out
      obtain ⟨B9c0, B9c1⟩ := two_cells B9.out
      obtain ⟨B11c0, B11c1⟩ := two_cells B11.out
      go_wp2_with fail
      refine HC12.out.mono ?_
      rintro e V12 ⟨rfl, hb⟩
      clear BXc0 BXc1 BXc2 BXc3 B5c0 B5c1 B7c0 B7c1 B9c0 B9c1 B11c0 B11c1 HC12
      replace BN := Lib.hid (BN.out.below hb BN.out.lt)
      replace BX := Lib.hid (BX.out.below hb BX.out.lt)
      replace B5 := Lib.hid (B5.out.below hb B5.out.lt)
      replace B7 := Lib.hid (B7.out.below hb B7.out.lt)
      replace B9 := Lib.hid (B9.out.below hb B9.out.lt)
      replace B11 := Lib.hid (B11.out.below hb B11.out.lt)
      replace HN := Lib.hid (HN.out.below hb (Nat.le_refl _))
      replace H5 := Lib.hid (H5.out.below hb (Nat.le_refl _))
      replace H11 := Lib.hid (H11.out.below hb (Nat.le_refl _))
      replace HB := Lib.hid (HB.out.trans (hb.mono HB.out.size))
      clear hb
      have hAl : Below V12.heap.size V12 (V12.alloc (.cells #[.int .i64 pa, .int .i64 pb, .int .i64 qa, .int .i64 qb] 26)) := (Below.refl _ _).alloc (Nat.le_refl _) _
      have HC13 := Lib.hid (others_any l nL A A5 m c c5 cap cap [(pa, pb), (qa, qb)] (some ⟨V12.heap.size, 0, none⟩) 2 2 (V12.alloc (.cells #[.int .i64 pa, .int .i64 pb, .int .i64 qa, .int .i64 qb] 26)) HM.out (by omega) (fun i hi => by have h9 := H12.out i (by have := HM.out; omega); omega) HO9.out (HN.out.any.below hAl (Nat.le_refl _)) (H5.out.any.below hAl (Nat.le_refl _)) rfl (by omega) (to_two (Lies.new _ _ _)))
      have HAL := Lib.hid hAl
      clear hAl
      obtain ⟨BNc0, BNc1⟩ := two_cells BN.out
      obtain ⟨BXc0, BXc1, BXc2, BXc3⟩ := four_cells BX.out
      obtain ⟨B5c0, B5c1⟩ := two_cells B5.out
      go_wp2_with fail
      refine HC13.out.mono ?_
      rintro e V13 ⟨rfl, hb9⟩
      have hb := HAL.out.trans (hb9.mono HAL.out.size)
      clear BNc0 BNc1 BXc0 BXc1 BXc2 BXc3 B5c0 B5c1 HC13 hb9 HAL
      replace BN := Lib.hid (BN.out.below hb BN.out.lt)
      replace BX := Lib.hid (BX.out.below hb BX.out.lt)
      replace B5 := Lib.hid (B5.out.below hb B5.out.lt)
      replace B7 := Lib.hid (B7.out.below hb B7.out.lt)
      replace B9 := Lib.hid (B9.out.below hb B9.out.lt)
      replace B11 := Lib.hid (B11.out.below hb B11.out.lt)
      replace HN := Lib.hid (HN.out.below hb (Nat.le_refl _))
      replace H5 := Lib.hid (H5.out.below hb (Nat.le_refl _))
      replace H11 := Lib.hid (H11.out.below hb (Nat.le_refl _))
      replace HB := Lib.hid (HB.out.trans (hb.mono HB.out.size))
      clear hb
      go_wp2_with fail
      go_ret
      exact ⟨rfl, HB.out⟩
    · skip
      have HE := Lib.hid (none_link hc).1
      clear hc
      have HC14 := Lib.hid (show Calls Try.prog 12 _ _ (GivesM l m cap 130 V2) from by
        have h := wlink_any l A m c cap (pa, pb) (qa, qb) V2 HM.out (by omega) HF9.out HN.out.any
        rw [HE.out] at h
        exact h.mono fun _ _ h => h.m HM.out)
      obtain ⟨BNc0, BNc1⟩ := two_cells BN.out
      obtain ⟨BXc0, BXc1, BXc2, BXc3⟩ := four_cells BX.out
      go_wp2_with fail
      refine HC14.out.mono ?_
      rintro e V14 ⟨A5, c5, rfl, hn, hb⟩
      clear BNc0 BNc1 BXc0 BXc1 BXc2 BXc3 HC14
      replace BN := Lib.hid (BN.out.below hb BN.out.lt)
      replace BX := Lib.hid (BX.out.below hb BX.out.lt)
      replace HN := Lib.hid (HN.out.below hb (Nat.le_refl _))
      replace HB := Lib.hid (HB.out.trans (hb.mono HB.out.size))
      clear hb
      have H5 := Lib.hid hn
      clear hn
      go_upto_region 4 with fail
      obtain ⟨V15, hV15⟩ : ∃ V, V = V14.alloc (.cells #[.slice A5 m c5, .int .i64 cap] 24) := ⟨_, rfl⟩
      obtain ⟨B5b, hB5b⟩ : ∃ B, B = V14.heap.size := ⟨_, rfl⟩
      have hb : Below V14.heap.size V14 V15 := by rw [hV15]; exact (Below.refl _ _).alloc (Nat.le_refl _) _
      have B5 : Hid (Lies V15 B5b 24 #[.slice A5 m c5, .int .i64 cap]) := Lib.hid (by rw [hV15, hB5b]; exact Lies.new _ _ _)
      rw [← hV15, ← hB5b]
      clear hV15 hB5b
      replace BN := Lib.hid (BN.out.below hb BN.out.lt)
      replace BX := Lib.hid (BX.out.below hb BX.out.lt)
      replace HN := Lib.hid (HN.out.below hb (Nat.le_refl _))
      replace H5 := Lib.hid (H5.out.below hb (Nat.le_refl _))
      replace HB := Lib.hid (HB.out.trans (hb.mono HB.out.size))
      clear hb
      have HC16 := Lib.hid (same_any l A5 A m c5 c cap V15 HM.out (by omega) H5.out.any HN.out.any)
      obtain ⟨BNc0, BNc1⟩ := two_cells BN.out
      obtain ⟨B5c0, B5c1⟩ := two_cells B5.out
      go_wp2_with fail
      refine HC16.out.mono ?_
      rintro e V16 ⟨rfl, hb⟩
      clear BNc0 BNc1 B5c0 B5c1 HC16
      replace BN := Lib.hid (BN.out.below hb BN.out.lt)
      replace BX := Lib.hid (BX.out.below hb BX.out.lt)
      replace B5 := Lib.hid (B5.out.below hb B5.out.lt)
      replace HN := Lib.hid (HN.out.below hb (Nat.le_refl _))
      replace H5 := Lib.hid (H5.out.below hb (Nat.le_refl _))
      replace HB := Lib.hid (HB.out.trans (hb.mono HB.out.size))
      clear hb
      go_wp2_with fail
      go_ret
      exact ⟨rfl, HB.out⟩
end Lx
end Go.Proofs.Ytceblpjlklogpaa
