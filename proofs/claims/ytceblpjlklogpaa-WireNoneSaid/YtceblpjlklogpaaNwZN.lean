/-
  The law WireNone, walked.
-/
import Derived.Test.YtceblpjlklogpaaC10
namespace Go.Proofs.Ytceblpjlklogpaa
open Go Go.RowKit
namespace Lx
set_option maxRecDepth 100000
set_option maxHeartbeats 40000000 in
theorem wireNone_law (HFX : ∀ V : World, Calls Try.prog 9 #[] V fun e w' => e = .returned (.bool true) ∧ Below V.heap.size V w') (l : List Nd) (A : Option Addr) (m c : Nat) (cap pa pb qa qb : Int) (w : World) (hm : m = l.length) (hm2 : m ≤ 140737488351232) (hN : NdsIn w AnyB l A) :
    Calls Try.prog 7 #[.agg #[.slice A m c, .int .i64 cap], .agg #[.int .i64 pa, .int .i64 pb, .int .i64 qa, .int .i64 qb]] w fun e w' => e = .returned (.bool true) ∧ Below w.heap.size w w' := by
  obtain ⟨W, hW⟩ : ∃ W, W = ((w.alloc (.cells #[.slice A m c, .int .i64 cap] 24)).alloc (.cells #[.int .i64 pa, .int .i64 pb, .int .i64 qa, .int .i64 qb] 28)) := ⟨_, rfl⟩
  have hb : Below w.heap.size w W := by rw [hW]; exact ((Below.refl _ w).alloc (Nat.le_refl _) _).alloc (by simp) _
  have BN : Hid (Lies W w.heap.size 24 #[.slice A m c, .int .i64 cap]) := Lib.hid (by rw [hW]; exact (Lies.new _ _ _).old _)
  have BX : Hid (Lies W (w.heap.size + 1) 28 #[.int .i64 pa, .int .i64 pb, .int .i64 qa, .int .i64 qb]) := Lib.hid (by rw [hW]; simpa using Lies.new (w.alloc (.cells #[.slice A m c, .int .i64 cap] 24)) 28 #[.int .i64 pa, .int .i64 pb, .int .i64 qa, .int .i64 qb])
  have HN : Hid (NdsIn W (fun g => g < w.heap.size) l A) := Lib.hid (hN.keep (fun q j _ hlt => ⟨hb.cell (p := ⟨q, j, none⟩) hlt, hlt⟩))
  have HB := Lib.hid hb
  have HM := Lib.hid hm
  clear hN hm hb
  go_enter Try.func7, Try.ntmps7
  go_upto_region 1 with fail
  rw [← hW]
  clear hW
  have HC1 := Lib.hid (HFX W)
  go_wp2_with fail
  refine HC1.out.mono ?_
  rintro e V1 ⟨rfl, hb⟩
  clear  HC1
  replace BN := Lib.hid (BN.out.below hb BN.out.lt)
  replace BX := Lib.hid (BX.out.below hb BX.out.lt)
  replace HN := Lib.hid (HN.out.below hb (Nat.le_refl _))
  replace HB := Lib.hid (HB.out.trans (hb.mono HB.out.size))
  clear hb
  have HC2 := Lib.hid (small_any l A m c cap 150 V1 HM.out hm2 HN.out.any)
  obtain ⟨BNc0, BNc1⟩ := two_cells BN.out
  go_wp2_with fail
  refine HC2.out.mono ?_
  rintro e V2 ⟨rfl, hb⟩
  clear BNc0 BNc1 HC2
  replace BN := Lib.hid (BN.out.below hb BN.out.lt)
  replace BX := Lib.hid (BX.out.below hb BX.out.lt)
  replace HN := Lib.hid (HN.out.below hb (Nat.le_refl _))
  replace HB := Lib.hid (HB.out.trans (hb.mono HB.out.size))
  clear hb
  cases hs : smallV l 150 with
  | false =>
    have HC3 := Lib.hid (HFX V2)
    go_wp2_with fail
    refine HC3.out.mono ?_
    rintro e V3 ⟨rfl, hb⟩
    clear  HC3
    replace BN := Lib.hid (BN.out.below hb BN.out.lt)
    replace BX := Lib.hid (BX.out.below hb BX.out.lt)
    replace HN := Lib.hid (HN.out.below hb (Nat.le_refl _))
    replace HB := Lib.hid (HB.out.trans (hb.mono HB.out.size))
    clear hb
    go_wp2_with fail
    go_ret
    exact ⟨rfl, HB.out⟩
  | true =>
    obtain ⟨hm150', hfew, h12⟩ := small_few hs
    have hm150 : m ≤ 150 := by have := HM.out; omega
    have HF9 := Lib.hid hfew
    have H12 := Lib.hid h12
    clear hs hm150' hfew h12
    obtain ⟨ra, hra⟩ : ∃ q, q = (peerNV l (pa, pb)).1.1 := ⟨_, rfl⟩
    have Hra := Lib.hid hra
    clear hra
    obtain ⟨rb, hrb⟩ : ∃ q, q = (peerNV l (pa, pb)).1.2 := ⟨_, rfl⟩
    have Hrb := Lib.hid hrb
    clear hrb
    obtain ⟨re, hre⟩ : ∃ q, q = (peerNV l (pa, pb)).2 := ⟨_, rfl⟩
    have Hre := Lib.hid hre
    clear hre
    obtain ⟨nL, hnL⟩ : ∃ q, q = (linkNV l (pa, pb) (qa, qb)).1 := ⟨_, rfl⟩
    have HnL := Lib.hid hnL
    clear hnL
    obtain ⟨eL, heL⟩ : ∃ q, q = (linkNV l (pa, pb) (qa, qb)).2 := ⟨_, rfl⟩
    have HeL := Lib.hid heL
    clear heL
    obtain ⟨nM, hnM⟩ : ∃ q, q = (moveNV l (pa, pb) (qa, qb)).1 := ⟨_, rfl⟩
    have HnM := Lib.hid hnM
    clear hnM
    obtain ⟨eM, heM⟩ : ∃ q, q = (moveNV l (pa, pb) (qa, qb)).2 := ⟨_, rfl⟩
    have HeM := Lib.hid heM
    clear heM
    obtain ⟨nJ, hnJ⟩ : ∃ q, q = (joinNV l (pa, pb) (qa, qb)).1 := ⟨_, rfl⟩
    have HnJ := Lib.hid hnJ
    clear hnJ
    obtain ⟨eJ, heJ⟩ : ∃ q, q = (joinNV l (pa, pb) (qa, qb)).2 := ⟨_, rfl⟩
    have HeJ := Lib.hid heJ
    clear heJ
    obtain ⟨hv, hhv⟩ : ∃ f : Int → Int → Bool, ∀ a b, f a b = hasV l (a, b) := ⟨_, fun _ _ => rfl⟩
    have HHV := Lib.hid hhv
    clear hhv
    obtain ⟨BNc0, BNc1⟩ := two_cells BN.out
    obtain ⟨BXc0, BXc1, BXc2, BXc3⟩ := four_cells BX.out
    replace BNc0 := Abv.cell BNc0
    replace BNc1 := Abv.cell BNc1
    replace BXc0 := Abv.cell BXc0
    replace BXc1 := Abv.cell BXc1
    replace BXc2 := Abv.cell BXc2
    replace BXc3 := Abv.cell BXc3
    have HA1 : ∀ (V : Abv V2) (a b : Int), Calls Try.prog 20 #[.agg #[.slice A m c, .int .i64 cap], .agg #[.int .i64 a, .int .i64 b]] V.1 fun e w' => e = .returned (.bool (hv a b)) ∧ Below V.1.heap.size V.1 w' := fun V a b => by
      rw [HHV.out]
      exact has_any l A m c cap a b V.1 HM.out (HN.out.any.below V.2 (Nat.le_refl _))
    go_upto_region 3 with fail
    refine region_calm (by kernel_rfl) (by kernel_rfl) ?_
    repeat (go_big_quiet_step (exact calm_of (HA1 _ _ _)))
    refine wpQuiet_nil ?_
    rintro _ ⟨V, rfl⟩
    obtain ⟨U3, hb⟩ := V
    dsimp only
    obtain ⟨hp, hhp⟩ : ∃ q, q = hv pa pb := ⟨_, rfl⟩
    obtain ⟨hq, hhq⟩ : ∃ q, q = hv qa qb := ⟨_, rfl⟩
    have HHP := Lib.hid (hhp.trans (HHV.out pa pb))
    have HHQ := Lib.hid (hhq.trans (HHV.out qa qb))
    rw [← hhp, ← hhq]
    clear hhp hhq HHV
    clear BNc0 BNc1 BXc0 BXc1 BXc2 BXc3 HA1
    replace BN := Lib.hid (BN.out.below hb BN.out.lt)
    replace BX := Lib.hid (BX.out.below hb BX.out.lt)
    replace HN := Lib.hid (HN.out.below hb (Nat.le_refl _))
    replace HB := Lib.hid (HB.out.trans (hb.mono HB.out.size))
    clear hb
    have HC4 := Lib.hid (by
      have h := wPeer_any l A m c cap (pa, pb) U3 HM.out HN.out.any
      rw [← Hra.out, ← Hrb.out, ← Hre.out] at h
      exact h)
    obtain ⟨BNc0, BNc1⟩ := two_cells BN.out
    obtain ⟨BXc0, BXc1, BXc2, BXc3⟩ := four_cells BX.out
    go_wp2_with fail
    refine HC4.out.mono ?_
    rintro e V4 ⟨rfl, hb⟩
    clear BNc0 BNc1 BXc0 BXc1 BXc2 BXc3 HC4
    replace BN := Lib.hid (BN.out.below hb BN.out.lt)
    replace BX := Lib.hid (BX.out.below hb BX.out.lt)
    replace HN := Lib.hid (HN.out.below hb (Nat.le_refl _))
    replace HB := Lib.hid (HB.out.trans (hb.mono HB.out.size))
    clear hb
    go_upto_region 5 with fail
    obtain ⟨V5, hV5⟩ : ∃ V, V = V4.alloc (.cells #[.int .i64 ra, .int .i64 rb] 26) := ⟨_, rfl⟩
    obtain ⟨B7b, hB7b⟩ : ∃ B, B = V4.heap.size := ⟨_, rfl⟩
    have hb : Below V4.heap.size V4 V5 := by rw [hV5]; exact (Below.refl _ _).alloc (Nat.le_refl _) _
    have B7 : Hid (Lies V5 B7b 26 #[.int .i64 ra, .int .i64 rb]) := Lib.hid (by rw [hV5, hB7b]; exact Lies.new _ _ _)
    rw [← hV5, ← hB7b]
    clear hV5 hB7b
    replace BN := Lib.hid (BN.out.below hb BN.out.lt)
    replace BX := Lib.hid (BX.out.below hb BX.out.lt)
    replace HN := Lib.hid (HN.out.below hb (Nat.le_refl _))
    replace HB := Lib.hid (HB.out.trans (hb.mono HB.out.size))
    clear hb
    have HC6 := Lib.hid (show Calls Try.prog 12 _ _ (GivesM nL m cap eL V5) from by
      rw [HnL.out, HeL.out]
      exact (wlink_any l A m c cap (pa, pb) (qa, qb) V5 HM.out (by omega) HF9.out HN.out.any).mono fun _ _ h => h.m (by rw [link_len]; exact HM.out))
    obtain ⟨BNc0, BNc1⟩ := two_cells BN.out
    obtain ⟨BXc0, BXc1, BXc2, BXc3⟩ := four_cells BX.out
    go_wp2_with fail
    refine HC6.out.mono ?_
    rintro e V6 ⟨AnL, cnL, rfl, hn, hb⟩
    clear BNc0 BNc1 BXc0 BXc1 BXc2 BXc3 HC6
    replace BN := Lib.hid (BN.out.below hb BN.out.lt)
    replace BX := Lib.hid (BX.out.below hb BX.out.lt)
    replace B7 := Lib.hid (B7.out.below hb B7.out.lt)
    replace HN := Lib.hid (HN.out.below hb (Nat.le_refl _))
    replace HB := Lib.hid (HB.out.trans (hb.mono HB.out.size))
    clear hb
    have HnLx := Lib.hid hn
    clear hn
    go_upto_region 6 with fail
    obtain ⟨V7, hV7⟩ : ∃ V, V = V6.alloc (.cells #[.slice AnL m cnL, .int .i64 cap] 24) := ⟨_, rfl⟩
    obtain ⟨BnLb, hBnLb⟩ : ∃ B, B = V6.heap.size := ⟨_, rfl⟩
    have hb : Below V6.heap.size V6 V7 := by rw [hV7]; exact (Below.refl _ _).alloc (Nat.le_refl _) _
    have BnL : Hid (Lies V7 BnLb 24 #[.slice AnL m cnL, .int .i64 cap]) := Lib.hid (by rw [hV7, hBnLb]; exact Lies.new _ _ _)
    rw [← hV7, ← hBnLb]
    clear hV7 hBnLb
    replace BN := Lib.hid (BN.out.below hb BN.out.lt)
    replace BX := Lib.hid (BX.out.below hb BX.out.lt)
    replace B7 := Lib.hid (B7.out.below hb B7.out.lt)
    replace HN := Lib.hid (HN.out.below hb (Nat.le_refl _))
    replace HnLx := Lib.hid (HnLx.out.below hb (Nat.le_refl _))
    replace HB := Lib.hid (HB.out.trans (hb.mono HB.out.size))
    clear hb
    have HC8 := Lib.hid (show Calls Try.prog 14 _ _ (GivesM nM m cap eM V7) from by
      rw [HnM.out, HeM.out]
      exact (wmove_any l A m c cap (pa, pb) (qa, qb) V7 HM.out (by omega) HF9.out HN.out.any).mono fun _ _ h => h.m (by rw [move_len]; exact HM.out))
    obtain ⟨BNc0, BNc1⟩ := two_cells BN.out
    obtain ⟨BXc0, BXc1, BXc2, BXc3⟩ := four_cells BX.out
    go_wp2_with fail
    refine HC8.out.mono ?_
    rintro e V8 ⟨AnM, cnM, rfl, hn, hb⟩
    clear BNc0 BNc1 BXc0 BXc1 BXc2 BXc3 HC8
    replace BN := Lib.hid (BN.out.below hb BN.out.lt)
    replace BX := Lib.hid (BX.out.below hb BX.out.lt)
    replace B7 := Lib.hid (B7.out.below hb B7.out.lt)
    replace BnL := Lib.hid (BnL.out.below hb BnL.out.lt)
    replace HN := Lib.hid (HN.out.below hb (Nat.le_refl _))
    replace HnLx := Lib.hid (HnLx.out.below hb (Nat.le_refl _))
    replace HB := Lib.hid (HB.out.trans (hb.mono HB.out.size))
    clear hb
    have HnMx := Lib.hid hn
    clear hn
    go_upto_region 7 with fail
    obtain ⟨V9, hV9⟩ : ∃ V, V = V8.alloc (.cells #[.slice AnM m cnM, .int .i64 cap] 24) := ⟨_, rfl⟩
    obtain ⟨BnMb, hBnMb⟩ : ∃ B, B = V8.heap.size := ⟨_, rfl⟩
    have hb : Below V8.heap.size V8 V9 := by rw [hV9]; exact (Below.refl _ _).alloc (Nat.le_refl _) _
    have BnM : Hid (Lies V9 BnMb 24 #[.slice AnM m cnM, .int .i64 cap]) := Lib.hid (by rw [hV9, hBnMb]; exact Lies.new _ _ _)
    rw [← hV9, ← hBnMb]
    clear hV9 hBnMb
    replace BN := Lib.hid (BN.out.below hb BN.out.lt)
    replace BX := Lib.hid (BX.out.below hb BX.out.lt)
    replace B7 := Lib.hid (B7.out.below hb B7.out.lt)
    replace BnL := Lib.hid (BnL.out.below hb BnL.out.lt)
    replace HN := Lib.hid (HN.out.below hb (Nat.le_refl _))
    replace HnLx := Lib.hid (HnLx.out.below hb (Nat.le_refl _))
    replace HnMx := Lib.hid (HnMx.out.below hb (Nat.le_refl _))
    replace HB := Lib.hid (HB.out.trans (hb.mono HB.out.size))
    clear hb
    have HC10 := Lib.hid (show Calls Try.prog 16 _ _ (GivesM nJ m cap eJ V9) from by
      rw [HnJ.out, HeJ.out]
      exact (wjoin_any l A m c cap (pa, pb) (qa, qb) V9 HM.out (by omega) HF9.out HN.out.any).mono fun _ _ h => h.m (by rw [join_len]; exact HM.out))
    obtain ⟨BNc0, BNc1⟩ := two_cells BN.out
    obtain ⟨BXc0, BXc1, BXc2, BXc3⟩ := four_cells BX.out
    go_wp2_with fail
    refine HC10.out.mono ?_
    rintro e V10 ⟨AnJ, cnJ, rfl, hn, hb⟩
    clear BNc0 BNc1 BXc0 BXc1 BXc2 BXc3 HC10
    replace BN := Lib.hid (BN.out.below hb BN.out.lt)
    replace BX := Lib.hid (BX.out.below hb BX.out.lt)
    replace B7 := Lib.hid (B7.out.below hb B7.out.lt)
    replace BnL := Lib.hid (BnL.out.below hb BnL.out.lt)
    replace BnM := Lib.hid (BnM.out.below hb BnM.out.lt)
    replace HN := Lib.hid (HN.out.below hb (Nat.le_refl _))
    replace HnLx := Lib.hid (HnLx.out.below hb (Nat.le_refl _))
    replace HnMx := Lib.hid (HnMx.out.below hb (Nat.le_refl _))
    replace HB := Lib.hid (HB.out.trans (hb.mono HB.out.size))
    clear hb
    have HnJx := Lib.hid hn
    clear hn
    go_upto_region 8 with fail
    obtain ⟨V11, hV11⟩ : ∃ V, V = V10.alloc (.cells #[.slice AnJ m cnJ, .int .i64 cap] 24) := ⟨_, rfl⟩
    obtain ⟨BnJb, hBnJb⟩ : ∃ B, B = V10.heap.size := ⟨_, rfl⟩
    have hb : Below V10.heap.size V10 V11 := by rw [hV11]; exact (Below.refl _ _).alloc (Nat.le_refl _) _
    have BnJ : Hid (Lies V11 BnJb 24 #[.slice AnJ m cnJ, .int .i64 cap]) := Lib.hid (by rw [hV11, hBnJb]; exact Lies.new _ _ _)
    rw [← hV11, ← hBnJb]
    clear hV11 hBnJb
    replace BN := Lib.hid (BN.out.below hb BN.out.lt)
    replace BX := Lib.hid (BX.out.below hb BX.out.lt)
    replace B7 := Lib.hid (B7.out.below hb B7.out.lt)
    replace BnL := Lib.hid (BnL.out.below hb BnL.out.lt)
    replace BnM := Lib.hid (BnM.out.below hb BnM.out.lt)
    replace HN := Lib.hid (HN.out.below hb (Nat.le_refl _))
    replace HnLx := Lib.hid (HnLx.out.below hb (Nat.le_refl _))
    replace HnMx := Lib.hid (HnMx.out.below hb (Nat.le_refl _))
    replace HnJx := Lib.hid (HnJx.out.below hb (Nat.le_refl _))
    replace HB := Lib.hid (HB.out.trans (hb.mono HB.out.size))
    clear hb
    by_cases hc : hasV l (pa, pb) = true ∧ hasV l (qa, qb) = true ∧ ((pa, pb) : Int × Int) ≠ (qa, qb)
    · skip
      obtain ⟨h1, h2, h3⟩ := hc
      obtain rfl : re = 0 := by rw [Hre.out, peer_ok h1]
      obtain rfl : eL = 0 := by rw [HeL.out, link_ok h1 h2 h3]
      obtain rfl : hp = true := by rw [HHP.out, h1]
      obtain rfl : hq = true := by rw [HHQ.out, h2]
      have hne := port_neq pa pb qa qb
      rw [show (((pa, pb) : Int × Int) == (qa, qb)) = false by simpa using h3] at hne
      clear h1 h2 h3
      obtain ⟨BXc0, BXc1, BXc2, BXc3⟩ := four_cells BX.out
      go_wp2_with fail
      go_ret
      exact ⟨rfl, HB.out⟩
    · skip
      obtain rfl : nL = l := by rw [HnL.out, (none_link hc).1]
      obtain rfl : nM = nL := by rw [HnM.out, (none_link hc).2.1]
      obtain rfl : nJ = nM := by rw [HnJ.out, (none_link hc).2.2]
      obtain rfl : eL = 130 := by rw [HeL.out, (none_link hc).1]
      obtain rfl : eM = 130 := by rw [HeM.out, (none_link hc).2.1]
      obtain rfl : eJ = 130 := by rw [HeJ.out, (none_link hc).2.2]
      obtain ⟨l0, hl0⟩ : ∃ q, q = nJ := ⟨_, rfl⟩
      have hRE : re = if hp = true then 0 else 130 := by
        rw [Hre.out, HHP.out, peerNV]
        split <;> rfl
      obtain ⟨δ, hδ⟩ : ∃ δ, δ = (((pa, pb) : Int × Int) == (qa, qb)) := ⟨_, rfl⟩
      have hne := port_neq pa pb qa qb
      rw [← hδ] at hne
      have hd3 : ¬ (hp = true ∧ hq = true ∧ δ = false) := fun ⟨h1, h2, h3⟩ => hc ⟨by rw [← HHP.out, h1], by rw [← HHQ.out, h2], by rw [h3] at hδ; simpa using hδ.symm⟩
      clear hc hδ hl0 l0
      cases hp with
      | false =>
        simp only [Bool.false_eq_true, if_false] at hRE
        subst hRE
        clear hd3
        have HC12 := Lib.hid (same_any nJ AnL A m cnL c cap V11 HM.out (by omega) HnLx.out.any HN.out.any)
        obtain ⟨BNc0, BNc1⟩ := two_cells BN.out
        obtain ⟨BXc0, BXc1, BXc2, BXc3⟩ := four_cells BX.out
        obtain ⟨BnLc0, BnLc1⟩ := two_cells BnL.out
        go_wp2_with fail
        refine HC12.out.mono ?_
        rintro e V12 ⟨rfl, hb⟩
        clear BNc0 BNc1 BXc0 BXc1 BXc2 BXc3 BnLc0 BnLc1 HC12
        replace BN := Lib.hid (BN.out.below hb BN.out.lt)
        replace BX := Lib.hid (BX.out.below hb BX.out.lt)
        replace B7 := Lib.hid (B7.out.below hb B7.out.lt)
        replace BnL := Lib.hid (BnL.out.below hb BnL.out.lt)
        replace BnM := Lib.hid (BnM.out.below hb BnM.out.lt)
        replace BnJ := Lib.hid (BnJ.out.below hb BnJ.out.lt)
        replace HN := Lib.hid (HN.out.below hb (Nat.le_refl _))
        replace HnLx := Lib.hid (HnLx.out.below hb (Nat.le_refl _))
        replace HnMx := Lib.hid (HnMx.out.below hb (Nat.le_refl _))
        replace HnJx := Lib.hid (HnJx.out.below hb (Nat.le_refl _))
        replace HB := Lib.hid (HB.out.trans (hb.mono HB.out.size))
        clear hb
        have HC13 := Lib.hid (same_any nJ AnM A m cnM c cap V12 HM.out (by omega) HnMx.out.any HN.out.any)
        obtain ⟨BNc0, BNc1⟩ := two_cells BN.out
        obtain ⟨BnMc0, BnMc1⟩ := two_cells BnM.out
        go_wp2_with fail
        refine HC13.out.mono ?_
        rintro e V13 ⟨rfl, hb⟩
        clear BNc0 BNc1 BnMc0 BnMc1 HC13
        replace BN := Lib.hid (BN.out.below hb BN.out.lt)
        replace BX := Lib.hid (BX.out.below hb BX.out.lt)
        replace B7 := Lib.hid (B7.out.below hb B7.out.lt)
        replace BnL := Lib.hid (BnL.out.below hb BnL.out.lt)
        replace BnM := Lib.hid (BnM.out.below hb BnM.out.lt)
        replace BnJ := Lib.hid (BnJ.out.below hb BnJ.out.lt)
        replace HN := Lib.hid (HN.out.below hb (Nat.le_refl _))
        replace HnLx := Lib.hid (HnLx.out.below hb (Nat.le_refl _))
        replace HnMx := Lib.hid (HnMx.out.below hb (Nat.le_refl _))
        replace HnJx := Lib.hid (HnJx.out.below hb (Nat.le_refl _))
        replace HB := Lib.hid (HB.out.trans (hb.mono HB.out.size))
        clear hb
        have HC14 := Lib.hid (same_any nJ AnJ A m cnJ c cap V13 HM.out (by omega) HnJx.out.any HN.out.any)
        obtain ⟨BNc0, BNc1⟩ := two_cells BN.out
        obtain ⟨BnJc0, BnJc1⟩ := two_cells BnJ.out
        go_wp2_with fail
        refine HC14.out.mono ?_
        rintro e V14 ⟨rfl, hb⟩
        clear BNc0 BNc1 BnJc0 BnJc1 HC14
        replace BN := Lib.hid (BN.out.below hb BN.out.lt)
        replace BX := Lib.hid (BX.out.below hb BX.out.lt)
        replace B7 := Lib.hid (B7.out.below hb B7.out.lt)
        replace BnL := Lib.hid (BnL.out.below hb BnL.out.lt)
        replace BnM := Lib.hid (BnM.out.below hb BnM.out.lt)
        replace BnJ := Lib.hid (BnJ.out.below hb BnJ.out.lt)
        replace HN := Lib.hid (HN.out.below hb (Nat.le_refl _))
        replace HnLx := Lib.hid (HnLx.out.below hb (Nat.le_refl _))
        replace HnMx := Lib.hid (HnMx.out.below hb (Nat.le_refl _))
        replace HnJx := Lib.hid (HnJx.out.below hb (Nat.le_refl _))
        replace HB := Lib.hid (HB.out.trans (hb.mono HB.out.size))
        clear hb
        go_wp2_with fail
        go_ret
        exact ⟨rfl, HB.out⟩
      | true =>
        simp only [if_true] at hRE
        subst hRE
        cases hq with
        | false =>
          clear hd3
          have HC15 := Lib.hid (same_any nJ AnL A m cnL c cap V11 HM.out (by omega) HnLx.out.any HN.out.any)
          obtain ⟨BNc0, BNc1⟩ := two_cells BN.out
          obtain ⟨BXc0, BXc1, BXc2, BXc3⟩ := four_cells BX.out
          obtain ⟨BnLc0, BnLc1⟩ := two_cells BnL.out
          go_wp2_with fail
          refine HC15.out.mono ?_
          rintro e V15 ⟨rfl, hb⟩
          clear BNc0 BNc1 BXc0 BXc1 BXc2 BXc3 BnLc0 BnLc1 HC15
          replace BN := Lib.hid (BN.out.below hb BN.out.lt)
          replace BX := Lib.hid (BX.out.below hb BX.out.lt)
          replace B7 := Lib.hid (B7.out.below hb B7.out.lt)
          replace BnL := Lib.hid (BnL.out.below hb BnL.out.lt)
          replace BnM := Lib.hid (BnM.out.below hb BnM.out.lt)
          replace BnJ := Lib.hid (BnJ.out.below hb BnJ.out.lt)
          replace HN := Lib.hid (HN.out.below hb (Nat.le_refl _))
          replace HnLx := Lib.hid (HnLx.out.below hb (Nat.le_refl _))
          replace HnMx := Lib.hid (HnMx.out.below hb (Nat.le_refl _))
          replace HnJx := Lib.hid (HnJx.out.below hb (Nat.le_refl _))
          replace HB := Lib.hid (HB.out.trans (hb.mono HB.out.size))
          clear hb
          have HC16 := Lib.hid (same_any nJ AnM A m cnM c cap V15 HM.out (by omega) HnMx.out.any HN.out.any)
          obtain ⟨BNc0, BNc1⟩ := two_cells BN.out
          obtain ⟨BnMc0, BnMc1⟩ := two_cells BnM.out
          go_wp2_with fail
          refine HC16.out.mono ?_
          rintro e V16 ⟨rfl, hb⟩
          clear BNc0 BNc1 BnMc0 BnMc1 HC16
          replace BN := Lib.hid (BN.out.below hb BN.out.lt)
          replace BX := Lib.hid (BX.out.below hb BX.out.lt)
          replace B7 := Lib.hid (B7.out.below hb B7.out.lt)
          replace BnL := Lib.hid (BnL.out.below hb BnL.out.lt)
          replace BnM := Lib.hid (BnM.out.below hb BnM.out.lt)
          replace BnJ := Lib.hid (BnJ.out.below hb BnJ.out.lt)
          replace HN := Lib.hid (HN.out.below hb (Nat.le_refl _))
          replace HnLx := Lib.hid (HnLx.out.below hb (Nat.le_refl _))
          replace HnMx := Lib.hid (HnMx.out.below hb (Nat.le_refl _))
          replace HnJx := Lib.hid (HnJx.out.below hb (Nat.le_refl _))
          replace HB := Lib.hid (HB.out.trans (hb.mono HB.out.size))
          clear hb
          have HC17 := Lib.hid (same_any nJ AnJ A m cnJ c cap V16 HM.out (by omega) HnJx.out.any HN.out.any)
          obtain ⟨BNc0, BNc1⟩ := two_cells BN.out
          obtain ⟨BnJc0, BnJc1⟩ := two_cells BnJ.out
          go_wp2_with fail
          refine HC17.out.mono ?_
          rintro e V17 ⟨rfl, hb⟩
          clear BNc0 BNc1 BnJc0 BnJc1 HC17
          replace BN := Lib.hid (BN.out.below hb BN.out.lt)
          replace BX := Lib.hid (BX.out.below hb BX.out.lt)
          replace B7 := Lib.hid (B7.out.below hb B7.out.lt)
          replace BnL := Lib.hid (BnL.out.below hb BnL.out.lt)
          replace BnM := Lib.hid (BnM.out.below hb BnM.out.lt)
          replace BnJ := Lib.hid (BnJ.out.below hb BnJ.out.lt)
          replace HN := Lib.hid (HN.out.below hb (Nat.le_refl _))
          replace HnLx := Lib.hid (HnLx.out.below hb (Nat.le_refl _))
          replace HnMx := Lib.hid (HnMx.out.below hb (Nat.le_refl _))
          replace HnJx := Lib.hid (HnJx.out.below hb (Nat.le_refl _))
          replace HB := Lib.hid (HB.out.trans (hb.mono HB.out.size))
          clear hb
          go_wp2_with fail
          go_ret
          exact ⟨rfl, HB.out⟩
        | true =>
          cases δ with
          | false => exact absurd ⟨rfl, rfl, rfl⟩ hd3
          | true =>
            clear hd3
            have HC18 := Lib.hid (same_any nJ AnL A m cnL c cap V11 HM.out (by omega) HnLx.out.any HN.out.any)
            obtain ⟨BNc0, BNc1⟩ := two_cells BN.out
            obtain ⟨BXc0, BXc1, BXc2, BXc3⟩ := four_cells BX.out
            obtain ⟨BnLc0, BnLc1⟩ := two_cells BnL.out
            go_wp2_with fail
            refine HC18.out.mono ?_
            rintro e V18 ⟨rfl, hb⟩
            clear BNc0 BNc1 BXc0 BXc1 BXc2 BXc3 BnLc0 BnLc1 HC18
            replace BN := Lib.hid (BN.out.below hb BN.out.lt)
            replace BX := Lib.hid (BX.out.below hb BX.out.lt)
            replace B7 := Lib.hid (B7.out.below hb B7.out.lt)
            replace BnL := Lib.hid (BnL.out.below hb BnL.out.lt)
            replace BnM := Lib.hid (BnM.out.below hb BnM.out.lt)
            replace BnJ := Lib.hid (BnJ.out.below hb BnJ.out.lt)
            replace HN := Lib.hid (HN.out.below hb (Nat.le_refl _))
            replace HnLx := Lib.hid (HnLx.out.below hb (Nat.le_refl _))
            replace HnMx := Lib.hid (HnMx.out.below hb (Nat.le_refl _))
            replace HnJx := Lib.hid (HnJx.out.below hb (Nat.le_refl _))
            replace HB := Lib.hid (HB.out.trans (hb.mono HB.out.size))
            clear hb
            have HC19 := Lib.hid (same_any nJ AnM A m cnM c cap V18 HM.out (by omega) HnMx.out.any HN.out.any)
            obtain ⟨BNc0, BNc1⟩ := two_cells BN.out
            obtain ⟨BnMc0, BnMc1⟩ := two_cells BnM.out
            go_wp2_with fail
            refine HC19.out.mono ?_
            rintro e V19 ⟨rfl, hb⟩
            clear BNc0 BNc1 BnMc0 BnMc1 HC19
            replace BN := Lib.hid (BN.out.below hb BN.out.lt)
            replace BX := Lib.hid (BX.out.below hb BX.out.lt)
            replace B7 := Lib.hid (B7.out.below hb B7.out.lt)
            replace BnL := Lib.hid (BnL.out.below hb BnL.out.lt)
            replace BnM := Lib.hid (BnM.out.below hb BnM.out.lt)
            replace BnJ := Lib.hid (BnJ.out.below hb BnJ.out.lt)
            replace HN := Lib.hid (HN.out.below hb (Nat.le_refl _))
            replace HnLx := Lib.hid (HnLx.out.below hb (Nat.le_refl _))
            replace HnMx := Lib.hid (HnMx.out.below hb (Nat.le_refl _))
            replace HnJx := Lib.hid (HnJx.out.below hb (Nat.le_refl _))
            replace HB := Lib.hid (HB.out.trans (hb.mono HB.out.size))
            clear hb
            have HC20 := Lib.hid (same_any nJ AnJ A m cnJ c cap V19 HM.out (by omega) HnJx.out.any HN.out.any)
            obtain ⟨BNc0, BNc1⟩ := two_cells BN.out
            obtain ⟨BnJc0, BnJc1⟩ := two_cells BnJ.out
            go_wp2_with fail
            refine HC20.out.mono ?_
            rintro e V20 ⟨rfl, hb⟩
            clear BNc0 BNc1 BnJc0 BnJc1 HC20
            replace BN := Lib.hid (BN.out.below hb BN.out.lt)
            replace BX := Lib.hid (BX.out.below hb BX.out.lt)
            replace B7 := Lib.hid (B7.out.below hb B7.out.lt)
            replace BnL := Lib.hid (BnL.out.below hb BnL.out.lt)
            replace BnM := Lib.hid (BnM.out.below hb BnM.out.lt)
            replace BnJ := Lib.hid (BnJ.out.below hb BnJ.out.lt)
            replace HN := Lib.hid (HN.out.below hb (Nat.le_refl _))
            replace HnLx := Lib.hid (HnLx.out.below hb (Nat.le_refl _))
            replace HnMx := Lib.hid (HnMx.out.below hb (Nat.le_refl _))
            replace HnJx := Lib.hid (HnJx.out.below hb (Nat.le_refl _))
            replace HB := Lib.hid (HB.out.trans (hb.mono HB.out.size))
            clear hb
            go_wp2_with fail
            go_ret
            exact ⟨rfl, HB.out⟩
end Lx
end Go.Proofs.Ytceblpjlklogpaa
