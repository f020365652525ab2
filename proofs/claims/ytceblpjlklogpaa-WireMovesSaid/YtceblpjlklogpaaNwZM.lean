/-
  The law WireMoves, walked.
-/
import Derived.Test.YtceblpjlklogpaaC10
import Derived.Deep.DeepCutAuto
import Derived.Deep.RegionHeld3
namespace Go.Proofs.Ytceblpjlklogpaa
open Go Go.RowKit
namespace Lx
set_option maxRecDepth 100000
set_option maxHeartbeats 40000000 in
theorem wireMoves_law (HFX : ∀ V : World, Calls Try.prog 9 #[] V fun e w' => e = .returned (.bool true) ∧ Below V.heap.size V w') (l : List Nd) (A : Option Addr) (m c : Nat) (cap pa pb qa qb : Int) (w : World) (hm : m = l.length) (hm2 : m ≤ 140737488351232) (hN : NdsIn w AnyB l A) :
    Calls Try.prog 4 #[.agg #[.slice A m c, .int .i64 cap], .agg #[.int .i64 pa, .int .i64 pb, .int .i64 qa, .int .i64 qb]] w fun e w' => e = .returned (.bool true) ∧ Below w.heap.size w w' := by
  obtain ⟨W, hW⟩ : ∃ W, W = ((w.alloc (.cells #[.slice A m c, .int .i64 cap] 24)).alloc (.cells #[.int .i64 pa, .int .i64 pb, .int .i64 qa, .int .i64 qb] 28)) := ⟨_, rfl⟩
  have hb : Below w.heap.size w W := by rw [hW]; exact ((Below.refl _ w).alloc (Nat.le_refl _) _).alloc (by simp) _
  have BN : Hid (Lies W w.heap.size 24 #[.slice A m c, .int .i64 cap]) := Lib.hid (by rw [hW]; exact (Lies.new _ _ _).old _)
  have BX : Hid (Lies W (w.heap.size + 1) 28 #[.int .i64 pa, .int .i64 pb, .int .i64 qa, .int .i64 qb]) := Lib.hid (by rw [hW]; simpa using Lies.new (w.alloc (.cells #[.slice A m c, .int .i64 cap] 24)) 28 #[.int .i64 pa, .int .i64 pb, .int .i64 qa, .int .i64 qb])
  have HN : Hid (NdsIn W (fun g => g < w.heap.size) l A) := Lib.hid (hN.keep (fun q j _ hlt => ⟨hb.cell (p := ⟨q, j, none⟩) hlt, hlt⟩))
  have HB := Lib.hid hb
  have HM := Lib.hid hm
  clear hN hm hb
  go_enter Try.func4, Try.ntmps4
  go_upto_region 1 with fail
  rw [← hW]
  clear hW
  have HC1 := Lib.hid (HFX W)
  go_wp2_with fail
  refine HC1.out.mono ?_
  rintro e V1 ⟨rfl, hb⟩
  clear  HC1
  replace BN := Lib.hid (BN.out.below hb BN.out.lt)
  replace BX := Lib.hid (BX.out.below hb BX.out.lt)
  replace HN := Lib.hid (HN.out.below hb (Nat.le_refl _))
  replace HB := Lib.hid (HB.out.trans (hb.mono HB.out.size))
  clear hb
  have HC2 := Lib.hid (small_any l A m c cap 150 V1 HM.out hm2 HN.out.any)
  obtain ⟨BNc0, BNc1⟩ := two_cells BN.out
  go_wp2_with fail
  refine HC2.out.mono ?_
  rintro e V2 ⟨rfl, hb⟩
  clear BNc0 BNc1 HC2
  replace BN := Lib.hid (BN.out.below hb BN.out.lt)
  replace BX := Lib.hid (BX.out.below hb BX.out.lt)
  replace HN := Lib.hid (HN.out.below hb (Nat.le_refl _))
  replace HB := Lib.hid (HB.out.trans (hb.mono HB.out.size))
  clear hb
  cases hs : smallV l 150 with
  | false =>
    have HC3 := Lib.hid (HFX V2)
    go_wp2_with fail
    refine HC3.out.mono ?_
    rintro e V3 ⟨rfl, hb⟩
    clear  HC3
    replace BN := Lib.hid (BN.out.below hb BN.out.lt)
    replace BX := Lib.hid (BX.out.below hb BX.out.lt)
    replace HN := Lib.hid (HN.out.below hb (Nat.le_refl _))
    replace HB := Lib.hid (HB.out.trans (hb.mono HB.out.size))
    clear hb
    go_wp2_with fail
    go_ret
    exact ⟨rfl, HB.out⟩
  | true =>
    obtain ⟨hm150', hfew, h12⟩ := small_few hs
    have hm150 : m ≤ 150 := by have := HM.out; omega
    have HF9 := Lib.hid hfew
    have H12 := Lib.hid h12
    clear hs hm150' hfew h12
    obtain ⟨ck, hck0⟩ : ∃ q, q = checkV l cap := ⟨_, rfl⟩
    obtain ⟨hP, hhP⟩ : ∃ q, q = hasV l (pa, pb) := ⟨_, rfl⟩
    obtain ⟨hQ, hhQ⟩ : ∃ q, q = hasV l (qa, qb) := ⟨_, rfl⟩
    obtain ⟨δ, hδ⟩ : ∃ δ, δ = (((pa, pb) : Int × Int) == (qa, qb)) := ⟨_, rfl⟩
    have HCK := Lib.hid hck0
    have HHP := Lib.hid hhP
    have HHQ := Lib.hid hhQ
    have HDE := Lib.hid hδ
    clear hck0 hhP hhQ hδ
    cases ck with
    | false =>
      have HC4 := Lib.hid (show Calls Try.prog 19 _ _ (fun e w' => e = .returned (.int .i64 120) ∧ Below V2.heap.size V2 w') from by
        have h := rcheck_any l A m c cap V2 HM.out hm2 HN.out.any
        rw [checkI, ← HCK.out] at h
        simpa using h)
      obtain ⟨BNc0, BNc1⟩ := two_cells BN.out
      go_wp2_with fail
      refine HC4.out.mono ?_
      rintro e V4 ⟨rfl, hb⟩
      clear BNc0 BNc1 HC4
      replace BN := Lib.hid (BN.out.below hb BN.out.lt)
      replace BX := Lib.hid (BX.out.below hb BX.out.lt)
      replace HN := Lib.hid (HN.out.below hb (Nat.le_refl _))
      replace HB := Lib.hid (HB.out.trans (hb.mono HB.out.size))
      clear hb
      have HC5 := Lib.hid (HFX V4)
      go_wp2_with fail
      refine HC5.out.mono ?_
      rintro e V5 ⟨rfl, hb⟩
      clear  HC5
      replace BN := Lib.hid (BN.out.below hb BN.out.lt)
      replace BX := Lib.hid (BX.out.below hb BX.out.lt)
      replace HN := Lib.hid (HN.out.below hb (Nat.le_refl _))
      replace HB := Lib.hid (HB.out.trans (hb.mono HB.out.size))
      clear hb
      go_wp2_with fail
      go_ret
      exact ⟨rfl, HB.out⟩
    | true =>
      have HC6 := Lib.hid (show Calls Try.prog 19 _ _ (fun e w' => e = .returned (.int .i64 0) ∧ Below V2.heap.size V2 w') from by
        have h := rcheck_any l A m c cap V2 HM.out hm2 HN.out.any
        rw [checkI, ← HCK.out] at h
        simpa using h)
      obtain ⟨BNc0, BNc1⟩ := two_cells BN.out
      go_wp2_with fail
      refine HC6.out.mono ?_
      rintro e V6 ⟨rfl, hb⟩
      clear BNc0 BNc1 HC6
      replace BN := Lib.hid (BN.out.below hb BN.out.lt)
      replace BX := Lib.hid (BX.out.below hb BX.out.lt)
      replace HN := Lib.hid (HN.out.below hb (Nat.le_refl _))
      replace HB := Lib.hid (HB.out.trans (hb.mono HB.out.size))
      clear hb
      cases hP with
      | false =>
        have HC7 := Lib.hid (show Calls Try.prog 20 _ _ (fun e w' => e = .returned (.bool false) ∧ Below V6.heap.size V6 w') from by
          have h := has_any l A m c cap pa pb V6 HM.out HN.out.any
          rw [← HHP.out] at h
          exact h)
        obtain ⟨BNc0, BNc1⟩ := two_cells BN.out
        obtain ⟨BXc0, BXc1, BXc2, BXc3⟩ := four_cells BX.out
        go_wp2_with fail
        refine HC7.out.mono ?_
        rintro e V7 ⟨rfl, hb⟩
        clear BNc0 BNc1 BXc0 BXc1 BXc2 BXc3 HC7
        replace BN := Lib.hid (BN.out.below hb BN.out.lt)
        replace BX := Lib.hid (BX.out.below hb BX.out.lt)
        replace HN := Lib.hid (HN.out.below hb (Nat.le_refl _))
        replace HB := Lib.hid (HB.out.trans (hb.mono HB.out.size))
        clear hb
        have HC8 := Lib.hid (HFX V7)
        go_wp2_with fail
        refine HC8.out.mono ?_
        rintro e V8 ⟨rfl, hb⟩
        clear  HC8
        replace BN := Lib.hid (BN.out.below hb BN.out.lt)
        replace BX := Lib.hid (BX.out.below hb BX.out.lt)
        replace HN := Lib.hid (HN.out.below hb (Nat.le_refl _))
        replace HB := Lib.hid (HB.out.trans (hb.mono HB.out.size))
        clear hb
        go_wp2_with fail
        go_ret
        exact ⟨rfl, HB.out⟩
      | true =>
        have HC9 := Lib.hid (show Calls Try.prog 20 _ _ (fun e w' => e = .returned (.bool true) ∧ Below V6.heap.size V6 w') from by
          have h := has_any l A m c cap pa pb V6 HM.out HN.out.any
          rw [← HHP.out] at h
          exact h)
        obtain ⟨BNc0, BNc1⟩ := two_cells BN.out
        obtain ⟨BXc0, BXc1, BXc2, BXc3⟩ := four_cells BX.out
        go_wp2_with fail
        refine HC9.out.mono ?_
        rintro e V9 ⟨rfl, hb⟩
        clear BNc0 BNc1 BXc0 BXc1 BXc2 BXc3 HC9
        replace BN := Lib.hid (BN.out.below hb BN.out.lt)
        replace BX := Lib.hid (BX.out.below hb BX.out.lt)
        replace HN := Lib.hid (HN.out.below hb (Nat.le_refl _))
        replace HB := Lib.hid (HB.out.trans (hb.mono HB.out.size))
        clear hb
        cases hQ with
        | false =>
          have HC10 := Lib.hid (show Calls Try.prog 20 _ _ (fun e w' => e = .returned (.bool false) ∧ Below V9.heap.size V9 w') from by
            have h := has_any l A m c cap qa qb V9 HM.out HN.out.any
            rw [← HHQ.out] at h
            exact h)
          obtain ⟨BNc0, BNc1⟩ := two_cells BN.out
          obtain ⟨BXc0, BXc1, BXc2, BXc3⟩ := four_cells BX.out
          go_wp2_with fail
          refine HC10.out.mono ?_
          rintro e V10 ⟨rfl, hb⟩
          clear BNc0 BNc1 BXc0 BXc1 BXc2 BXc3 HC10
          replace BN := Lib.hid (BN.out.below hb BN.out.lt)
          replace BX := Lib.hid (BX.out.below hb BX.out.lt)
          replace HN := Lib.hid (HN.out.below hb (Nat.le_refl _))
          replace HB := Lib.hid (HB.out.trans (hb.mono HB.out.size))
          clear hb
          have HC11 := Lib.hid (HFX V10)
          go_wp2_with fail
          refine HC11.out.mono ?_
          rintro e V11 ⟨rfl, hb⟩
          clear  HC11
          replace BN := Lib.hid (BN.out.below hb BN.out.lt)
          replace BX := Lib.hid (BX.out.below hb BX.out.lt)
          replace HN := Lib.hid (HN.out.below hb (Nat.le_refl _))
          replace HB := Lib.hid (HB.out.trans (hb.mono HB.out.size))
          clear hb
          go_wp2_with fail
          go_ret
          exact ⟨rfl, HB.out⟩
        | true =>
          have HC12 := Lib.hid (show Calls Try.prog 20 _ _ (fun e w' => e = .returned (.bool true) ∧ Below V9.heap.size V9 w') from by
            have h := has_any l A m c cap qa qb V9 HM.out HN.out.any
            rw [← HHQ.out] at h
            exact h)
          obtain ⟨BNc0, BNc1⟩ := two_cells BN.out
          obtain ⟨BXc0, BXc1, BXc2, BXc3⟩ := four_cells BX.out
          go_wp2_with fail
          refine HC12.out.mono ?_
          rintro e V12 ⟨rfl, hb⟩
          clear BNc0 BNc1 BXc0 BXc1 BXc2 BXc3 HC12
          replace BN := Lib.hid (BN.out.below hb BN.out.lt)
          replace BX := Lib.hid (BX.out.below hb BX.out.lt)
          replace HN := Lib.hid (HN.out.below hb (Nat.le_refl _))
          replace HB := Lib.hid (HB.out.trans (hb.mono HB.out.size))
          clear hb
          have hne := port_eql pa pb qa qb
          rw [← HDE.out] at hne
          cases δ with
          | true =>
            obtain ⟨BXc0, BXc1, BXc2, BXc3⟩ := four_cells BX.out
            have HC13 := Lib.hid (HFX V12)
            go_wp2_with fail
            refine HC13.out.mono ?_
            rintro e V13 ⟨rfl, hb⟩
            clear BXc0 BXc1 BXc2 BXc3 HC13
            replace BN := Lib.hid (BN.out.below hb BN.out.lt)
            replace BX := Lib.hid (BX.out.below hb BX.out.lt)
            replace HN := Lib.hid (HN.out.below hb (Nat.le_refl _))
            replace HB := Lib.hid (HB.out.trans (hb.mono HB.out.size))
            clear hb
            go_wp2_with fail
            go_ret
            exact ⟨rfl, HB.out⟩
          | false =>
            obtain ⟨BXc0, BXc1, BXc2, BXc3⟩ := four_cells BX.out
            go_upto_region 3 with fail
            clear BXc0 BXc1 BXc2 BXc3 hne
            have h1 := HHP.out.symm
            have h2 := HHQ.out.symm
            have h3 : ((pa, pb) : Int × Int) ≠ (qa, qb) := by have h := HDE.out; intro e; rw [e] at h; simp at h
            have hck := HCK.out.symm
            obtain ⟨a1, a2, a3⟩ := checked_link hck h1
            obtain ⟨b1, b2, b3⟩ := checked_link hck h2
            obtain ⟨a, ha⟩ : ∃ a, a = toAt l (pa, pb) := ⟨_, rfl⟩
            obtain ⟨b, hbb⟩ : ∃ a, a = toAt l (qa, qb) := ⟨_, rfl⟩
            rw [← ha] at a1 a2 a3
            rw [← hbb] at b1 b2 b3
            obtain ⟨i, k, e9, hil, hkl⟩ := nat_port h1
            obtain ⟨rfl, rfl⟩ := Prod.mk.inj e9
            obtain ⟨i2, k2, e9, hil2, hkl2⟩ := nat_port h2
            obtain ⟨rfl, rfl⟩ := Prod.mk.inj e9
            obtain ⟨g, o, x, B, bb, C, cc, hx, rfl, _, ⟨_, _, _, _, _, x5⟩, hI⟩ := NdsIn.get HN.out i hil
            have hkx : k < x.to.length := by rw [hx]; exact hkl
            obtain ⟨g2, o2, ⟨rfl, _⟩, d0, d1⟩ := hI.2.2 k hkx
            have e8 : a = x.to[k]'hkx := by rw [ha, toAt_get9 hkl]; simp only [hx]
            rw [← e8] at d0 d1
            obtain ⟨mt, hmt⟩ : ∃ q, q = x.to.length := ⟨_, rfl⟩
            rw [← hmt] at x5
            have hkm : k < mt := by omega
            have him : i < m := by have := HM.out; omega
            obtain ⟨ct, hct⟩ : ∃ q, q = capN mt cc := ⟨_, rfl⟩
            rw [← hct] at x5
            have hmc : mt ≤ ct := by rw [hct]; exact le_capN _ _
            obtain ⟨gz, oz, x2, B2, bb2, C2, cc2, hx2, hAq, _, ⟨_, _, _, _, _, y5⟩, hI2⟩ := NdsIn.get HN.out i2 hil2
            have hkx2 : k2 < x2.to.length := by rw [hx2]; exact hkl2
            obtain ⟨g3, o3, ⟨rfl, _⟩, f0, f1⟩ := hI2.2.2 k2 hkx2
            have e82 : b = x2.to[k2]'hkx2 := by rw [hbb, toAt_get9 hkl2]; simp only [hx2]
            rw [← e82] at f0 f1
            obtain ⟨mt2, hmt2⟩ : ∃ q, q = x2.to.length := ⟨_, rfl⟩
            rw [← hmt2] at y5
            have hkm2 : k2 < mt2 := by omega
            have him2 : i2 < m := by have := HM.out; omega
            obtain ⟨ct2, hct2⟩ : ∃ q, q = capN mt2 cc2 := ⟨_, rfl⟩
            rw [← hct2] at y5
            have hmc2 : mt2 ≤ ct2 := by rw [hct2]; exact le_capN _ _
            cases hAq
            obtain ⟨aa, ab⟩ := a
            obtain ⟨ba, bc⟩ := b
            simp only at d0 d1 f0 f1
            have HA := Lib.hid ha
            have HBB := Lib.hid hbb
            have H1 := Lib.hid h1
            have H2 := Lib.hid h2
            have H3 := Lib.hid h3
            have HCH := Lib.hid hck
            have HA1 := Lib.hid a1
            have HB1 := Lib.hid b1
            clear e9 hil hkl hx hI e8 hmt hct hkx ha h1 h2 h3 hck a1 a2 a3 b1 b2 b3 hbb hil2 hkl2 hx2 hI2 e82 hmt2 hct2 hkx2
            obtain ⟨BNc0, BNc1⟩ := two_cells BN.out
            obtain ⟨BXc0, BXc1, BXc2, BXc3⟩ := four_cells BX.out
            have HS : Hid (∀ V, Below V12.heap.size V12 V → V.cell? ⟨w.heap.size, 0, none⟩ = some (.slice (some ⟨g, o, none⟩) m c) ∧ V.cell? ⟨w.heap.size + 1, 0, none⟩ = some (.int .i64 (i : Int)) ∧ V.cell? ⟨w.heap.size + 1, 1, none⟩ = some (.int .i64 (k : Int)) ∧ V.cell? ⟨w.heap.size + 1, 2, none⟩ = some (.int .i64 (i2 : Int)) ∧ V.cell? ⟨w.heap.size + 1, 3, none⟩ = some (.int .i64 (k2 : Int)) ∧ V.cell? ⟨g, o + i * 6 + 5, none⟩ = some (.slice (some ⟨g2, o2, none⟩) mt ct) ∧ V.cell? ⟨g2, o2 + k * 2, none⟩ = some (.int .i64 aa) ∧ V.cell? ⟨g2, o2 + k * 2 + 1, none⟩ = some (.int .i64 ab) ∧ V.cell? ⟨g, o + i2 * 6 + 5, none⟩ = some (.slice (some ⟨g3, o3, none⟩) mt2 ct2) ∧ V.cell? ⟨g3, o3 + k2 * 2, none⟩ = some (.int .i64 ba) ∧ V.cell? ⟨g3, o3 + k2 * 2 + 1, none⟩ = some (.int .i64 bc)) := Lib.hid fun V hV => ⟨(hV.cell (p := ⟨w.heap.size, 0, none⟩) BN.out.lt).trans (BN.out.cell 0), (hV.cell (p := ⟨w.heap.size + 1, 0, none⟩) BX.out.lt).trans (BX.out.cell 0), (hV.cell (p := ⟨w.heap.size + 1, 1, none⟩) BX.out.lt).trans (BX.out.cell 1), (hV.cell (p := ⟨w.heap.size + 1, 2, none⟩) BX.out.lt).trans (BX.out.cell 2), (hV.cell (p := ⟨w.heap.size + 1, 3, none⟩) BX.out.lt).trans (BX.out.cell 3), (hV.cell (p := ⟨g, _, none⟩) (ncell_lt x5)).trans x5, (hV.cell (p := ⟨g2, _, none⟩) (ncell_lt d0)).trans d0, (hV.cell (p := ⟨g2, _, none⟩) (ncell_lt d1)).trans d1, (hV.cell (p := ⟨g, _, none⟩) (ncell_lt y5)).trans y5, (hV.cell (p := ⟨g3, _, none⟩) (ncell_lt f0)).trans f0, (hV.cell (p := ⟨g3, _, none⟩) (ncell_lt f1)).trans f1⟩
            clear x5 d0 d1 y5 f0 f1
            go_cut [5, 6] (fun y z wx => ∃ B5 B6 : Nat, y = .pointer (some ⟨B5, 0, none⟩) ∧ z = .pointer (some ⟨B6, 0, none⟩) ∧ Lies wx B5 26 #[.int .i64 aa, .int .i64 ab] ∧ Lies wx B6 26 #[.int .i64 ba, .int .i64 bc] ∧ Below V12.heap.size V12 wx)
            case first =>
              go_region_held3 (fun V => V.cell? ⟨w.heap.size, 0, none⟩ = some (.slice (some ⟨g, o, none⟩) m c) ∧ V.cell? ⟨w.heap.size + 1, 0, none⟩ = some (.int .i64 (i : Int)) ∧ V.cell? ⟨w.heap.size + 1, 1, none⟩ = some (.int .i64 (k : Int)) ∧ V.cell? ⟨w.heap.size + 1, 2, none⟩ = some (.int .i64 (i2 : Int)) ∧ V.cell? ⟨w.heap.size + 1, 3, none⟩ = some (.int .i64 (k2 : Int)) ∧ V.cell? ⟨g, o + i * 6 + 5, none⟩ = some (.slice (some ⟨g2, o2, none⟩) mt ct) ∧ V.cell? ⟨g2, o2 + k * 2, none⟩ = some (.int .i64 aa) ∧ V.cell? ⟨g2, o2 + k * 2 + 1, none⟩ = some (.int .i64 ab) ∧ V.cell? ⟨g, o + i2 * 6 + 5, none⟩ = some (.slice (some ⟨g3, o3, none⟩) mt2 ct2) ∧ V.cell? ⟨g3, o3 + k2 * 2, none⟩ = some (.int .i64 ba) ∧ V.cell? ⟨g3, o3 + k2 * 2 + 1, none⟩ = some (.int .i64 bc))
                (first | exact HS.out _ (by repeat (first | exact Below.refl _ _ | refine Below.drew ?_ | refine Below.alloc ?_ (by simp) _ | refine Below.setCell ?_ (by simp) _)))
                (fail)
              all_goals go_wp2_with fail
              all_goals go_meet
              · exact ⟨_, _, rfl, rfl, ((Lies.new _ _ _).old _).drew, (lies_at (by simp)).drew, (((Below.refl _ _).alloc (Nat.le_refl _) _).alloc (by simp) _).drew⟩
              · exact ⟨_, _, rfl, rfl, (lies_at (by simp)).drew, ((Lies.new _ _ _).old _).drew, (((Below.refl _ _).alloc (Nat.le_refl _) _).alloc (by simp) _).drew⟩
            case rest =>
              obtain ⟨B5b, B6b, rfl, rfl, hl5, hl6, hb⟩ := hcut
              rename World => U5
              clear BNc0 BNc1 BXc0 BXc1 BXc2 BXc3 HS
              replace BN := Lib.hid (BN.out.below hb BN.out.lt)
              replace BX := Lib.hid (BX.out.below hb BX.out.lt)
              replace HN := Lib.hid (HN.out.below hb (Nat.le_refl _))
              replace HB := Lib.hid (HB.out.trans (hb.mono HB.out.size))
              clear hb
              have B5 := Lib.hid hl5
              have B6 := Lib.hid hl6
              clear hl5 hl6
              obtain ⟨ε, hε⟩ : ∃ ε, ε = (((aa, ab) : Int × Int) == ((i2 : Int), (k2 : Int))) := ⟨_, rfl⟩
              have heq := port_eql aa ab (i2 : Int) (k2 : Int)
              rw [← hε] at heq
              have hjo := join_ok HCH.out H1.out H2.out H3.out
              cases ε with
              | true =>
                have haq : toAt l ((i : Int), (k : Int)) = ((i2 : Int), (k2 : Int)) := by rw [← HA.out]; simpa using hε.symm
                have HE := Lib.hid (show moveNV l ((i : Int), (k : Int)) ((i2 : Int), (k2 : Int)) = (l, 0) by rw [move_ok HCH.out H1.out H2.out H3.out, if_pos haq])
                have HE1 := Lib.hid (show joinNV l ((i : Int), (k : Int)) ((i2 : Int), (k2 : Int)) = (l, 0) by rw [hjo.2, if_pos haq])
                clear hε haq hjo
                have HC14 := Lib.hid (show Calls Try.prog 14 _ _ (GivesM l m cap 0 U5) from by
                  have h := wmove_any l (some ⟨g, o, none⟩) m c cap ((i : Int), (k : Int)) ((i2 : Int), (k2 : Int)) U5 HM.out (by omega) HF9.out HN.out.any
                  rw [HE.out] at h
                  exact h.mono fun _ _ h => h.m HM.out)
                obtain ⟨BNc0, BNc1⟩ := two_cells BN.out
                obtain ⟨BXc0, BXc1, BXc2, BXc3⟩ := four_cells BX.out
                go_wp2_with fail
                refine HC14.out.mono ?_
                rintro e V14 ⟨A7, c7, rfl, hn, hb⟩
                clear BNc0 BNc1 BXc0 BXc1 BXc2 BXc3 HC14
                replace BN := Lib.hid (BN.out.below hb BN.out.lt)
                replace BX := Lib.hid (BX.out.below hb BX.out.lt)
                replace B5 := Lib.hid (B5.out.below hb B5.out.lt)
                replace B6 := Lib.hid (B6.out.below hb B6.out.lt)
                replace HN := Lib.hid (HN.out.below hb (Nat.le_refl _))
                replace HB := Lib.hid (HB.out.trans (hb.mono HB.out.size))
                clear hb
                have H7 := Lib.hid hn
                clear hn
                go_upto_region 5 with fail
                obtain ⟨V15, hV15⟩ : ∃ V, V = V14.alloc (.cells #[.slice A7 m c7, .int .i64 cap] 24) := ⟨_, rfl⟩
                obtain ⟨B7b, hB7b⟩ : ∃ B, B = V14.heap.size := ⟨_, rfl⟩
                have hb : Below V14.heap.size V14 V15 := by rw [hV15]; exact (Below.refl _ _).alloc (Nat.le_refl _) _
                have B7 : Hid (Lies V15 B7b 24 #[.slice A7 m c7, .int .i64 cap]) := Lib.hid (by rw [hV15, hB7b]; exact Lies.new _ _ _)
                rw [← hV15, ← hB7b]
                clear hV15 hB7b
                replace BN := Lib.hid (BN.out.below hb BN.out.lt)
                replace BX := Lib.hid (BX.out.below hb BX.out.lt)
                replace B5 := Lib.hid (B5.out.below hb B5.out.lt)
                replace B6 := Lib.hid (B6.out.below hb B6.out.lt)
                replace HN := Lib.hid (HN.out.below hb (Nat.le_refl _))
                replace H7 := Lib.hid (H7.out.below hb (Nat.le_refl _))
                replace HB := Lib.hid (HB.out.trans (hb.mono HB.out.size))
                clear hb
                have HC16 := Lib.hid (show Calls Try.prog 16 _ _ (GivesM l m cap 0 V15) from by
                  have h := wjoin_any l (some ⟨g, o, none⟩) m c cap ((i : Int), (k : Int)) ((i2 : Int), (k2 : Int)) V15 HM.out (by omega) HF9.out HN.out.any
                  rw [HE1.out] at h
                  exact h.mono fun _ _ h => h.m HM.out)
                obtain ⟨BNc0, BNc1⟩ := two_cells BN.out
                obtain ⟨BXc0, BXc1, BXc2, BXc3⟩ := four_cells BX.out
                go_wp2_with fail
                refine HC16.out.mono ?_
                rintro e V16 ⟨A9, c9, rfl, hn, hb⟩
                clear BNc0 BNc1 BXc0 BXc1 BXc2 BXc3 HC16
                replace BN := Lib.hid (BN.out.below hb BN.out.lt)
                replace BX := Lib.hid (BX.out.below hb BX.out.lt)
                replace B5 := Lib.hid (B5.out.below hb B5.out.lt)
                replace B6 := Lib.hid (B6.out.below hb B6.out.lt)
                replace B7 := Lib.hid (B7.out.below hb B7.out.lt)
                replace HN := Lib.hid (HN.out.below hb (Nat.le_refl _))
                replace H7 := Lib.hid (H7.out.below hb (Nat.le_refl _))
                replace HB := Lib.hid (HB.out.trans (hb.mono HB.out.size))
                clear hb
                have H9 := Lib.hid hn
                clear hn
                go_upto_region 6 with fail
                obtain ⟨V17, hV17⟩ : ∃ V, V = V16.alloc (.cells #[.slice A9 m c9, .int .i64 cap] 24) := ⟨_, rfl⟩
                obtain ⟨B9b, hB9b⟩ : ∃ B, B = V16.heap.size := ⟨_, rfl⟩
                have hb : Below V16.heap.size V16 V17 := by rw [hV17]; exact (Below.refl _ _).alloc (Nat.le_refl _) _
                have B9 : Hid (Lies V17 B9b 24 #[.slice A9 m c9, .int .i64 cap]) := Lib.hid (by rw [hV17, hB9b]; exact Lies.new _ _ _)
                rw [← hV17, ← hB9b]
                clear hV17 hB9b
                replace BN := Lib.hid (BN.out.below hb BN.out.lt)
                replace BX := Lib.hid (BX.out.below hb BX.out.lt)
                replace B5 := Lib.hid (B5.out.below hb B5.out.lt)
                replace B6 := Lib.hid (B6.out.below hb B6.out.lt)
                replace B7 := Lib.hid (B7.out.below hb B7.out.lt)
                replace HN := Lib.hid (HN.out.below hb (Nat.le_refl _))
                replace H7 := Lib.hid (H7.out.below hb (Nat.le_refl _))
                replace H9 := Lib.hid (H9.out.below hb (Nat.le_refl _))
                replace HB := Lib.hid (HB.out.trans (hb.mono HB.out.size))
                clear hb
                have HC18 := Lib.hid (same_any l A7 (some ⟨g, o, none⟩) m c7 c cap V17 HM.out (by omega) H7.out.any HN.out.any)
                obtain ⟨BNc0, BNc1⟩ := two_cells BN.out
                obtain ⟨BXc0, BXc1, BXc2, BXc3⟩ := four_cells BX.out
                obtain ⟨B5c0, B5c1⟩ := two_cells B5.out
                obtain ⟨B7c0, B7c1⟩ := two_cells B7.out
                go_wp2_with fail
                refine HC18.out.mono ?_
                rintro e V18 ⟨rfl, hb⟩
                clear BNc0 BNc1 BXc0 BXc1 BXc2 BXc3 B5c0 B5c1 B7c0 B7c1 HC18
                replace BN := Lib.hid (BN.out.below hb BN.out.lt)
                replace BX := Lib.hid (BX.out.below hb BX.out.lt)
                replace B5 := Lib.hid (B5.out.below hb B5.out.lt)
                replace B6 := Lib.hid (B6.out.below hb B6.out.lt)
                replace B7 := Lib.hid (B7.out.below hb B7.out.lt)
                replace B9 := Lib.hid (B9.out.below hb B9.out.lt)
                replace HN := Lib.hid (HN.out.below hb (Nat.le_refl _))
                replace H7 := Lib.hid (H7.out.below hb (Nat.le_refl _))
                replace H9 := Lib.hid (H9.out.below hb (Nat.le_refl _))
                replace HB := Lib.hid (HB.out.trans (hb.mono HB.out.size))
                clear hb
                have HC19 := Lib.hid (same_any l A9 (some ⟨g, o, none⟩) m c9 c cap V18 HM.out (by omega) H9.out.any HN.out.any)
                obtain ⟨BNc0, BNc1⟩ := two_cells BN.out
                obtain ⟨B9c0, B9c1⟩ := two_cells B9.out
                go_wp2_with fail
                refine HC19.out.mono ?_
                rintro e V19 ⟨rfl, hb⟩
                clear BNc0 BNc1 B9c0 B9c1 HC19
                replace BN := Lib.hid (BN.out.below hb BN.out.lt)
                replace BX := Lib.hid (BX.out.below hb BX.out.lt)
                replace B5 := Lib.hid (B5.out.below hb B5.out.lt)
                replace B6 := Lib.hid (B6.out.below hb B6.out.lt)
                replace B7 := Lib.hid (B7.out.below hb B7.out.lt)
                replace B9 := Lib.hid (B9.out.below hb B9.out.lt)
                replace HN := Lib.hid (HN.out.below hb (Nat.le_refl _))
                replace H7 := Lib.hid (H7.out.below hb (Nat.le_refl _))
                replace H9 := Lib.hid (H9.out.below hb (Nat.le_refl _))
                replace HB := Lib.hid (HB.out.trans (hb.mono HB.out.size))
                clear hb
                go_wp2_with fail
                go_ret
                exact ⟨rfl, HB.out⟩
              | false =>
                have hnq : toAt l ((i : Int), (k : Int)) ≠ ((i2 : Int), (k2 : Int)) := by rw [← HA.out]; simpa using hε.symm
                have h1 := H1.out
                have h2 := H2.out
                have ha1 : hasV l (aa, ab) = true := HA1.out
                have hb1 : hasV l (ba, bc) = true := HB1.out
                have hne1 : ((aa, ab) : Int × Int) ≠ ((i2 : Int), (k2 : Int)) := by simpa using hε.symm
                have hab : ((aa, ab) : Int × Int) ≠ (ba, bc) := by have h := hjo.1; rw [← HA.out, ← HBB.out] at h; exact h
                obtain ⟨nM, hnM⟩ : ∃ q, q = setNV (setNV l ((i2 : Int), (k2 : Int)) (aa, ab)) (aa, ab) ((i2 : Int), (k2 : Int)) := ⟨_, rfl⟩
                obtain ⟨nJ, hnJ⟩ : ∃ q, q = setNV (setNV l (aa, ab) (ba, bc)) (ba, bc) (aa, ab) := ⟨_, rfl⟩
                have HE := Lib.hid (show moveNV l ((i : Int), (k : Int)) ((i2 : Int), (k2 : Int)) = (nM, 0) by rw [move_ok HCH.out h1 h2 H3.out, if_neg hnq, hnM, HA.out])
                have HE1 := Lib.hid (show joinNV l ((i : Int), (k : Int)) ((i2 : Int), (k2 : Int)) = (nJ, 0) by rw [hjo.2, if_neg hnq, hnJ, HA.out, HBB.out])
                have HP1 := Lib.hid (show peerNV nM (aa, ab) = (((i2 : Int), (k2 : Int)), 0) by rw [hnM, peer_ok (by rw [has2]; exact ha1), to2 h2 ha1 ha1, if_pos rfl])
                have HP2 := Lib.hid (show peerNV nM ((i2 : Int), (k2 : Int)) = ((aa, ab), 0) by rw [hnM, peer_ok (by rw [has2]; exact h2), to2 h2 ha1 h2, if_neg (fun e => hne1 e.symm), if_pos rfl])
                have HP3 := Lib.hid (show peerNV nJ (aa, ab) = ((ba, bc), 0) by rw [hnJ, peer_ok (by rw [has2]; exact ha1), to2 ha1 hb1 ha1, if_neg hab, if_pos rfl])
                have HP4 := Lib.hid (show peerNV nJ (ba, bc) = ((aa, ab), 0) by rw [hnJ, peer_ok (by rw [has2]; exact hb1), to2 ha1 hb1 hb1, if_pos rfl])
                have HO1 := Lib.hid (show othersN l nM [((i2 : Int), (k2 : Int)), (aa, ab)] by rw [hnM]; exact others2 h2 ha1)
                have HO2 := Lib.hid (show othersN l nJ [(aa, ab), (ba, bc)] by rw [hnJ]; exact others2 ha1 hb1)
                have HML := Lib.hid (show m = nM.length by rw [hnM, len2]; exact HM.out)
                have HMJ := Lib.hid (show m = nJ.length by rw [hnJ, len2]; exact HM.out)
                clear hε hnq h1 h2 ha1 hb1 hne1 hab hnM hnJ hjo
                have HC20 := Lib.hid (show Calls Try.prog 14 _ _ (GivesM nM m cap 0 U5) from by
                  have h := wmove_any l (some ⟨g, o, none⟩) m c cap ((i : Int), (k : Int)) ((i2 : Int), (k2 : Int)) U5 HM.out (by omega) HF9.out HN.out.any
                  rw [HE.out] at h
                  exact h.mono fun _ _ h => h.m HML.out)
                obtain ⟨BNc0, BNc1⟩ := two_cells BN.out
                obtain ⟨BXc0, BXc1, BXc2, BXc3⟩ := four_cells BX.out
                go_wp2_with fail
                refine HC20.out.mono ?_
                rintro e V20 ⟨A7, c7, rfl, hn, hb⟩
                clear BNc0 BNc1 BXc0 BXc1 BXc2 BXc3 HC20
                replace BN := Lib.hid (BN.out.below hb BN.out.lt)
                replace BX := Lib.hid (BX.out.below hb BX.out.lt)
                replace B5 := Lib.hid (B5.out.below hb B5.out.lt)
                replace B6 := Lib.hid (B6.out.below hb B6.out.lt)
                replace HN := Lib.hid (HN.out.below hb (Nat.le_refl _))
                replace HB := Lib.hid (HB.out.trans (hb.mono HB.out.size))
                clear hb
                have H7 := Lib.hid hn
                clear hn
                go_upto_region 5 with fail
                obtain ⟨V21, hV21⟩ : ∃ V, V = V20.alloc (.cells #[.slice A7 m c7, .int .i64 cap] 24) := ⟨_, rfl⟩
                obtain ⟨B7b, hB7b⟩ : ∃ B, B = V20.heap.size := ⟨_, rfl⟩
                have hb : Below V20.heap.size V20 V21 := by rw [hV21]; exact (Below.refl _ _).alloc (Nat.le_refl _) _
                have B7 : Hid (Lies V21 B7b 24 #[.slice A7 m c7, .int .i64 cap]) := Lib.hid (by rw [hV21, hB7b]; exact Lies.new _ _ _)
                rw [← hV21, ← hB7b]
                clear hV21 hB7b
                replace BN := Lib.hid (BN.out.below hb BN.out.lt)
                replace BX := Lib.hid (BX.out.below hb BX.out.lt)
                replace B5 := Lib.hid (B5.out.below hb B5.out.lt)
                replace B6 := Lib.hid (B6.out.below hb B6.out.lt)
                replace HN := Lib.hid (HN.out.below hb (Nat.le_refl _))
                replace H7 := Lib.hid (H7.out.below hb (Nat.le_refl _))
                replace HB := Lib.hid (HB.out.trans (hb.mono HB.out.size))
                clear hb
                have HC22 := Lib.hid (show Calls Try.prog 16 _ _ (GivesM nJ m cap 0 V21) from by
                  have h := wjoin_any l (some ⟨g, o, none⟩) m c cap ((i : Int), (k : Int)) ((i2 : Int), (k2 : Int)) V21 HM.out (by omega) HF9.out HN.out.any
                  rw [HE1.out] at h
                  exact h.mono fun _ _ h => h.m HMJ.out)
                obtain ⟨BNc0, BNc1⟩ := two_cells BN.out
                obtain ⟨BXc0, BXc1, BXc2, BXc3⟩ := four_cells BX.out
                go_wp2_with fail
                refine HC22.out.mono ?_
                rintro e V22 ⟨A9, c9, rfl, hn, hb⟩
                clear BNc0 BNc1 BXc0 BXc1 BXc2 BXc3 HC22
                replace BN := Lib.hid (BN.out.below hb BN.out.lt)
                replace BX := Lib.hid (BX.out.below hb BX.out.lt)
                replace B5 := Lib.hid (B5.out.below hb B5.out.lt)
                replace B6 := Lib.hid (B6.out.below hb B6.out.lt)
                replace B7 := Lib.hid (B7.out.below hb B7.out.lt)
                replace HN := Lib.hid (HN.out.below hb (Nat.le_refl _))
                replace H7 := Lib.hid (H7.out.below hb (Nat.le_refl _))
                replace HB := Lib.hid (HB.out.trans (hb.mono HB.out.size))
                clear hb
                have H9 := Lib.hid hn
                clear hn
                go_upto_region 6 with fail
                obtain ⟨V23, hV23⟩ : ∃ V, V = V22.alloc (.cells #[.slice A9 m c9, .int .i64 cap] 24) := ⟨_, rfl⟩
                obtain ⟨B9b, hB9b⟩ : ∃ B, B = V22.heap.size := ⟨_, rfl⟩
                have hb : Below V22.heap.size V22 V23 := by rw [hV23]; exact (Below.refl _ _).alloc (Nat.le_refl _) _
                have B9 : Hid (Lies V23 B9b 24 #[.slice A9 m c9, .int .i64 cap]) := Lib.hid (by rw [hV23, hB9b]; exact Lies.new _ _ _)
                rw [← hV23, ← hB9b]
                clear hV23 hB9b
                replace BN := Lib.hid (BN.out.below hb BN.out.lt)
                replace BX := Lib.hid (BX.out.below hb BX.out.lt)
                replace B5 := Lib.hid (B5.out.below hb B5.out.lt)
                replace B6 := Lib.hid (B6.out.below hb B6.out.lt)
                replace B7 := Lib.hid (B7.out.below hb B7.out.lt)
                replace HN := Lib.hid (HN.out.below hb (Nat.le_refl _))
                replace H7 := Lib.hid (H7.out.below hb (Nat.le_refl _))
                replace H9 := Lib.hid (H9.out.below hb (Nat.le_refl _))
                replace HB := Lib.hid (HB.out.trans (hb.mono HB.out.size))
                clear hb
                have HC24 := Lib.hid (show Calls Try.prog 10 _ _ (fun e w' => e = .returned (.tuple #[.agg #[.int .i64 (i2 : Int), .int .i64 (k2 : Int)], .int .i64 0]) ∧ Below V23.heap.size V23 w') from by
                  have h := wPeer_any nM A7 m c7 cap (aa, ab) V23 HML.out H7.out.any
                  rw [HP1.out] at h
                  exact h)
                obtain ⟨BXc0, BXc1, BXc2, BXc3⟩ := four_cells BX.out
                obtain ⟨B5c0, B5c1⟩ := two_cells B5.out
                obtain ⟨B7c0, B7c1⟩ := two_cells B7.out
                go_wp2_with fail
                refine HC24.out.mono ?_
                rintro e V24 ⟨rfl, hb⟩
                clear BXc0 BXc1 BXc2 BXc3 B5c0 B5c1 B7c0 B7c1 HC24
                replace BN := Lib.hid (BN.out.below hb BN.out.lt)
                replace BX := Lib.hid (BX.out.below hb BX.out.lt)
                replace B5 := Lib.hid (B5.out.below hb B5.out.lt)
                replace B6 := Lib.hid (B6.out.below hb B6.out.lt)
                replace B7 := Lib.hid (B7.out.below hb B7.out.lt)
                replace B9 := Lib.hid (B9.out.below hb B9.out.lt)
                replace HN := Lib.hid (HN.out.below hb (Nat.le_refl _))
                replace H7 := Lib.hid (H7.out.below hb (Nat.le_refl _))
                replace H9 := Lib.hid (H9.out.below hb (Nat.le_refl _))
                replace HB := Lib.hid (HB.out.trans (hb.mono HB.out.size))
                clear hb
                go_upto_region 11 with fail
                obtain ⟨V25, hV25⟩ : ∃ V, V = V24.alloc (.cells #[.int .i64 (i2 : Int), .int .i64 (k2 : Int)] 26) := ⟨_, rfl⟩
                obtain ⟨B11b, hB11b⟩ : ∃ B, B = V24.heap.size := ⟨_, rfl⟩
                have hb : Below V24.heap.size V24 V25 := by rw [hV25]; exact (Below.refl _ _).alloc (Nat.le_refl _) _
                have B11 : Hid (Lies V25 B11b 26 #[.int .i64 (i2 : Int), .int .i64 (k2 : Int)]) := Lib.hid (by rw [hV25, hB11b]; exact Lies.new _ _ _)
                rw [← hV25, ← hB11b]
                clear hV25 hB11b
                replace BN := Lib.hid (BN.out.below hb BN.out.lt)
                replace BX := Lib.hid (BX.out.below hb BX.out.lt)
                replace B5 := Lib.hid (B5.out.below hb B5.out.lt)
                replace B6 := Lib.hid (B6.out.below hb B6.out.lt)
                replace B7 := Lib.hid (B7.out.below hb B7.out.lt)
                replace B9 := Lib.hid (B9.out.below hb B9.out.lt)
                replace HN := Lib.hid (HN.out.below hb (Nat.le_refl _))
                replace H7 := Lib.hid (H7.out.below hb (Nat.le_refl _))
                replace H9 := Lib.hid (H9.out.below hb (Nat.le_refl _))
                replace HB := Lib.hid (HB.out.trans (hb.mono HB.out.size))
                clear hb
                have HC26 := Lib.hid (show Calls Try.prog 10 _ _ (fun e w' => e = .returned (.tuple #[.agg #[.int .i64 aa, .int .i64 ab], .int .i64 0]) ∧ Below V25.heap.size V25 w') from by
                  have h := wPeer_any nM A7 m c7 cap ((i2 : Int), (k2 : Int)) V25 HML.out H7.out.any
                  rw [HP2.out] at h
                  exact h)
                obtain ⟨BXc0, BXc1, BXc2, BXc3⟩ := four_cells BX.out
                obtain ⟨B7c0, B7c1⟩ := two_cells B7.out
                go_wp2_with fail
                refine HC26.out.mono ?_
                rintro e V26 ⟨rfl, hb⟩
                clear BXc0 BXc1 BXc2 BXc3 B7c0 B7c1 HC26
                replace BN := Lib.hid (BN.out.below hb BN.out.lt)
                replace BX := Lib.hid (BX.out.below hb BX.out.lt)
                replace B5 := Lib.hid (B5.out.below hb B5.out.lt)
                replace B6 := Lib.hid (B6.out.below hb B6.out.lt)
                replace B7 := Lib.hid (B7.out.below hb B7.out.lt)
                replace B9 := Lib.hid (B9.out.below hb B9.out.lt)
                replace B11 := Lib.hid (B11.out.below hb B11.out.lt)
                replace HN := Lib.hid (HN.out.below hb (Nat.le_refl _))
                replace H7 := Lib.hid (H7.out.below hb (Nat.le_refl _))
                replace H9 := Lib.hid (H9.out.below hb (Nat.le_refl _))
                replace HB := Lib.hid (HB.out.trans (hb.mono HB.out.size))
                clear hb
                go_upto_region 12 with fail
                obtain ⟨V27, hV27⟩ : ∃ V, V = V26.alloc (.cells #[.int .i64 aa, .int .i64 ab] 26) := ⟨_, rfl⟩
                obtain ⟨B13b, hB13b⟩ : ∃ B, B = V26.heap.size := ⟨_, rfl⟩
                have hb : Below V26.heap.size V26 V27 := by rw [hV27]; exact (Below.refl _ _).alloc (Nat.le_refl _) _
                have B13 : Hid (Lies V27 B13b 26 #[.int .i64 aa, .int .i64 ab]) := Lib.hid (by rw [hV27, hB13b]; exact Lies.new _ _ _)
                rw [← hV27, ← hB13b]
                clear hV27 hB13b
                replace BN := Lib.hid (BN.out.below hb BN.out.lt)
                replace BX := Lib.hid (BX.out.below hb BX.out.lt)
                replace B5 := Lib.hid (B5.out.below hb B5.out.lt)
                replace B6 := Lib.hid (B6.out.below hb B6.out.lt)
                replace B7 := Lib.hid (B7.out.below hb B7.out.lt)
                replace B9 := Lib.hid (B9.out.below hb B9.out.lt)
                replace B11 := Lib.hid (B11.out.below hb B11.out.lt)
                replace HN := Lib.hid (HN.out.below hb (Nat.le_refl _))
                replace H7 := Lib.hid (H7.out.below hb (Nat.le_refl _))
                replace H9 := Lib.hid (H9.out.below hb (Nat.le_refl _))
                replace HB := Lib.hid (HB.out.trans (hb.mono HB.out.size))
                clear hb
                have HC28 := Lib.hid (show Calls Try.prog 10 _ _ (fun e w' => e = .returned (.tuple #[.agg #[.int .i64 ba, .int .i64 bc], .int .i64 0]) ∧ Below V27.heap.size V27 w') from by
                  have h := wPeer_any nJ A9 m c9 cap (aa, ab) V27 HMJ.out H9.out.any
                  rw [HP3.out] at h
                  exact h)
                obtain ⟨B5c0, B5c1⟩ := two_cells B5.out
                obtain ⟨B9c0, B9c1⟩ := two_cells B9.out
                go_wp2_with fail
                refine HC28.out.mono ?_
                rintro e V28 ⟨rfl, hb⟩
                clear B5c0 B5c1 B9c0 B9c1 HC28
                replace BN := Lib.hid (BN.out.below hb BN.out.lt)
                replace BX := Lib.hid (BX.out.below hb BX.out.lt)
                replace B5 := Lib.hid (B5.out.below hb B5.out.lt)
                replace B6 := Lib.hid (B6.out.below hb B6.out.lt)
                replace B7 := Lib.hid (B7.out.below hb B7.out.lt)
                replace B9 := Lib.hid (B9.out.below hb B9.out.lt)
                replace B11 := Lib.hid (B11.out.below hb B11.out.lt)
                replace B13 := Lib.hid (B13.out.below hb B13.out.lt)
                replace HN := Lib.hid (HN.out.below hb (Nat.le_refl _))
                replace H7 := Lib.hid (H7.out.below hb (Nat.le_refl _))
                replace H9 := Lib.hid (H9.out.below hb (Nat.le_refl _))
                replace HB := Lib.hid (HB.out.trans (hb.mono HB.out.size))
                clear hb
                go_upto_region 13 with fail
                obtain ⟨V29, hV29⟩ : ∃ V, V = V28.alloc (.cells #[.int .i64 ba, .int .i64 bc] 26) := ⟨_, rfl⟩
                obtain ⟨B15b, hB15b⟩ : ∃ B, B = V28.heap.size := ⟨_, rfl⟩
                have hb : Below V28.heap.size V28 V29 := by rw [hV29]; exact (Below.refl _ _).alloc (Nat.le_refl _) _
                have B15 : Hid (Lies V29 B15b 26 #[.int .i64 ba, .int .i64 bc]) := Lib.hid (by rw [hV29, hB15b]; exact Lies.new _ _ _)
                rw [← hV29, ← hB15b]
                clear hV29 hB15b
                replace BN := Lib.hid (BN.out.below hb BN.out.lt)
                replace BX := Lib.hid (BX.out.below hb BX.out.lt)
                replace B5 := Lib.hid (B5.out.below hb B5.out.lt)
                replace B6 := Lib.hid (B6.out.below hb B6.out.lt)
                replace B7 := Lib.hid (B7.out.below hb B7.out.lt)
                replace B9 := Lib.hid (B9.out.below hb B9.out.lt)
                replace B11 := Lib.hid (B11.out.below hb B11.out.lt)
                replace B13 := Lib.hid (B13.out.below hb B13.out.lt)
                replace HN := Lib.hid (HN.out.below hb (Nat.le_refl _))
                replace H7 := Lib.hid (H7.out.below hb (Nat.le_refl _))
                replace H9 := Lib.hid (H9.out.below hb (Nat.le_refl _))
                replace HB := Lib.hid (HB.out.trans (hb.mono HB.out.size))
                clear hb
                have HC30 := Lib.hid (show Calls Try.prog 10 _ _ (fun e w' => e = .returned (.tuple #[.agg #[.int .i64 aa, .int .i64 ab], .int .i64 0]) ∧ Below V29.heap.size V29 w') from by
                  have h := wPeer_any nJ A9 m c9 cap (ba, bc) V29 HMJ.out H9.out.any
                  rw [HP4.out] at h
                  exact h)
                obtain ⟨B6c0, B6c1⟩ := two_cells B6.out
                obtain ⟨B9c0, B9c1⟩ := two_cells B9.out
                go_wp2_with fail
                refine HC30.out.mono ?_
                rintro e V30 ⟨rfl, hb⟩
                clear B6c0 B6c1 B9c0 B9c1 HC30
                replace BN := Lib.hid (BN.out.below hb BN.out.lt)
                replace BX := Lib.hid (BX.out.below hb BX.out.lt)
                replace B5 := Lib.hid (B5.out.below hb B5.out.lt)
                replace B6 := Lib.hid (B6.out.below hb B6.out.lt)
                replace B7 := Lib.hid (B7.out.below hb B7.out.lt)
                replace B9 := Lib.hid (B9.out.below hb B9.out.lt)
                replace B11 := Lib.hid (B11.out.below hb B11.out.lt)
                replace B13 := Lib.hid (B13.out.below hb B13.out.lt)
                replace B15 := Lib.hid (B15.out.below hb B15.out.lt)
                replace HN := Lib.hid (HN.out.below hb (Nat.le_refl _))
                replace H7 := Lib.hid (H7.out.below hb (Nat.le_refl _))
                replace H9 := Lib.hid (H9.out.below hb (Nat.le_refl _))
                replace HB := Lib.hid (HB.out.trans (hb.mono HB.out.size))
                clear hb
                go_upto_region 14 with fail
                obtain ⟨V31, hV31⟩ : ∃ V, V = V30.alloc (.cells #[.int .i64 aa, .int .i64 ab] 26) := ⟨_, rfl⟩
                obtain ⟨B17b, hB17b⟩ : ∃ B, B = V30.heap.size := ⟨_, rfl⟩
                have hb : Below V30.heap.size V30 V31 := by rw [hV31]; exact (Below.refl _ _).alloc (Nat.le_refl _) _
                have B17 : Hid (Lies V31 B17b 26 #[.int .i64 aa, .int .i64 ab]) := Lib.hid (by rw [hV31, hB17b]; exact Lies.new _ _ _)
                rw [← hV31, ← hB17b]
                clear hV31 hB17b
                replace BN := Lib.hid (BN.out.below hb BN.out.lt)
                replace BX := Lib.hid (BX.out.below hb BX.out.lt)
                replace B5 := Lib.hid (B5.out.below hb B5.out.lt)
                replace B6 := Lib.hid (B6.out.below hb B6.out.lt)
                replace B7 := Lib.hid (B7.out.below hb B7.out.lt)
                replace B9 := Lib.hid (B9.out.below hb B9.out.lt)
                replace B11 := Lib.hid (B11.out.below hb B11.out.lt)
                replace B13 := Lib.hid (B13.out.below hb B13.out.lt)
                replace B15 := Lib.hid (B15.out.below hb B15.out.lt)
                replace HN := Lib.hid (HN.out.below hb (Nat.le_refl _))
                replace H7 := Lib.hid (H7.out.below hb (Nat.le_refl _))
                replace H9 := Lib.hid (H9.out.below hb (Nat.le_refl _))
                replace HB := Lib.hid (HB.out.trans (hb.mono HB.out.size))
                clear hb
                have hq1 := port_eql aa ab aa ab
                have hq2 := port_eql ba bc ba bc
                have hq3 := port_eql (i2 : Int) (k2 : Int) (i2 : Int) (k2 : Int)
                simp only [beq_self_eq_true] at hq1 hq2 hq3
                have hAl : Below V31.heap.size V31 (V31.alloc (.cells #[.int .i64 (i2 : Int), .int .i64 (k2 : Int), .int .i64 aa, .int .i64 ab] 26)) := (Below.refl _ _).alloc (Nat.le_refl _) _
                have HC32 := Lib.hid (others_any l nM (some ⟨g, o, none⟩) A7 m c c7 cap cap [((i2 : Int), (k2 : Int)), (aa, ab)] (some ⟨V31.heap.size, 0, none⟩) 2 2 (V31.alloc (.cells #[.int .i64 (i2 : Int), .int .i64 (k2 : Int), .int .i64 aa, .int .i64 ab] 26)) HM.out (by omega) (fun i hi => by have h9 := H12.out i (by have := HM.out; omega); omega) HO1.out (HN.out.any.below hAl (Nat.le_refl _)) (H7.out.any.below hAl (Nat.le_refl _)) rfl (by omega) (to_two (Lies.new _ _ _)))
                have HAL := Lib.hid hAl
                clear hAl
                obtain ⟨BNc0, BNc1⟩ := two_cells BN.out
                obtain ⟨BXc0, BXc1, BXc2, BXc3⟩ := four_cells BX.out
                obtain ⟨B5c0, B5c1⟩ := two_cells B5.out
                obtain ⟨B6c0, B6c1⟩ := two_cells B6.out
                obtain ⟨B7c0, B7c1⟩ := two_cells B7.out
                obtain ⟨B11c0, B11c1⟩ := two_cells B11.out
                obtain ⟨B13c0, B13c1⟩ := two_cells B13.out
                obtain ⟨B15c0, B15c1⟩ := two_cells B15.out
                obtain ⟨B17c0, B17c1⟩ := two_cells B17.out
                go_wp2_with fail
                refine HC32.out.mono ?_
                rintro e V32 ⟨rfl, hb9⟩
                have hb := HAL.out.trans (hb9.mono HAL.out.size)
                clear BNc0 BNc1 BXc0 BXc1 BXc2 BXc3 B5c0 B5c1 B6c0 B6c1 B7c0 B7c1 B11c0 B11c1 B13c0 B13c1 B15c0 B15c1 B17c0 B17c1 HC32 hb9 HAL
                replace BN := Lib.hid (BN.out.below hb BN.out.lt)
                replace BX := Lib.hid (BX.out.below hb BX.out.lt)
                replace B5 := Lib.hid (B5.out.below hb B5.out.lt)
                replace B6 := Lib.hid (B6.out.below hb B6.out.lt)
                replace B7 := Lib.hid (B7.out.below hb B7.out.lt)
                replace B9 := Lib.hid (B9.out.below hb B9.out.lt)
                replace B11 := Lib.hid (B11.out.below hb B11.out.lt)
                replace B13 := Lib.hid (B13.out.below hb B13.out.lt)
                replace B15 := Lib.hid (B15.out.below hb B15.out.lt)
                replace B17 := Lib.hid (B17.out.below hb B17.out.lt)
                replace HN := Lib.hid (HN.out.below hb (Nat.le_refl _))
                replace H7 := Lib.hid (H7.out.below hb (Nat.le_refl _))
                replace H9 := Lib.hid (H9.out.below hb (Nat.le_refl _))
                replace HB := Lib.hid (HB.out.trans (hb.mono HB.out.size))
                clear hb
                have hAl : Below V32.heap.size V32 (V32.alloc (.cells #[.int .i64 aa, .int .i64 ab, .int .i64 ba, .int .i64 bc] 26)) := (Below.refl _ _).alloc (Nat.le_refl _) _
                have HC33 := Lib.hid (others_any l nJ (some ⟨g, o, none⟩) A9 m c c9 cap cap [(aa, ab), (ba, bc)] (some ⟨V32.heap.size, 0, none⟩) 2 2 (V32.alloc (.cells #[.int .i64 aa, .int .i64 ab, .int .i64 ba, .int .i64 bc] 26)) HM.out (by omega) (fun i hi => by have h9 := H12.out i (by have := HM.out; omega); omega) HO2.out (HN.out.any.below hAl (Nat.le_refl _)) (H9.out.any.below hAl (Nat.le_refl _)) rfl (by omega) (to_two (Lies.new _ _ _)))
                have HAL := Lib.hid hAl
                clear hAl
                obtain ⟨BNc0, BNc1⟩ := two_cells BN.out
                obtain ⟨B5c0, B5c1⟩ := two_cells B5.out
                obtain ⟨B6c0, B6c1⟩ := two_cells B6.out
                obtain ⟨B9c0, B9c1⟩ := two_cells B9.out
                go_wp2_with fail
                refine HC33.out.mono ?_
                rintro e V33 ⟨rfl, hb9⟩
                have hb := HAL.out.trans (hb9.mono HAL.out.size)
                clear BNc0 BNc1 B5c0 B5c1 B6c0 B6c1 B9c0 B9c1 HC33 hb9 HAL
                replace BN := Lib.hid (BN.out.below hb BN.out.lt)
                replace BX := Lib.hid (BX.out.below hb BX.out.lt)
                replace B5 := Lib.hid (B5.out.below hb B5.out.lt)
                replace B6 := Lib.hid (B6.out.below hb B6.out.lt)
                replace B7 := Lib.hid (B7.out.below hb B7.out.lt)
                replace B9 := Lib.hid (B9.out.below hb B9.out.lt)
                replace B11 := Lib.hid (B11.out.below hb B11.out.lt)
                replace B13 := Lib.hid (B13.out.below hb B13.out.lt)
                replace B15 := Lib.hid (B15.out.below hb B15.out.lt)
                replace B17 := Lib.hid (B17.out.below hb B17.out.lt)
                replace HN := Lib.hid (HN.out.below hb (Nat.le_refl _))
                replace H7 := Lib.hid (H7.out.below hb (Nat.le_refl _))
                replace H9 := Lib.hid (H9.out.below hb (Nat.le_refl _))
                replace HB := Lib.hid (HB.out.trans (hb.mono HB.out.size))
                clear hb
                go_wp2_with fail
                go_ret
                exact ⟨rfl, HB.out⟩
end Lx
end Go.Proofs.Ytceblpjlklogpaa
