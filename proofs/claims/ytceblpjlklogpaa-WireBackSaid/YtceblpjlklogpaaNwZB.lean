/-
  The law WireBack, walked.
-/
import Derived.Test.YtceblpjlklogpaaC10
namespace Go.Proofs.Ytceblpjlklogpaa
open Go Go.RowKit
namespace Lx
set_option maxRecDepth 100000
set_option maxHeartbeats 40000000 in
theorem wireBack_law (HFX : ∀ V : World, Calls Try.prog 9 #[] V fun e w' => e = .returned (.bool true) ∧ Below V.heap.size V w') (l : List Nd) (A : Option Addr) (m c : Nat) (cap pa pb qa qb : Int) (w : World) (hm : m = l.length) (hm2 : m ≤ 140737488351232) (hN : NdsIn w AnyB l A) :
    Calls Try.prog 6 #[.agg #[.slice A m c, .int .i64 cap], .agg #[.int .i64 pa, .int .i64 pb, .int .i64 qa, .int .i64 qb]] w fun e w' => e = .returned (.bool true) ∧ Below w.heap.size w w' := by
  obtain ⟨W, hW⟩ : ∃ W, W = ((w.alloc (.cells #[.slice A m c, .int .i64 cap] 24)).alloc (.cells #[.int .i64 pa, .int .i64 pb, .int .i64 qa, .int .i64 qb] 28)) := ⟨_, rfl⟩
  have hb : Below w.heap.size w W := by rw [hW]; exact ((Below.refl _ w).alloc (Nat.le_refl _) _).alloc (by simp) _
  have BN : Hid (Lies W w.heap.size 24 #[.slice A m c, .int .i64 cap]) := Lib.hid (by rw [hW]; exact (Lies.new _ _ _).old _)
  have BX : Hid (Lies W (w.heap.size + 1) 28 #[.int .i64 pa, .int .i64 pb, .int .i64 qa, .int .i64 qb]) := Lib.hid (by rw [hW]; simpa using Lies.new (w.alloc (.cells #[.slice A m c, .int .i64 cap] 24)) 28 #[.int .i64 pa, .int .i64 pb, .int .i64 qa, .int .i64 qb])
  have HN : Hid (NdsIn W (fun g => g < w.heap.size) l A) := Lib.hid (hN.keep (fun q j _ hlt => ⟨hb.cell (p := ⟨q, j, none⟩) hlt, hlt⟩))
  have HB := Lib.hid hb
  have HM := Lib.hid hm
  clear hN hm hb
  go_enter Try.func6, Try.ntmps6
  go_upto_region 1 with fail
  rw [← hW]
  clear hW
  have HC1 := Lib.hid (HFX W)
  go_wp2_with fail
  refine HC1.out.mono ?_
  rintro e V1 ⟨rfl, hb⟩
  clear  HC1
  replace BN := Lib.hid (BN.out.below hb BN.out.lt)
  replace BX := Lib.hid (BX.out.below hb BX.out.lt)
  replace HN := Lib.hid (HN.out.below hb (Nat.le_refl _))
  replace HB := Lib.hid (HB.out.trans (hb.mono HB.out.size))
  clear hb
  have HC2 := Lib.hid (small_any l A m c cap 150 V1 HM.out hm2 HN.out.any)
  obtain ⟨BNc0, BNc1⟩ := two_cells BN.out
  go_wp2_with fail
  refine HC2.out.mono ?_
  rintro e V2 ⟨rfl, hb⟩
  clear BNc0 BNc1 HC2
  replace BN := Lib.hid (BN.out.below hb BN.out.lt)
  replace BX := Lib.hid (BX.out.below hb BX.out.lt)
  replace HN := Lib.hid (HN.out.below hb (Nat.le_refl _))
  replace HB := Lib.hid (HB.out.trans (hb.mono HB.out.size))
  clear hb
  cases hs : smallV l 150 with
  | false =>
    have HC3 := Lib.hid (HFX V2)
    go_wp2_with fail
    refine HC3.out.mono ?_
    rintro e V3 ⟨rfl, hb⟩
    clear  HC3
    replace BN := Lib.hid (BN.out.below hb BN.out.lt)
    replace BX := Lib.hid (BX.out.below hb BX.out.lt)
    replace HN := Lib.hid (HN.out.below hb (Nat.le_refl _))
    replace HB := Lib.hid (HB.out.trans (hb.mono HB.out.size))
    clear hb
    go_wp2_with fail
    go_ret
    exact ⟨rfl, HB.out⟩
  | true =>
    obtain ⟨hm150', hfew, h12⟩ := small_few hs
    have hm150 : m ≤ 150 := by have := HM.out; omega
    have HF9 := Lib.hid hfew
    have H12 := Lib.hid h12
    clear hs hm150' hfew h12
    obtain ⟨ck, hck0⟩ : ∃ q, q = checkV l cap := ⟨_, rfl⟩
    obtain ⟨hP, hhP⟩ : ∃ q, q = hasV l (pa, pb) := ⟨_, rfl⟩
    obtain ⟨hQ, hhQ⟩ : ∃ q, q = hasV l (qa, qb) := ⟨_, rfl⟩
    obtain ⟨δ, hδ⟩ : ∃ δ, δ = (((pa, pb) : Int × Int) == (qa, qb)) := ⟨_, rfl⟩
    have HCK := Lib.hid hck0
    have HHP := Lib.hid hhP
    have HHQ := Lib.hid hhQ
    have HDE := Lib.hid hδ
    clear hck0 hhP hhQ hδ
    cases ck with
    | false =>
      have HC4 := Lib.hid (show Calls Try.prog 19 _ _ (fun e w' => e = .returned (.int .i64 120) ∧ Below V2.heap.size V2 w') from by
        have h := rcheck_any l A m c cap V2 HM.out hm2 HN.out.any
        rw [checkI, ← HCK.out] at h
        simpa using h)
      obtain ⟨BNc0, BNc1⟩ := two_cells BN.out
      go_wp2_with fail
      refine HC4.out.mono ?_
      rintro e V4 ⟨rfl, hb⟩
      clear BNc0 BNc1 HC4
      replace BN := Lib.hid (BN.out.below hb BN.out.lt)
      replace BX := Lib.hid (BX.out.below hb BX.out.lt)
      replace HN := Lib.hid (HN.out.below hb (Nat.le_refl _))
      replace HB := Lib.hid (HB.out.trans (hb.mono HB.out.size))
      clear hb
      have HC5 := Lib.hid (HFX V4)
      go_wp2_with fail
      refine HC5.out.mono ?_
      rintro e V5 ⟨rfl, hb⟩
      clear  HC5
      replace BN := Lib.hid (BN.out.below hb BN.out.lt)
      replace BX := Lib.hid (BX.out.below hb BX.out.lt)
      replace HN := Lib.hid (HN.out.below hb (Nat.le_refl _))
      replace HB := Lib.hid (HB.out.trans (hb.mono HB.out.size))
      clear hb
      go_wp2_with fail
      go_ret
      exact ⟨rfl, HB.out⟩
    | true =>
      have HC6 := Lib.hid (show Calls Try.prog 19 _ _ (fun e w' => e = .returned (.int .i64 0) ∧ Below V2.heap.size V2 w') from by
        have h := rcheck_any l A m c cap V2 HM.out hm2 HN.out.any
        rw [checkI, ← HCK.out] at h
        simpa using h)
      obtain ⟨BNc0, BNc1⟩ := two_cells BN.out
      go_wp2_with fail
      refine HC6.out.mono ?_
      rintro e V6 ⟨rfl, hb⟩
      clear BNc0 BNc1 HC6
      replace BN := Lib.hid (BN.out.below hb BN.out.lt)
      replace BX := Lib.hid (BX.out.below hb BX.out.lt)
      replace HN := Lib.hid (HN.out.below hb (Nat.le_refl _))
      replace HB := Lib.hid (HB.out.trans (hb.mono HB.out.size))
      clear hb
      cases hP with
      | false =>
        have HC7 := Lib.hid (show Calls Try.prog 20 _ _ (fun e w' => e = .returned (.bool false) ∧ Below V6.heap.size V6 w') from by
          have h := has_any l A m c cap pa pb V6 HM.out HN.out.any
          rw [← HHP.out] at h
          exact h)
        obtain ⟨BNc0, BNc1⟩ := two_cells BN.out
        obtain ⟨BXc0, BXc1, BXc2, BXc3⟩ := four_cells BX.out
        go_wp2_with fail
        refine HC7.out.mono ?_
        rintro e V7 ⟨rfl, hb⟩
        clear BNc0 BNc1 BXc0 BXc1 BXc2 BXc3 HC7
        replace BN := Lib.hid (BN.out.below hb BN.out.lt)
        replace BX := Lib.hid (BX.out.below hb BX.out.lt)
        replace HN := Lib.hid (HN.out.below hb (Nat.le_refl _))
        replace HB := Lib.hid (HB.out.trans (hb.mono HB.out.size))
        clear hb
        have HC8 := Lib.hid (HFX V7)
        go_wp2_with fail
        refine HC8.out.mono ?_
        rintro e V8 ⟨rfl, hb⟩
        clear  HC8
        replace BN := Lib.hid (BN.out.below hb BN.out.lt)
        replace BX := Lib.hid (BX.out.below hb BX.out.lt)
        replace HN := Lib.hid (HN.out.below hb (Nat.le_refl _))
        replace HB := Lib.hid (HB.out.trans (hb.mono HB.out.size))
        clear hb
        go_wp2_with fail
        go_ret
        exact ⟨rfl, HB.out⟩
      | true =>
        have HC9 := Lib.hid (show Calls Try.prog 20 _ _ (fun e w' => e = .returned (.bool true) ∧ Below V6.heap.size V6 w') from by
          have h := has_any l A m c cap pa pb V6 HM.out HN.out.any
          rw [← HHP.out] at h
          exact h)
        obtain ⟨BNc0, BNc1⟩ := two_cells BN.out
        obtain ⟨BXc0, BXc1, BXc2, BXc3⟩ := four_cells BX.out
        go_wp2_with fail
        refine HC9.out.mono ?_
        rintro e V9 ⟨rfl, hb⟩
        clear BNc0 BNc1 BXc0 BXc1 BXc2 BXc3 HC9
        replace BN := Lib.hid (BN.out.below hb BN.out.lt)
        replace BX := Lib.hid (BX.out.below hb BX.out.lt)
        replace HN := Lib.hid (HN.out.below hb (Nat.le_refl _))
        replace HB := Lib.hid (HB.out.trans (hb.mono HB.out.size))
        clear hb
        cases hQ with
        | false =>
          have HC10 := Lib.hid (show Calls Try.prog 20 _ _ (fun e w' => e = .returned (.bool false) ∧ Below V9.heap.size V9 w') from by
            have h := has_any l A m c cap qa qb V9 HM.out HN.out.any
            rw [← HHQ.out] at h
            exact h)
          obtain ⟨BNc0, BNc1⟩ := two_cells BN.out
          obtain ⟨BXc0, BXc1, BXc2, BXc3⟩ := four_cells BX.out
          go_wp2_with fail
          refine HC10.out.mono ?_
          rintro e V10 ⟨rfl, hb⟩
          clear BNc0 BNc1 BXc0 BXc1 BXc2 BXc3 HC10
          replace BN := Lib.hid (BN.out.below hb BN.out.lt)
          replace BX := Lib.hid (BX.out.below hb BX.out.lt)
          replace HN := Lib.hid (HN.out.below hb (Nat.le_refl _))
          replace HB := Lib.hid (HB.out.trans (hb.mono HB.out.size))
          clear hb
          have HC11 := Lib.hid (HFX V10)
          go_wp2_with fail
          refine HC11.out.mono ?_
          rintro e V11 ⟨rfl, hb⟩
          clear  HC11
          replace BN := Lib.hid (BN.out.below hb BN.out.lt)
          replace BX := Lib.hid (BX.out.below hb BX.out.lt)
          replace HN := Lib.hid (HN.out.below hb (Nat.le_refl _))
          replace HB := Lib.hid (HB.out.trans (hb.mono HB.out.size))
          clear hb
          go_wp2_with fail
          go_ret
          exact ⟨rfl, HB.out⟩
        | true =>
          have HC12 := Lib.hid (show Calls Try.prog 20 _ _ (fun e w' => e = .returned (.bool true) ∧ Below V9.heap.size V9 w') from by
            have h := has_any l A m c cap qa qb V9 HM.out HN.out.any
            rw [← HHQ.out] at h
            exact h)
          obtain ⟨BNc0, BNc1⟩ := two_cells BN.out
          obtain ⟨BXc0, BXc1, BXc2, BXc3⟩ := four_cells BX.out
          go_wp2_with fail
          refine HC12.out.mono ?_
          rintro e V12 ⟨rfl, hb⟩
          clear BNc0 BNc1 BXc0 BXc1 BXc2 BXc3 HC12
          replace BN := Lib.hid (BN.out.below hb BN.out.lt)
          replace BX := Lib.hid (BX.out.below hb BX.out.lt)
          replace HN := Lib.hid (HN.out.below hb (Nat.le_refl _))
          replace HB := Lib.hid (HB.out.trans (hb.mono HB.out.size))
          clear hb
          have hne := port_eql pa pb qa qb
          rw [← HDE.out] at hne
          cases δ with
          | true =>
            obtain ⟨BXc0, BXc1, BXc2, BXc3⟩ := four_cells BX.out
            have HC13 := Lib.hid (HFX V12)
            go_wp2_with fail
            refine HC13.out.mono ?_
            rintro e V13 ⟨rfl, hb⟩
            clear BXc0 BXc1 BXc2 BXc3 HC13
            replace BN := Lib.hid (BN.out.below hb BN.out.lt)
            replace BX := Lib.hid (BX.out.below hb BX.out.lt)
            replace HN := Lib.hid (HN.out.below hb (Nat.le_refl _))
            replace HB := Lib.hid (HB.out.trans (hb.mono HB.out.size))
            clear hb
            go_wp2_with fail
            go_ret
            exact ⟨rfl, HB.out⟩
          | false =>
            obtain ⟨BXc0, BXc1, BXc2, BXc3⟩ := four_cells BX.out
            go_upto_region 3 with fail
            clear BXc0 BXc1 BXc2 BXc3 hne
            have h1 := HHP.out.symm
            have h2 := HHQ.out.symm
            have h3 : ((pa, pb) : Int × Int) ≠ (qa, qb) := by have h := HDE.out; intro e; rw [e] at h; simp at h
            have hck := HCK.out.symm
            obtain ⟨a1, a2, a3⟩ := checked_link hck h1
            obtain ⟨a, ha⟩ : ∃ a, a = toAt l (pa, pb) := ⟨_, rfl⟩
            rw [← ha] at a1 a2 a3
            obtain ⟨i, k, e9, hil, hkl⟩ := nat_port h1
            obtain ⟨rfl, rfl⟩ := Prod.mk.inj e9
            obtain ⟨g, o, x, B, bb, C, cc, hx, rfl, _, ⟨_, _, _, _, _, x5⟩, hI⟩ := NdsIn.get HN.out i hil
            have hkx : k < x.to.length := by rw [hx]; exact hkl
            obtain ⟨g2, o2, ⟨rfl, _⟩, d0, d1⟩ := hI.2.2 k hkx
            have e8 : a = x.to[k]'hkx := by rw [ha, toAt_get9 hkl]; simp only [hx]
            rw [← e8] at d0 d1
            obtain ⟨mt, hmt⟩ : ∃ q, q = x.to.length := ⟨_, rfl⟩
            rw [← hmt] at x5
            have hkm : k < mt := by omega
            have him : i < m := by have := HM.out; omega
            obtain ⟨ct, hct⟩ : ∃ q, q = capN mt cc := ⟨_, rfl⟩
            rw [← hct] at x5
            have hmc : mt ≤ ct := by rw [hct]; exact le_capN _ _
            obtain ⟨aa, ab⟩ := a
            simp only at d0 d1
            have HA := Lib.hid ha
            have H1 := Lib.hid h1
            have H2 := Lib.hid h2
            have H3 := Lib.hid h3
            have HCH := Lib.hid hck
            have HA1 := Lib.hid a1
            clear e9 hil hkl hx hI e8 hmt hct hkx ha h1 h2 h3 hck a1 a2 a3
            have HS : Hid (∀ V, Below V12.heap.size V12 V → V.cell? ⟨w.heap.size, 0, none⟩ = some (.slice (some ⟨g, o, none⟩) m c) ∧ V.cell? ⟨w.heap.size + 1, 0, none⟩ = some (.int .i64 (i : Int)) ∧ V.cell? ⟨w.heap.size + 1, 1, none⟩ = some (.int .i64 (k : Int)) ∧ V.cell? ⟨g, o + i * 6 + 5, none⟩ = some (.slice (some ⟨g2, o2, none⟩) mt ct) ∧ V.cell? ⟨g2, o2 + k * 2, none⟩ = some (.int .i64 aa) ∧ V.cell? ⟨g2, o2 + k * 2 + 1, none⟩ = some (.int .i64 ab)) := Lib.hid fun V hV => ⟨(hV.cell (p := ⟨w.heap.size, 0, none⟩) BN.out.lt).trans (BN.out.cell 0), (hV.cell (p := ⟨w.heap.size + 1, 0, none⟩) BX.out.lt).trans (BX.out.cell 0), (hV.cell (p := ⟨w.heap.size + 1, 1, none⟩) BX.out.lt).trans (BX.out.cell 1), (hV.cell (p := ⟨g, _, none⟩) (ncell_lt x5)).trans x5, (hV.cell (p := ⟨g2, _, none⟩) (ncell_lt d0)).trans d0, (hV.cell (p := ⟨g2, _, none⟩) (ncell_lt d1)).trans d1⟩
            clear x5 d0 d1
            go_region_held3 (fun V => V.cell? ⟨w.heap.size, 0, none⟩ = some (.slice (some ⟨g, o, none⟩) m c) ∧ V.cell? ⟨w.heap.size + 1, 0, none⟩ = some (.int .i64 (i : Int)) ∧ V.cell? ⟨w.heap.size + 1, 1, none⟩ = some (.int .i64 (k : Int)) ∧ V.cell? ⟨g, o + i * 6 + 5, none⟩ = some (.slice (some ⟨g2, o2, none⟩) mt ct) ∧ V.cell? ⟨g2, o2 + k * 2, none⟩ = some (.int .i64 aa) ∧ V.cell? ⟨g2, o2 + k * 2 + 1, none⟩ = some (.int .i64 ab))
              (first | exact HS.out _ (Below.refl _ _).drew | exact HS.out _ ((Below.refl _ _).drew.alloc (Nat.le_refl _) _))
              (fail)
            clear  HS
            obtain ⟨U5, hU5⟩ : ∃ V, V = (V12.alloc (.cells #[.int .i64 aa, .int .i64 ab] 26)).drew := ⟨_, rfl⟩
            obtain ⟨B5b, hB5b⟩ : ∃ B, B = V12.heap.size := ⟨_, rfl⟩
            have hb : Below V12.heap.size V12 U5 := by rw [hU5]; exact ((Below.refl _ _).alloc (Nat.le_refl _) _).drew
            have B5 : Hid (Lies U5 B5b 26 #[.int .i64 aa, .int .i64 ab]) := Lib.hid (by rw [hU5, hB5b]; exact (Lies.new _ _ _).drew)
            rw [← hU5, ← hB5b]
            clear hU5 hB5b
            replace BN := Lib.hid (BN.out.below hb BN.out.lt)
            replace BX := Lib.hid (BX.out.below hb BX.out.lt)
            replace HN := Lib.hid (HN.out.below hb (Nat.le_refl _))
            replace HB := Lib.hid (HB.out.trans (hb.mono HB.out.size))
            clear hb
            obtain ⟨ε, hε⟩ : ∃ ε, ε = (((aa, ab) : Int × Int) == (qa, qb)) := ⟨_, rfl⟩
            have heq := port_eql aa ab qa qb
            rw [← hε] at heq
            cases ε with
            | true =>
              have HE := Lib.hid (show moveNV l ((i : Int), (k : Int)) (qa, qb) = (l, 0) by rw [move_ok HCH.out H1.out H2.out H3.out, if_pos (by rw [← HA.out]; simpa using hε.symm)])
              clear hε
              have HC14 := Lib.hid (show Calls Try.prog 14 _ _ (GivesM l m cap 0 U5) from by
                have h := wmove_any l (some ⟨g, o, none⟩) m c cap ((i : Int), (k : Int)) (qa, qb) U5 HM.out (by omega) HF9.out HN.out.any
                rw [HE.out] at h
                exact h.mono fun _ _ h => h.m HM.out)
              obtain ⟨BNc0, BNc1⟩ := two_cells BN.out
              obtain ⟨BXc0, BXc1, BXc2, BXc3⟩ := four_cells BX.out
              go_wp2_with fail
              refine HC14.out.mono ?_
              rintro e V14 ⟨A6, c6, rfl, hn, hb⟩
              clear BNc0 BNc1 BXc0 BXc1 BXc2 BXc3 HC14
              replace BN := Lib.hid (BN.out.below hb BN.out.lt)
              replace BX := Lib.hid (BX.out.below hb BX.out.lt)
              replace B5 := Lib.hid (B5.out.below hb B5.out.lt)
              replace HN := Lib.hid (HN.out.below hb (Nat.le_refl _))
              replace HB := Lib.hid (HB.out.trans (hb.mono HB.out.size))
              clear hb
              have H6 := Lib.hid hn
              clear hn
              go_upto_region 5 with fail
              obtain ⟨V15, hV15⟩ : ∃ V, V = V14.alloc (.cells #[.slice A6 m c6, .int .i64 cap] 24) := ⟨_, rfl⟩
              obtain ⟨B6b, hB6b⟩ : ∃ B, B = V14.heap.size := ⟨_, rfl⟩
              have hb : Below V14.heap.size V14 V15 := by rw [hV15]; exact (Below.refl _ _).alloc (Nat.le_refl _) _
              have B6 : Hid (Lies V15 B6b 24 #[.slice A6 m c6, .int .i64 cap]) := Lib.hid (by rw [hV15, hB6b]; exact Lies.new _ _ _)
              rw [← hV15, ← hB6b]
              clear hV15 hB6b
              replace BN := Lib.hid (BN.out.below hb BN.out.lt)
              replace BX := Lib.hid (BX.out.below hb BX.out.lt)
              replace B5 := Lib.hid (B5.out.below hb B5.out.lt)
              replace HN := Lib.hid (HN.out.below hb (Nat.le_refl _))
              replace H6 := Lib.hid (H6.out.below hb (Nat.le_refl _))
              replace HB := Lib.hid (HB.out.trans (hb.mono HB.out.size))
              clear hb
              have HC16 := Lib.hid (same_any l A6 (some ⟨g, o, none⟩) m c6 c cap V15 HM.out (by omega) H6.out.any HN.out.any)
              obtain ⟨BNc0, BNc1⟩ := two_cells BN.out
              obtain ⟨BXc0, BXc1, BXc2, BXc3⟩ := four_cells BX.out
              obtain ⟨B5c0, B5c1⟩ := two_cells B5.out
              obtain ⟨B6c0, B6c1⟩ := two_cells B6.out
              go_wp2_with fail
              refine HC16.out.mono ?_
              rintro e V16 ⟨rfl, hb⟩
              clear BNc0 BNc1 BXc0 BXc1 BXc2 BXc3 B5c0 B5c1 B6c0 B6c1 HC16
              replace BN := Lib.hid (BN.out.below hb BN.out.lt)
              replace BX := Lib.hid (BX.out.below hb BX.out.lt)
              replace B5 := Lib.hid (B5.out.below hb B5.out.lt)
              replace B6 := Lib.hid (B6.out.below hb B6.out.lt)
              replace HN := Lib.hid (HN.out.below hb (Nat.le_refl _))
              replace H6 := Lib.hid (H6.out.below hb (Nat.le_refl _))
              replace HB := Lib.hid (HB.out.trans (hb.mono HB.out.size))
              clear hb
              go_wp2_with fail
              go_ret
              exact ⟨rfl, HB.out⟩
            | false =>
              have hne9 : toAt l ((i : Int), (k : Int)) ≠ (qa, qb) := by rw [← HA.out]; simpa using hε.symm
              obtain ⟨ks, hk1, hk2, hk3, hk4, hk5, hk6, hk7⟩ := move_back HCH.out H1.out H2.out H3.out hne9
              obtain ⟨nM, hnM⟩ : ∃ q, q = setNV (setNV l (qa, qb) (toAt l ((i : Int), (k : Int)))) (toAt l ((i : Int), (k : Int))) (qa, qb) := ⟨_, rfl⟩
              rw [← hnM] at hk1
              rw [← HA.out] at hk3 hk4 hk5
              have HE := Lib.hid (show moveNV l ((i : Int), (k : Int)) (qa, qb) = (nM, 0) by rw [hnM, move_ok HCH.out H1.out H2.out H3.out, if_neg hne9])
              have HE1 := Lib.hid hk1
              have HE2 := Lib.hid (show peerNV ks ((i : Int), (k : Int)) = ((aa, ab), 0) by rw [peer_ok hk2, hk4])
              have HE3 := Lib.hid (show peerNV ks (aa, ab) = (((i : Int), (k : Int)), 0) by rw [peer_ok hk3, hk5])
              have HO9 := Lib.hid hk6
              have HML := Lib.hid (show m = nM.length by rw [hnM, len2]; exact HM.out)
              have HMK := Lib.hid (show m = ks.length by rw [hk7]; exact HM.out)
              have HFL := Lib.hid (show Few9 nM by have h := few_move (p := ((i : Int), (k : Int))) (q := (qa, qb)) HF9.out; rw [HE.out] at h; exact h)
              clear hε hne9 hk1 hk2 hk3 hk4 hk5 hk6 hk7 hnM
              have HC17 := Lib.hid (show Calls Try.prog 14 _ _ (GivesM nM m cap 0 U5) from by
                have h := wmove_any l (some ⟨g, o, none⟩) m c cap ((i : Int), (k : Int)) (qa, qb) U5 HM.out (by omega) HF9.out HN.out.any
                rw [HE.out] at h
                exact h.mono fun _ _ h => h.m HML.out)
              obtain ⟨BNc0, BNc1⟩ := two_cells BN.out
              obtain ⟨BXc0, BXc1, BXc2, BXc3⟩ := four_cells BX.out
              go_wp2_with fail
              refine HC17.out.mono ?_
              rintro e V17 ⟨A6, c6, rfl, hn, hb⟩
              clear BNc0 BNc1 BXc0 BXc1 BXc2 BXc3 HC17
              replace BN := Lib.hid (BN.out.below hb BN.out.lt)
              replace BX := Lib.hid (BX.out.below hb BX.out.lt)
              replace B5 := Lib.hid (B5.out.below hb B5.out.lt)
              replace HN := Lib.hid (HN.out.below hb (Nat.le_refl _))
              replace HB := Lib.hid (HB.out.trans (hb.mono HB.out.size))
              clear hb
              have H6 := Lib.hid hn
              clear hn
              go_upto_region 5 with fail
              obtain ⟨V18, hV18⟩ : ∃ V, V = V17.alloc (.cells #[.slice A6 m c6, .int .i64 cap] 24) := ⟨_, rfl⟩
              obtain ⟨B6b, hB6b⟩ : ∃ B, B = V17.heap.size := ⟨_, rfl⟩
              have hb : Below V17.heap.size V17 V18 := by rw [hV18]; exact (Below.refl _ _).alloc (Nat.le_refl _) _
              have B6 : Hid (Lies V18 B6b 24 #[.slice A6 m c6, .int .i64 cap]) := Lib.hid (by rw [hV18, hB6b]; exact Lies.new _ _ _)
              rw [← hV18, ← hB6b]
              clear hV18 hB6b
              replace BN := Lib.hid (BN.out.below hb BN.out.lt)
              replace BX := Lib.hid (BX.out.below hb BX.out.lt)
              replace B5 := Lib.hid (B5.out.below hb B5.out.lt)
              replace HN := Lib.hid (HN.out.below hb (Nat.le_refl _))
              replace H6 := Lib.hid (H6.out.below hb (Nat.le_refl _))
              replace HB := Lib.hid (HB.out.trans (hb.mono HB.out.size))
              clear hb
              have HC19 := Lib.hid (show Calls Try.prog 14 _ _ (GivesM ks m cap 0 V18) from by
                have h := wmove_any nM A6 m c6 cap (qa, qb) ((i : Int), (k : Int)) V18 HML.out (by omega) HFL.out H6.out.any
                rw [HE1.out] at h
                exact h.mono fun _ _ h => h.m HMK.out)
              obtain ⟨BXc0, BXc1, BXc2, BXc3⟩ := four_cells BX.out
              obtain ⟨B5c0, B5c1⟩ := two_cells B5.out
              obtain ⟨B6c0, B6c1⟩ := two_cells B6.out
              go_wp2_with fail
              refine HC19.out.mono ?_
              rintro e V19 ⟨A8, c8, rfl, hn, hb⟩
              clear BXc0 BXc1 BXc2 BXc3 B5c0 B5c1 B6c0 B6c1 HC19
              replace BN := Lib.hid (BN.out.below hb BN.out.lt)
              replace BX := Lib.hid (BX.out.below hb BX.out.lt)
              replace B5 := Lib.hid (B5.out.below hb B5.out.lt)
              replace B6 := Lib.hid (B6.out.below hb B6.out.lt)
              replace HN := Lib.hid (HN.out.below hb (Nat.le_refl _))
              replace H6 := Lib.hid (H6.out.below hb (Nat.le_refl _))
              replace HB := Lib.hid (HB.out.trans (hb.mono HB.out.size))
              clear hb
              have H8 := Lib.hid hn
              clear hn
              go_upto_region 8 with fail
              obtain ⟨V20, hV20⟩ : ∃ V, V = V19.alloc (.cells #[.slice A8 m c8, .int .i64 cap] 24) := ⟨_, rfl⟩
              obtain ⟨B8b, hB8b⟩ : ∃ B, B = V19.heap.size := ⟨_, rfl⟩
              have hb : Below V19.heap.size V19 V20 := by rw [hV20]; exact (Below.refl _ _).alloc (Nat.le_refl _) _
              have B8 : Hid (Lies V20 B8b 24 #[.slice A8 m c8, .int .i64 cap]) := Lib.hid (by rw [hV20, hB8b]; exact Lies.new _ _ _)
              rw [← hV20, ← hB8b]
              clear hV20 hB8b
              replace BN := Lib.hid (BN.out.below hb BN.out.lt)
              replace BX := Lib.hid (BX.out.below hb BX.out.lt)
              replace B5 := Lib.hid (B5.out.below hb B5.out.lt)
              replace B6 := Lib.hid (B6.out.below hb B6.out.lt)
              replace HN := Lib.hid (HN.out.below hb (Nat.le_refl _))
              replace H6 := Lib.hid (H6.out.below hb (Nat.le_refl _))
              replace H8 := Lib.hid (H8.out.below hb (Nat.le_refl _))
              replace HB := Lib.hid (HB.out.trans (hb.mono HB.out.size))
              clear hb
              have HC21 := Lib.hid (show Calls Try.prog 10 _ _ (fun e w' => e = .returned (.tuple #[.agg #[.int .i64 aa, .int .i64 ab], .int .i64 0]) ∧ Below V20.heap.size V20 w') from by
                have h := wPeer_any ks A8 m c8 cap ((i : Int), (k : Int)) V20 HMK.out H8.out.any
                rw [HE2.out] at h
                exact h)
              obtain ⟨BXc0, BXc1, BXc2, BXc3⟩ := four_cells BX.out
              obtain ⟨B8c0, B8c1⟩ := two_cells B8.out
              go_wp2_with fail
              refine HC21.out.mono ?_
              rintro e V21 ⟨rfl, hb⟩
              clear BXc0 BXc1 BXc2 BXc3 B8c0 B8c1 HC21
              replace BN := Lib.hid (BN.out.below hb BN.out.lt)
              replace BX := Lib.hid (BX.out.below hb BX.out.lt)
              replace B5 := Lib.hid (B5.out.below hb B5.out.lt)
              replace B6 := Lib.hid (B6.out.below hb B6.out.lt)
              replace B8 := Lib.hid (B8.out.below hb B8.out.lt)
              replace HN := Lib.hid (HN.out.below hb (Nat.le_refl _))
              replace H6 := Lib.hid (H6.out.below hb (Nat.le_refl _))
              replace H8 := Lib.hid (H8.out.below hb (Nat.le_refl _))
              replace HB := Lib.hid (HB.out.trans (hb.mono HB.out.size))
              clear hb
              go_upto_region 9 with fail
              obtain ⟨V22, hV22⟩ : ∃ V, V = V21.alloc (.cells #[.int .i64 aa, .int .i64 ab] 26) := ⟨_, rfl⟩
              obtain ⟨B10b, hB10b⟩ : ∃ B, B = V21.heap.size := ⟨_, rfl⟩
              have hb : Below V21.heap.size V21 V22 := by rw [hV22]; exact (Below.refl _ _).alloc (Nat.le_refl _) _
              have B10 : Hid (Lies V22 B10b 26 #[.int .i64 aa, .int .i64 ab]) := Lib.hid (by rw [hV22, hB10b]; exact Lies.new _ _ _)
              rw [← hV22, ← hB10b]
              clear hV22 hB10b
              replace BN := Lib.hid (BN.out.below hb BN.out.lt)
              replace BX := Lib.hid (BX.out.below hb BX.out.lt)
              replace B5 := Lib.hid (B5.out.below hb B5.out.lt)
              replace B6 := Lib.hid (B6.out.below hb B6.out.lt)
              replace B8 := Lib.hid (B8.out.below hb B8.out.lt)
              replace HN := Lib.hid (HN.out.below hb (Nat.le_refl _))
              replace H6 := Lib.hid (H6.out.below hb (Nat.le_refl _))
              replace H8 := Lib.hid (H8.out.below hb (Nat.le_refl _))
              replace HB := Lib.hid (HB.out.trans (hb.mono HB.out.size))
              clear hb
              have HC23 := Lib.hid (show Calls Try.prog 10 _ _ (fun e w' => e = .returned (.tuple #[.agg #[.int .i64 (i : Int), .int .i64 (k : Int)], .int .i64 0]) ∧ Below V22.heap.size V22 w') from by
                have h := wPeer_any ks A8 m c8 cap (aa, ab) V22 HMK.out H8.out.any
                rw [HE3.out] at h
                exact h)
              obtain ⟨B5c0, B5c1⟩ := two_cells B5.out
              obtain ⟨B8c0, B8c1⟩ := two_cells B8.out
              go_wp2_with fail
              refine HC23.out.mono ?_
              rintro e V23 ⟨rfl, hb⟩
              clear B5c0 B5c1 B8c0 B8c1 HC23
              replace BN := Lib.hid (BN.out.below hb BN.out.lt)
              replace BX := Lib.hid (BX.out.below hb BX.out.lt)
              replace B5 := Lib.hid (B5.out.below hb B5.out.lt)
              replace B6 := Lib.hid (B6.out.below hb B6.out.lt)
              replace B8 := Lib.hid (B8.out.below hb B8.out.lt)
              replace B10 := Lib.hid (B10.out.below hb B10.out.lt)
              replace HN := Lib.hid (HN.out.below hb (Nat.le_refl _))
              replace H6 := Lib.hid (H6.out.below hb (Nat.le_refl _))
              replace H8 := Lib.hid (H8.out.below hb (Nat.le_refl _))
              replace HB := Lib.hid (HB.out.trans (hb.mono HB.out.size))
              clear hb
              go_upto_region 10 with fail
              obtain ⟨V24, hV24⟩ : ∃ V, V = V23.alloc (.cells #[.int .i64 (i : Int), .int .i64 (k : Int)] 26) := ⟨_, rfl⟩
              obtain ⟨B12b, hB12b⟩ : ∃ B, B = V23.heap.size := ⟨_, rfl⟩
              have hb : Below V23.heap.size V23 V24 := by rw [hV24]; exact (Below.refl _ _).alloc (Nat.le_refl _) _
              have B12 : Hid (Lies V24 B12b 26 #[.int .i64 (i : Int), .int .i64 (k : Int)]) := Lib.hid (by rw [hV24, hB12b]; exact Lies.new _ _ _)
              rw [← hV24, ← hB12b]
              clear hV24 hB12b
              replace BN := Lib.hid (BN.out.below hb BN.out.lt)
              replace BX := Lib.hid (BX.out.below hb BX.out.lt)
              replace B5 := Lib.hid (B5.out.below hb B5.out.lt)
              replace B6 := Lib.hid (B6.out.below hb B6.out.lt)
              replace B8 := Lib.hid (B8.out.below hb B8.out.lt)
              replace B10 := Lib.hid (B10.out.below hb B10.out.lt)
              replace HN := Lib.hid (HN.out.below hb (Nat.le_refl _))
              replace H6 := Lib.hid (H6.out.below hb (Nat.le_refl _))
              replace H8 := Lib.hid (H8.out.below hb (Nat.le_refl _))
              replace HB := Lib.hid (HB.out.trans (hb.mono HB.out.size))
              clear hb
              have hq1 := port_eql aa ab aa ab
              have hq2 := port_eql (i : Int) (k : Int) (i : Int) (k : Int)
              simp only [beq_self_eq_true] at hq1 hq2
              have hAl : Below V24.heap.size V24 (V24.alloc (.cells #[.int .i64 qa, .int .i64 qb] 26)) := (Below.refl _ _).alloc (Nat.le_refl _) _
              have HC25 := Lib.hid (others_any l ks (some ⟨g, o, none⟩) A8 m c c8 cap cap [(qa, qb)] (some ⟨V24.heap.size, 0, none⟩) 1 1 (V24.alloc (.cells #[.int .i64 qa, .int .i64 qb] 26)) HM.out (by omega) (fun i hi => by have h9 := H12.out i (by have := HM.out; omega); omega) HO9.out (HN.out.any.below hAl (Nat.le_refl _)) (H8.out.any.below hAl (Nat.le_refl _)) rfl (by omega) (to_one (Lies.new _ _ _)))
              have HAL := Lib.hid hAl
              clear hAl
              obtain ⟨BNc0, BNc1⟩ := two_cells BN.out
              obtain ⟨BXc0, BXc1, BXc2, BXc3⟩ := four_cells BX.out
              obtain ⟨B5c0, B5c1⟩ := two_cells B5.out
              obtain ⟨B8c0, B8c1⟩ := two_cells B8.out
              obtain ⟨B10c0, B10c1⟩ := two_cells B10.out
              obtain ⟨B12c0, B12c1⟩ := two_cells B12.out
              go_wp2_with fail
              refine HC25.out.mono ?_
              rintro e V25 ⟨rfl, hb9⟩
              have hb := HAL.out.trans (hb9.mono HAL.out.size)
              clear BNc0 BNc1 BXc0 BXc1 BXc2 BXc3 B5c0 B5c1 B8c0 B8c1 B10c0 B10c1 B12c0 B12c1 HC25 hb9 HAL
              replace BN := Lib.hid (BN.out.below hb BN.out.lt)
              replace BX := Lib.hid (BX.out.below hb BX.out.lt)
              replace B5 := Lib.hid (B5.out.below hb B5.out.lt)
              replace B6 := Lib.hid (B6.out.below hb B6.out.lt)
              replace B8 := Lib.hid (B8.out.below hb B8.out.lt)
              replace B10 := Lib.hid (B10.out.below hb B10.out.lt)
              replace B12 := Lib.hid (B12.out.below hb B12.out.lt)
              replace HN := Lib.hid (HN.out.below hb (Nat.le_refl _))
              replace H6 := Lib.hid (H6.out.below hb (Nat.le_refl _))
              replace H8 := Lib.hid (H8.out.below hb (Nat.le_refl _))
              replace HB := Lib.hid (HB.out.trans (hb.mono HB.out.size))
              clear hb
              go_wp2_with fail
              go_ret
              exact ⟨rfl, HB.out⟩
end Lx
end Go.Proofs.Ytceblpjlklogpaa
