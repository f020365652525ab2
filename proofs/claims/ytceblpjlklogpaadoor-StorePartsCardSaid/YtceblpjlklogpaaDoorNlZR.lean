/-
  The law StoreParts, walked.
-/
import Derived.Test.YtceblpjlklogpaaDoorC9
import Derived.Test.YtceblpjlklogpaaDoorNlZF
import Derived.Test.YtceblpjlklogpaaDoorC8
import Derived.Deep.DeepCutAuto
import Derived.Deep.RegionHeld3
namespace Go.Proofs.YtceblpjlklogpaaDoor
open Go Go.RowKit
namespace Lx
set_option maxRecDepth 100000
set_option maxHeartbeats 40000000 in
theorem storeParts_law (l : List Nd) (A : Option Addr) (m c : Nat) (cap : Int) (at_ : Int) (w : World) (hm : m = l.length) (hm2 : m ≤ 140737488351232) (hN : NdsIn w AnyB l A) (hT : PTab w) :
    Calls Tryd.prog 4 #[.agg #[.slice A m c, .int .i64 cap], .int .i64 at_] w fun e w' => e = .returned (.bool true) ∧ Below w.heap.size w w' := by
  obtain ⟨W, hW⟩ : ∃ W, W = (w.alloc (.cells #[.slice A m c, .int .i64 cap] 24)) := ⟨_, rfl⟩
  have hb : Below w.heap.size w W := by rw [hW]; exact ((Below.refl _ w).alloc (Nat.le_refl _) _)
  have BN : Hid (Lies W (w.heap.size) 24 #[.slice A m c, .int .i64 cap]) := Lib.hid (by rw [hW]; exact (Lies.new (w) 24 #[.slice A m c, .int .i64 cap]))
  have HN : Hid (NdsIn W AnyB l A) := Lib.hid (hN.below hb (Nat.le_refl _))
  have HB := Lib.hid hb
  have HM := Lib.hid hm
  have HT := Lib.hid hT
  clear hN hm hb hT
  go_enter Tryd.func4, Tryd.ntmps4
  go_upto_region 1 with fail
  rw [← hW]
  clear hW
  have HC1 := Lib.hid (fixed12_any W (HT.out.below HB.out (Nat.le_refl _)))
  go_wp2_with fail
  refine HC1.out.mono ?_
  rintro e V1 ⟨rfl, hb⟩
  clear  HC1
  replace BN := Lib.hid (BN.out.below hb BN.out.lt)
  replace HN := Lib.hid (HN.out.below hb (Nat.le_refl _))
  replace HB := Lib.hid (HB.out.trans (hb.mono HB.out.size))
  clear hb
  have HC2 := Lib.hid (small_any l A m c cap 150 V1 HM.out hm2 HN.out.any)
  obtain ⟨BNc0, BNc1⟩ := two_cells BN.out
  go_wp2_with fail
  refine HC2.out.mono ?_
  rintro e V2 ⟨rfl, hb⟩
  clear BNc0 BNc1 HC2
  replace BN := Lib.hid (BN.out.below hb BN.out.lt)
  replace HN := Lib.hid (HN.out.below hb (Nat.le_refl _))
  replace HB := Lib.hid (HB.out.trans (hb.mono HB.out.size))
  clear hb
  cases hs : smallV l 150 with
  | false =>
    have HC3 := Lib.hid (fixed12_any V2 (HT.out.below HB.out (Nat.le_refl _)))
    go_wp2_with fail
    refine HC3.out.mono ?_
    rintro e V3 ⟨rfl, hb⟩
    clear  HC3
    replace BN := Lib.hid (BN.out.below hb BN.out.lt)
    replace HN := Lib.hid (HN.out.below hb (Nat.le_refl _))
    replace HB := Lib.hid (HB.out.trans (hb.mono HB.out.size))
    clear hb
    go_wp2_with fail
    go_ret
    exact ⟨rfl, HB.out⟩
  | true =>
    obtain ⟨hm150', hfew, hfa⟩ := small_nl hs
    have hm150 : m ≤ 150 := by have := HM.out; omega
    have HF9 := Lib.hid hfew
    have HFA := Lib.hid hfa
    clear hs hm150' hfew hfa
    obtain ⟨ck, hck0⟩ : ∃ q, q = checkV l cap := ⟨_, rfl⟩
    have HCK := Lib.hid hck0
    clear hck0
    cases ck with
    | false =>
      have HC4 := Lib.hid (show Calls Tryd.prog 10 _ _ (fun e w' => e = .returned (.int .i64 120) ∧ Below V2.heap.size V2 w') from by
        have h := rcheck_any l A m c cap V2 HM.out hm2 HN.out.any
        rw [checkI, ← HCK.out] at h
        simpa using h)
      obtain ⟨BNc0, BNc1⟩ := two_cells BN.out
      go_wp2_with fail
      refine HC4.out.mono ?_
      rintro e V4 ⟨rfl, hb⟩
      clear BNc0 BNc1 HC4
      replace BN := Lib.hid (BN.out.below hb BN.out.lt)
      replace HN := Lib.hid (HN.out.below hb (Nat.le_refl _))
      replace HB := Lib.hid (HB.out.trans (hb.mono HB.out.size))
      clear hb
      have HC5 := Lib.hid (fixed12_any V4 (HT.out.below HB.out (Nat.le_refl _)))
      go_wp2_with fail
      refine HC5.out.mono ?_
      rintro e V5 ⟨rfl, hb⟩
      clear  HC5
      replace BN := Lib.hid (BN.out.below hb BN.out.lt)
      replace HN := Lib.hid (HN.out.below hb (Nat.le_refl _))
      replace HB := Lib.hid (HB.out.trans (hb.mono HB.out.size))
      clear hb
      go_wp2_with fail
      go_ret
      exact ⟨rfl, HB.out⟩
    | true =>
      have HC6 := Lib.hid (show Calls Tryd.prog 10 _ _ (fun e w' => e = .returned (.int .i64 0) ∧ Below V2.heap.size V2 w') from by
        have h := rcheck_any l A m c cap V2 HM.out hm2 HN.out.any
        rw [checkI, ← HCK.out] at h
        simpa using h)
      obtain ⟨BNc0, BNc1⟩ := two_cells BN.out
      go_wp2_with fail
      refine HC6.out.mono ?_
      rintro e V6 ⟨rfl, hb⟩
      clear BNc0 BNc1 HC6
      replace BN := Lib.hid (BN.out.below hb BN.out.lt)
      replace HN := Lib.hid (HN.out.below hb (Nat.le_refl _))
      replace HB := Lib.hid (HB.out.trans (hb.mono HB.out.size))
      clear hb
      by_cases k1 : at_ < 1
      · have e1 : decide (at_ < 1) = true := decide_eq_true k1
        have HC7 := Lib.hid (fixed12_any V6 (HT.out.below HB.out (Nat.le_refl _)))
        go_wp2_with fail
        refine HC7.out.mono ?_
        rintro e V7 ⟨rfl, hb⟩
        clear  HC7
        replace BN := Lib.hid (BN.out.below hb BN.out.lt)
        replace HN := Lib.hid (HN.out.below hb (Nat.le_refl _))
        replace HB := Lib.hid (HB.out.trans (hb.mono HB.out.size))
        clear hb
        go_wp2_with fail
        go_ret
        exact ⟨rfl, HB.out⟩
      · have e1 : decide (at_ < 1) = false := decide_eq_false k1
        have hck := HCK.out.symm
        have HCH := Lib.hid hck
        obtain ⟨hpos0, hcap0⟩ := check_pos hck
        have hpos : 0 < m := by have := HM.out; omega
        clear hck hpos0 hcap0
        by_cases k2 : at_ < (l.length : Int) ∧ (ndAt l at_.toNat).kind ≠ 0
        · skip
          obtain ⟨i, rfl⟩ : ∃ i : Nat, at_ = (i : Int) := ⟨at_.toNat, by omega⟩
          rw [Int.toNat_natCast] at k2
          obtain ⟨la, lm, j, h1, h2, h3, h4, h5, h6, h7, h8, h9, h10⟩ := parts_ok HCH.out (by omega) (by omega) k2.2
          have hkind := k2.2
          have him : i < m := by have := HM.out; omega
          have him2 : (i : Int) < (m : Int) := by omega
          clear k2
          obtain ⟨ma, hma⟩ : ∃ q, q = la.length := ⟨_, rfl⟩
          obtain ⟨mb, hmb⟩ : ∃ q, q = lm.length := ⟨_, rfl⟩
          have hma1 : 0 < ma := by omega
          have hma2 : ma ≤ m := by have := HM.out; omega
          have hmb2 : mb ≤ 151 := by have := HM.out; omega
          have HMA := Lib.hid hma
          have HMB := Lib.hid hmb
          have H1 := Lib.hid h1
          have H2 := Lib.hid h2
          have H3 := Lib.hid h3
          have H9 := Lib.hid h9
          have HFS : Hid (∀ q, q < la.length → (ndAt la q).to.length ≤ 100000 ∧ (ndAt la q).alts.length ≤ 100000) := Lib.hid fun q hq => by
            have h11 := h9 q
            have h12 := HF9.out q (by omega)
            omega
          obtain ⟨ua, hua⟩ : ∃ q, q = usedV la := ⟨_, rfl⟩
          obtain ⟨un, hun⟩ : ∃ q, q = usedV l := ⟨_, rfl⟩
          have HUA := Lib.hid hua
          have HUN := Lib.hid hun
          have HUM : Hid (usedV lm = un) := Lib.hid (by rw [hun]; exact h8)
          rw [← hua, ← hun] at h7
          have H7 := Lib.hid h7
          clear h7 hma hmb h1 h2 h3 h5 h6 h8 h9 h10 hua hun
          have HC8 := Lib.hid (show Calls Tryd.prog 17 _ _ (fun e w' => ∃ A c, e = .returned (.tuple #[.agg #[.slice A ma c, .int .i64 cap], .int .i64 0]) ∧ NdsIn w' AnyB la A ∧ Below V6.heap.size V6 w') from by
            have h := free_any l A m c cap (i : Int) V6 HM.out hpos (by omega) HF9.out HN.out.any
            rw [H1.out] at h
            refine h.mono ?_
            rintro e w' ⟨A', d, rfl, hn, hb⟩
            rw [HMA.out]
            exact ⟨A', _, rfl, hn.any, hb⟩
          )
          obtain ⟨BNc0, BNc1⟩ := two_cells BN.out
          go_wp2_with fail
          refine HC8.out.mono ?_
          rintro e V8 ⟨A5, c5, rfl, hn, hb⟩
          clear BNc0 BNc1 HC8
          replace BN := Lib.hid (BN.out.below hb BN.out.lt)
          replace HN := Lib.hid (HN.out.below hb (Nat.le_refl _))
          replace HB := Lib.hid (HB.out.trans (hb.mono HB.out.size))
          clear hb
          have H5 := Lib.hid hn
          clear hn
          go_upto_region 4 with fail
          obtain ⟨V9, hV9⟩ : ∃ V, V = V8.alloc (.cells #[.slice A5 ma c5, .int .i64 cap] 24) := ⟨_, rfl⟩
          obtain ⟨B5b, hB5b⟩ : ∃ B, B = V8.heap.size := ⟨_, rfl⟩
          have hb : Below V8.heap.size V8 V9 := by rw [hV9]; exact (Below.refl _ _).alloc (Nat.le_refl _) _
          have B5 : Hid (Lies V9 B5b 24 #[.slice A5 ma c5, .int .i64 cap]) := Lib.hid (by rw [hV9, hB5b]; exact Lies.new _ _ _)
          rw [← hV9, ← hB5b]
          clear hV9 hB5b
          replace BN := Lib.hid (BN.out.below hb BN.out.lt)
          replace HN := Lib.hid (HN.out.below hb (Nat.le_refl _))
          replace H5 := Lib.hid (H5.out.below hb (Nat.le_refl _))
          replace HB := Lib.hid (HB.out.trans (hb.mono HB.out.size))
          clear hb
          obtain ⟨g, o, x, Bz, bz, Cz, cz, hx, hA9, _, ⟨x0, x1, x2, x3, x4, x5⟩, hI⟩ := NdsIn.get HN.out i (by have := HM.out; omega)
          rw [← hx] at hkind
          subst hA9
          have hkb : (x.kind == 0) = false := by simpa using hkind
          have hkn : (x.kind != 0) = true := by simpa using hkind
          have HX := Lib.hid hx
          clear x1 x2 x3 x4 x5 hI hx
          have HC10 := Lib.hid (show Calls Tryd.prog 17 _ _ (fun e w' => ∃ A c, e = .returned (.tuple #[.agg #[.slice A ma c, .int .i64 cap], .int .i64 122]) ∧ NdsIn w' AnyB la A ∧ Below V9.heap.size V9 w') from by
            have h := free_any la A5 ma c5 cap (i : Int) V9 HMA.out hma1 (by omega) (fun q hq => HFS.out q hq) H5.out.any
            rw [H2.out] at h
            refine h.mono ?_
            rintro e w' ⟨A', d, rfl, hn, hb⟩
            rw [HMA.out]
            exact ⟨A', _, rfl, hn.any, hb⟩
          )
          obtain ⟨BNc0, BNc1⟩ := two_cells BN.out
          obtain ⟨B5c0, B5c1⟩ := two_cells B5.out
          go_wp2_with fail
          refine HC10.out.mono ?_
          rintro e V10 ⟨A7, c7, rfl, hn, hb⟩
          clear BNc0 BNc1 B5c0 B5c1 HC10
          replace BN := Lib.hid (BN.out.below hb BN.out.lt)
          replace B5 := Lib.hid (B5.out.below hb B5.out.lt)
          replace HN := Lib.hid (HN.out.below hb (Nat.le_refl _))
          replace H5 := Lib.hid (H5.out.below hb (Nat.le_refl _))
          replace HB := Lib.hid (HB.out.trans (hb.mono HB.out.size))
          clear hb
          have H7n := Lib.hid hn
          clear hn
          clear x0 hkb hkn hkind
          go_upto_region 9 with fail
          obtain ⟨V11, hV11⟩ : ∃ V, V = V10.alloc (.cells #[.slice A7 ma c7, .int .i64 cap] 24) := ⟨_, rfl⟩
          obtain ⟨B7b, hB7b⟩ : ∃ B, B = V10.heap.size := ⟨_, rfl⟩
          have hb : Below V10.heap.size V10 V11 := by rw [hV11]; exact (Below.refl _ _).alloc (Nat.le_refl _) _
          have B7 : Hid (Lies V11 B7b 24 #[.slice A7 ma c7, .int .i64 cap]) := Lib.hid (by rw [hV11, hB7b]; exact Lies.new _ _ _)
          rw [← hV11, ← hB7b]
          clear hV11 hB7b
          replace BN := Lib.hid (BN.out.below hb BN.out.lt)
          replace B5 := Lib.hid (B5.out.below hb B5.out.lt)
          replace HN := Lib.hid (HN.out.below hb (Nat.le_refl _))
          replace H5 := Lib.hid (H5.out.below hb (Nat.le_refl _))
          replace H7n := Lib.hid (H7n.out.below hb (Nat.le_refl _))
          replace HB := Lib.hid (HB.out.trans (hb.mono HB.out.size))
          clear hb
          obtain ⟨g2, o2, x2', Bz2, bz2, Cz2, cz2, hx2, hA9, _, ⟨x0, x1, x2, x3, x4, x5⟩, hI⟩ := NdsIn.get HN.out i (by have := HM.out; omega)
          rw [← HX.out] at hx2
          subst hx2
          obtain ⟨rfl, rfl⟩ : g = g2 ∧ o = o2 := by
            injection hA9 with h1
            injection h1 with h2 h3
            exact ⟨h2, h3⟩
          clear hA9
          have hglt := ncell_lt x0
          have HIX := Lib.hid hI
          clear hI
          have HOP : Hid (∀ V, Below V11.heap.size V11 V → Calls Tryd.prog 12 #[.agg #[.slice A5 ma c5, .int .i64 cap], .agg #[.int .i64 x2'.kind, .int .i64 x2'.level, .int .i64 x2'.n, .string x2'.name, .slice Bz2 x2'.alts.length (capN x2'.alts.length bz2), .slice Cz2 x2'.to.length (capN x2'.to.length cz2)]] V (fun e w' => ∃ A c, e = .returned (.tuple #[.agg #[.slice A mb c, .int .i64 cap], .int .i64 (j : Int), .int .i64 0]) ∧ NdsIn w' (fun g => V.heap.size ≤ g) lm A ∧ Below V.heap.size V w')) := Lib.hid fun V hV => by
            have h9 := HF9.out i (by have := HM.out; omega)
            rw [← HX.out] at h9
            have h12 := HFA.out i (by have := HM.out; omega)
            rw [← HX.out] at h12
            have h := make_any la A5 ma c5 cap x2' Bz2 Cz2 bz2 cz2 V HMA.out hma1 (by omega) (fun q hq => HFS.out q hq) (H5.out.any.below hV (Nat.le_refl _)) (HIX.out.any.below hV (Nat.le_refl _)) (by have h8 := (at_node (node_of HCH.out i (by have := HM.out; omega))).2.1; rw [← HX.out] at h8; have := h9.1; omega) h9.2 (HT.out.below (HB.out.trans (hV.mono HB.out.size)) (Nat.le_refl _))
            rw [HX.out, H3.out, ← HX.out] at h
            refine h.mono ?_
            rintro e w' ⟨A', d, rfl, hn, hb⟩
            rw [HMB.out]
            exact ⟨A', _, rfl, hn, hb⟩
          obtain ⟨BNc0, BNc1⟩ := two_cells BN.out
          obtain ⟨B5c0, B5c1⟩ := two_cells B5.out
          have hltN := BN.out.lt
          have hlt5 := B5.out.lt
          go_cut [9, 10, 11] (fun y z t wx => ∃ (B : Nat) (A : Option Addr) (c : Nat), y = .pointer (some ⟨B, 0, none⟩) ∧ z = .int .i64 (j : Int) ∧ t = .int .i64 0 ∧ Lies wx B 24 #[.slice A mb c, .int .i64 cap] ∧ NdsIn wx AnyB lm A ∧ Below V11.heap.size V11 wx)
          case first => as_aux_lemma =>
            refine wp_region_held_drew (S := fun V => Below V11.heap.size V11 V) rfl (Below.refl _ _).drew (fun hS0 => ?_)
            change wpAnyH _ _ _ _ _ 15 (Array.replicate 15 false) _ _
            refine wpAnyH_take (i := 0) (oi := ⟨some 68, _, _, _, _, _⟩) (v := .agg #[.slice A5 ma c5, .int .i64 cap]) rfl (by kernel_rfl) (by kernel_rfl) (by kernel_rfl) (fun _ _ _ h => h) (.inl ⟨by kernel_rfl, fun X hX => by have n0 := (hX.cell (p := ⟨w.heap.size, 0, none⟩) hltN).trans BNc0; have n1 := (hX.cell (p := ⟨B5b, 0, none⟩) hlt5).trans B5c0; have n2 := (hX.cell (p := ⟨B5b, 1, none⟩) hlt5).trans B5c1; have m0 := (hX.cell (p := ⟨g, o + i * 6, none⟩) hglt).trans x0; have m1 := (hX.cell (p := ⟨g, o + i * 6 + 1, none⟩) hglt).trans x1; have m2 := (hX.cell (p := ⟨g, o + i * 6 + 2, none⟩) hglt).trans x2; have m3 := (hX.cell (p := ⟨g, o + i * 6 + 3, none⟩) hglt).trans x3; have m4 := (hX.cell (p := ⟨g, o + i * 6 + 4, none⟩) hglt).trans x4; have m5 := (hX.cell (p := ⟨g, o + i * 6 + 5, none⟩) hglt).trans x5; go_simp⟩) hS0 ?_
            try simp only [Act.put, List.setIfInBounds_toArray, List.set_cons_zero, List.set_cons_succ]
            refine wpAnyH_take (i := 1) (oi := ⟨some 69, _, _, _, _, _⟩) (v := .pointer (some ⟨w.heap.size, 0, none⟩)) rfl (by kernel_rfl) (by kernel_rfl) (by kernel_rfl) (fun _ _ _ h => h) (.inl ⟨by kernel_rfl, fun X hX => by first | kernel_rfl | go_simp⟩) hS0 ?_
            try simp only [Act.put, List.setIfInBounds_toArray, List.set_cons_zero, List.set_cons_succ]
            refine wpAnyH_take (i := 2) (oi := ⟨some 70, _, _, _, _, _⟩) (v := .slice (some ⟨g, o, none⟩) m c) rfl (by kernel_rfl) (by kernel_rfl) (by kernel_rfl) (fun _ _ _ h => h) (.inl ⟨by kernel_rfl, fun X hX => by have n0 := (hX.cell (p := ⟨w.heap.size, 0, none⟩) hltN).trans BNc0; have n1 := (hX.cell (p := ⟨B5b, 0, none⟩) hlt5).trans B5c0; have n2 := (hX.cell (p := ⟨B5b, 1, none⟩) hlt5).trans B5c1; have m0 := (hX.cell (p := ⟨g, o + i * 6, none⟩) hglt).trans x0; have m1 := (hX.cell (p := ⟨g, o + i * 6 + 1, none⟩) hglt).trans x1; have m2 := (hX.cell (p := ⟨g, o + i * 6 + 2, none⟩) hglt).trans x2; have m3 := (hX.cell (p := ⟨g, o + i * 6 + 3, none⟩) hglt).trans x3; have m4 := (hX.cell (p := ⟨g, o + i * 6 + 4, none⟩) hglt).trans x4; have m5 := (hX.cell (p := ⟨g, o + i * 6 + 5, none⟩) hglt).trans x5; go_simp⟩) hS0 ?_
            try simp only [Act.put, List.setIfInBounds_toArray, List.set_cons_zero, List.set_cons_succ]
            refine wpAnyH_take (i := 3) (oi := ⟨some 71, _, _, _, _, _⟩) (v := .int .i64 (i : Int)) rfl (by kernel_rfl) (by kernel_rfl) (by kernel_rfl) (fun _ _ _ h => h) (.inl ⟨by kernel_rfl, fun X hX => by first | kernel_rfl | go_simp⟩) hS0 ?_
            try simp only [Act.put, List.setIfInBounds_toArray, List.set_cons_zero, List.set_cons_succ]
            refine wpAnyH_take (i := 4) (oi := ⟨some 72, _, _, _, _, _⟩) (v := .pointer (some ⟨g, o + i * 6, none⟩)) rfl (by kernel_rfl) (by kernel_rfl) (by kernel_rfl) (fun _ _ _ h => h) (.inl ⟨by kernel_rfl, fun X hX => by have n0 := (hX.cell (p := ⟨w.heap.size, 0, none⟩) hltN).trans BNc0; have n1 := (hX.cell (p := ⟨B5b, 0, none⟩) hlt5).trans B5c0; have n2 := (hX.cell (p := ⟨B5b, 1, none⟩) hlt5).trans B5c1; have m0 := (hX.cell (p := ⟨g, o + i * 6, none⟩) hglt).trans x0; have m1 := (hX.cell (p := ⟨g, o + i * 6 + 1, none⟩) hglt).trans x1; have m2 := (hX.cell (p := ⟨g, o + i * 6 + 2, none⟩) hglt).trans x2; have m3 := (hX.cell (p := ⟨g, o + i * 6 + 3, none⟩) hglt).trans x3; have m4 := (hX.cell (p := ⟨g, o + i * 6 + 4, none⟩) hglt).trans x4; have m5 := (hX.cell (p := ⟨g, o + i * 6 + 5, none⟩) hglt).trans x5; go_simp⟩) hS0 ?_
            try simp only [Act.put, List.setIfInBounds_toArray, List.set_cons_zero, List.set_cons_succ]
            refine wpAnyH_take (i := 5) (oi := ⟨some 73, _, _, _, _, _⟩) (v := .agg #[.int .i64 x2'.kind, .int .i64 x2'.level, .int .i64 x2'.n, .string x2'.name, .slice Bz2 x2'.alts.length (capN x2'.alts.length bz2), .slice Cz2 x2'.to.length (capN x2'.to.length cz2)]) rfl (by kernel_rfl) (by kernel_rfl) (by kernel_rfl) (fun _ _ _ h => h) (.inl ⟨by kernel_rfl, fun X hX => by have n0 := (hX.cell (p := ⟨w.heap.size, 0, none⟩) hltN).trans BNc0; have n1 := (hX.cell (p := ⟨B5b, 0, none⟩) hlt5).trans B5c0; have n2 := (hX.cell (p := ⟨B5b, 1, none⟩) hlt5).trans B5c1; have m0 := (hX.cell (p := ⟨g, o + i * 6, none⟩) hglt).trans x0; have m1 := (hX.cell (p := ⟨g, o + i * 6 + 1, none⟩) hglt).trans x1; have m2 := (hX.cell (p := ⟨g, o + i * 6 + 2, none⟩) hglt).trans x2; have m3 := (hX.cell (p := ⟨g, o + i * 6 + 3, none⟩) hglt).trans x3; have m4 := (hX.cell (p := ⟨g, o + i * 6 + 4, none⟩) hglt).trans x4; have m5 := (hX.cell (p := ⟨g, o + i * 6 + 5, none⟩) hglt).trans x5; go_simp⟩) hS0 ?_
            try simp only [Act.put, List.setIfInBounds_toArray, List.set_cons_zero, List.set_cons_succ]
            refine wpAnyH_ready (rs := [6, 11]) (by kernel_rfl) (by simp) (AllReadyH.cons rfl (fun K hK => ?_) (AllReadyH.cons rfl (fun K hK => ?_) AllReadyH.nil))
            · go_simp
              refine (HOP.out _ hS0).mono ?_
              rintro e u_1 ⟨A_1, c_1, rfl, hN_1, hq_1⟩
              have hB_1 : Below V11.heap.size V11 u_1 := hS0.trans (hq_1.mono hS0.size)
              refine hK.out _ _ (hB_1) (fun hS1 => ?_)
              clear hK K
              try simp only [Act.put, List.setIfInBounds_toArray, List.set_cons_zero, List.set_cons_succ]
              refine wpAnyH_take (i := 7) (oi := ⟨some 67, _, _, _, _, _⟩) (v := .tuple #[.agg #[.slice A_1 mb c_1, .int .i64 cap], .int .i64 (j : Int), .int .i64 0]) rfl (by kernel_rfl) (by kernel_rfl) (by kernel_rfl) (fun _ _ _ h => h) (.inl ⟨by kernel_rfl, fun X hX => by first | kernel_rfl | go_simp⟩) hS1 ?_
              try simp only [Act.put, List.setIfInBounds_toArray, List.set_cons_zero, List.set_cons_succ]
              refine wpAnyH_take (i := 8) (oi := ⟨some 75, _, _, _, _, _⟩) (v := .agg #[.slice A_1 mb c_1, .int .i64 cap]) rfl (by kernel_rfl) (by kernel_rfl) (by kernel_rfl) (fun _ _ _ h => h) (.inl ⟨by kernel_rfl, fun X hX => by first | kernel_rfl | go_simp⟩) hS1 ?_
              try simp only [Act.put, List.setIfInBounds_toArray, List.set_cons_zero, List.set_cons_succ]
              refine wpAnyH_take (i := 9) (oi := ⟨some 76, _, _, _, _, _⟩) (v := .int .i64 (j : Int)) rfl (by kernel_rfl) (by kernel_rfl) (by kernel_rfl) (fun _ _ _ h => h) (.inl ⟨by kernel_rfl, fun X hX => by first | kernel_rfl | go_simp⟩) hS1 ?_
              try simp only [Act.put, List.setIfInBounds_toArray, List.set_cons_zero, List.set_cons_succ]
              refine wpAnyH_take (i := 10) (oi := ⟨some 77, _, _, _, _, _⟩) (v := .int .i64 0) rfl (by kernel_rfl) (by kernel_rfl) (by kernel_rfl) (fun _ _ _ h => h) (.inl ⟨by kernel_rfl, fun X hX => by first | kernel_rfl | go_simp⟩) hS1 ?_
              try simp only [Act.put, List.setIfInBounds_toArray, List.set_cons_zero, List.set_cons_succ]
              refine wpAnyH_ready (rs := [11]) (by kernel_rfl) (by simp) (AllReadyH.cons rfl (fun K hK => ?_) AllReadyH.nil)
              go_simp
              have lb_2 : Lies ((u_1).alloc (.cells #[.slice none 0 0, .int .i64 0] 24)) u_1.heap.size 24 #[.slice none 0 0, .int .i64 0] := Lies.new (u_1) _ _
              have hle_2 : V11.heap.size ≤ u_1.heap.size := hS1.size
              have hS_2 : Below V11.heap.size V11 (u_1) := hS1
              refine hK.out _ _ (hS1.alloc hS1.size _) (fun hS2 => ?_)
              clear hK K
              try simp only [Act.put, List.setIfInBounds_toArray, List.set_cons_zero, List.set_cons_succ]
              refine wpAnyH_ready (rs := [12]) (by kernel_rfl) (by simp) (AllReadyH.cons rfl (fun K hK => ?_) AllReadyH.nil)
              obtain ⟨b0_3, b1_3⟩ := two_cells lb_2
              have fb0_3 := lb_2.frozen 0
              have fb1_3 := lb_2.frozen 1
              have lp_3 : Lies ((u_1).alloc (.cells #[.slice A_1 mb c_1, .int .i64 cap] 24)) u_1.heap.size 24 #[.slice A_1 mb c_1, .int .i64 cap] := Lies.new (u_1) _ _
              go_simp
              refine hK.out _ _ (hS_2.alloc hS_2.size _) (fun hS3 => ?_)
              clear hK K
              try simp only [Act.put, List.setIfInBounds_toArray, List.set_cons_zero, List.set_cons_succ]
              refine wpAnyH_ready (rs := [13]) (by kernel_rfl) (by simp) (AllReadyH.cons rfl (fun K hK => ?_) AllReadyH.nil)
              go_simp
              refine hK.out _ _ (hS3) (fun hS4 => ?_)
              clear hK K
              try simp only [Act.put, List.setIfInBounds_toArray, List.set_cons_zero, List.set_cons_succ]
              refine wpAnyH_ready (rs := [14]) (by kernel_rfl) (by simp) (AllReadyH.cons rfl (fun K hK => ?_) AllReadyH.nil)
              go_simp
              refine hK.out _ _ (hS4) (fun hS5 => ?_)
              clear hK K
              try simp only [Act.put, List.setIfInBounds_toArray, List.set_cons_zero, List.set_cons_succ]
              refine wpAnyH_done (by kernel_rfl) ?_ _
              go_wp2_with fail
              go_meet
              exact ⟨_, A_1, c_1, rfl, rfl, rfl, lp_3, hN_1.any.below ((Below.refl _ _).alloc (Nat.le_refl _) _) (Nat.le_refl _), hS5⟩
            · go_simp
              have lb_6 : Lies ((V11.drew).alloc (.cells #[.slice none 0 0, .int .i64 0] 24)) V11.heap.size 24 #[.slice none 0 0, .int .i64 0] := Lies.new (V11.drew) _ _
              have hle_6 : V11.heap.size ≤ V11.heap.size := hS0.size
              have hS_6 : Below V11.heap.size V11 (V11.drew) := hS0
              refine hK.out _ _ (hS0.alloc hS0.size _) (fun hS6 => ?_)
              clear hK K
              try simp only [Act.put, List.setIfInBounds_toArray, List.set_cons_zero, List.set_cons_succ]
              refine wpAnyH_ready (rs := [6]) (by kernel_rfl) (by simp) (AllReadyH.cons rfl (fun K hK => ?_) AllReadyH.nil)
              go_simp
              refine (HOP.out _ hS6).mono ?_
              rintro e u_7 ⟨A_7, c_7, rfl, hN_7, hq_7⟩
              have hB_7 : Below V11.heap.size V11 u_7 := hS6.trans (hq_7.mono hS6.size)
              have lb_7 := lb_6.below hq_7 lb_6.lt
              refine hK.out _ _ (hB_7) (fun hS7 => ?_)
              clear hK K
              try simp only [Act.put, List.setIfInBounds_toArray, List.set_cons_zero, List.set_cons_succ]
              refine wpAnyH_take (i := 7) (oi := ⟨some 67, _, _, _, _, _⟩) (v := .tuple #[.agg #[.slice A_7 mb c_7, .int .i64 cap], .int .i64 (j : Int), .int .i64 0]) rfl (by kernel_rfl) (by kernel_rfl) (by kernel_rfl) (fun _ _ _ h => h) (.inl ⟨by kernel_rfl, fun X hX => by first | kernel_rfl | go_simp⟩) hS7 ?_
              try simp only [Act.put, List.setIfInBounds_toArray, List.set_cons_zero, List.set_cons_succ]
              refine wpAnyH_take (i := 8) (oi := ⟨some 75, _, _, _, _, _⟩) (v := .agg #[.slice A_7 mb c_7, .int .i64 cap]) rfl (by kernel_rfl) (by kernel_rfl) (by kernel_rfl) (fun _ _ _ h => h) (.inl ⟨by kernel_rfl, fun X hX => by first | kernel_rfl | go_simp⟩) hS7 ?_
              try simp only [Act.put, List.setIfInBounds_toArray, List.set_cons_zero, List.set_cons_succ]
              refine wpAnyH_take (i := 9) (oi := ⟨some 76, _, _, _, _, _⟩) (v := .int .i64 (j : Int)) rfl (by kernel_rfl) (by kernel_rfl) (by kernel_rfl) (fun _ _ _ h => h) (.inl ⟨by kernel_rfl, fun X hX => by first | kernel_rfl | go_simp⟩) hS7 ?_
              try simp only [Act.put, List.setIfInBounds_toArray, List.set_cons_zero, List.set_cons_succ]
              refine wpAnyH_take (i := 10) (oi := ⟨some 77, _, _, _, _, _⟩) (v := .int .i64 0) rfl (by kernel_rfl) (by kernel_rfl) (by kernel_rfl) (fun _ _ _ h => h) (.inl ⟨by kernel_rfl, fun X hX => by first | kernel_rfl | go_simp⟩) hS7 ?_
              try simp only [Act.put, List.setIfInBounds_toArray, List.set_cons_zero, List.set_cons_succ]
              refine wpAnyH_ready (rs := [12]) (by kernel_rfl) (by simp) (AllReadyH.cons rfl (fun K hK => ?_) AllReadyH.nil)
              obtain ⟨b0_8, b1_8⟩ := two_cells lb_7
              have fb0_8 := lb_7.frozen 0
              have fb1_8 := lb_7.frozen 1
              have lp_8 := lies_put2 lb_7 (.slice A_7 mb c_7) (.int .i64 cap)
              go_simp
              refine hK.out _ _ ((hS7.setCell (p := ⟨_, 0, none⟩) hle_6 _).setCell (p := ⟨_, 1, none⟩) hle_6 _) (fun hS8 => ?_)
              clear hK K
              try simp only [Act.put, List.setIfInBounds_toArray, List.set_cons_zero, List.set_cons_succ]
              refine wpAnyH_ready (rs := [13]) (by kernel_rfl) (by simp) (AllReadyH.cons rfl (fun K hK => ?_) AllReadyH.nil)
              go_simp
              refine hK.out _ _ (hS8) (fun hS9 => ?_)
              clear hK K
              try simp only [Act.put, List.setIfInBounds_toArray, List.set_cons_zero, List.set_cons_succ]
              refine wpAnyH_ready (rs := [14]) (by kernel_rfl) (by simp) (AllReadyH.cons rfl (fun K hK => ?_) AllReadyH.nil)
              go_simp
              refine hK.out _ _ (hS9) (fun hS10 => ?_)
              clear hK K
              try simp only [Act.put, List.setIfInBounds_toArray, List.set_cons_zero, List.set_cons_succ]
              refine wpAnyH_done (by kernel_rfl) ?_ _
              go_wp2_with fail
              go_meet
              exact ⟨_, A_7, c_7, rfl, rfl, rfl, lp_8, ((hN_7.keep (keep_set ⟨_, 0, none⟩ _ (Nat.not_le_of_lt lb_6.lt))).keep (keep_set ⟨_, 1, none⟩ _ (Nat.not_le_of_lt lb_6.lt))).any, hS10⟩
          case rest =>
            obtain ⟨B9b, A9, c9, rfl, rfl, rfl, hl, hn, hb⟩ := hcut
            rename World => V90
            clear x0 x1 x2 x3 x4 x5 hglt HIX hltN hlt5 HOP
            clear BNc0 BNc1 B5c0 B5c1
            replace BN := Lib.hid (BN.out.below hb BN.out.lt)
            replace B5 := Lib.hid (B5.out.below hb B5.out.lt)
            replace B7 := Lib.hid (B7.out.below hb B7.out.lt)
            replace HN := Lib.hid (HN.out.below hb (Nat.le_refl _))
            replace H5 := Lib.hid (H5.out.below hb (Nat.le_refl _))
            replace H7n := Lib.hid (H7n.out.below hb (Nat.le_refl _))
            replace HB := Lib.hid (HB.out.trans (hb.mono HB.out.size))
            clear hb
            have B9 := Lib.hid hl
            clear hl
            have H9n := Lib.hid hn
            clear hn
            go_upto_region 10 with fail
            obtain ⟨BNc0, BNc1⟩ := two_cells BN.out
            obtain ⟨B5c0, B5c1⟩ := two_cells B5.out
            obtain ⟨B9c0, B9c1⟩ := two_cells B9.out
            replace BNc0 := Abv.cell BNc0
            replace BNc1 := Abv.cell BNc1
            replace B5c0 := Abv.cell B5c0
            replace B5c1 := Abv.cell B5c1
            replace B9c0 := Abv.cell B9c0
            replace B9c1 := Abv.cell B9c1
            have HUa : ∀ V : Abv V90, Calls Tryd.prog 15 #[.agg #[.slice A5 ma c5, .int .i64 cap]] V.1 fun e w' => e = .returned (.int .i64 ((un : Int) - 1)) ∧ Below V.1.heap.size V.1 w' := fun V => by
              rw [show ((un : Int) - 1) = usedV la by rw [← H7.out, HUA.out]]
              exact used_any la A5 ma c5 cap V.1 HMA.out (by omega) (H5.out.any.below V.2 (Nat.le_refl _))
            have HUl : ∀ V : Abv V90, Calls Tryd.prog 15 #[.agg #[.slice (some ⟨g, o, none⟩) m c, .int .i64 cap]] V.1 fun e w' => e = .returned (.int .i64 un) ∧ Below V.1.heap.size V.1 w' := fun V => by
              rw [HUN.out]
              exact used_any l (some ⟨g, o, none⟩) m c cap V.1 HM.out (by omega) (HN.out.any.below V.2 (Nat.le_refl _))
            have HUb : ∀ V : Abv V90, Calls Tryd.prog 15 #[.agg #[.slice A9 mb c9, .int .i64 cap]] V.1 fun e w' => e = .returned (.int .i64 un) ∧ Below V.1.heap.size V.1 w' := fun V => by
              rw [← HUM.out]
              exact used_any lm A9 mb c9 cap V.1 HMB.out (by omega) (H9n.out.any.below V.2 (Nat.le_refl _))
            have hb9 : 1 ≤ un ∧ un ≤ 150 := ⟨by have := H7.out; omega, by have := usedV_le l; have := HUN.out; have := HM.out; omega⟩
            obtain ⟨hb9a, hb9b⟩ := hb9
            have hji : decide ((j : Int) ≤ (i : Int)) = true := decide_eq_true h4
            have hmm : decide ((ma : Int) ≤ (m : Int)) = true := decide_eq_true (by omega)
            refine region_calm (by kernel_rfl) (by kernel_rfl) ?_
            repeat (go_big_quiet_step (fail))
            go_big_quiet_step (exact calm_of (HUa _))
            repeat (go_big_quiet_step (fail))
            go_big_quiet_step (exact calm_of (HUl _))
            repeat (go_big_quiet_step (fail))
            go_big_quiet_step (exact calm_of (HUb _))
            repeat (go_big_quiet_step (fail))
            go_big_quiet_step (exact calm_of (HUl _))
            repeat (go_big_quiet_step (fail))
            refine wpQuiet_nil ?_
            rintro _ ⟨V, rfl⟩
            go_wp2_with fail
            go_ret
            exact ⟨rfl, HB.out.trans (V.2.mono HB.out.size)⟩
        · skip
          have HE := Lib.hid (parts_no k2)
          have HK2 := Lib.hid k2
          clear k2
          have HC12 := Lib.hid (show Calls Tryd.prog 17 _ _ (fun e w' => ∃ A c, e = .returned (.tuple #[.agg #[.slice A m c, .int .i64 cap], .int .i64 122]) ∧ NdsIn w' AnyB l A ∧ Below V6.heap.size V6 w') from by
            have h := free_any l A m c cap at_ V6 HM.out hpos (by omega) HF9.out HN.out.any
            rw [HE.out] at h
            refine h.mono ?_
            rintro e w' ⟨A', d, rfl, hn, hb⟩
            rw [HM.out]
            exact ⟨A', _, rfl, hn.any, hb⟩
          )
          obtain ⟨BNc0, BNc1⟩ := two_cells BN.out
          go_wp2_with fail
          refine HC12.out.mono ?_
          rintro e V12 ⟨A5, c5, rfl, hn, hb⟩
          clear BNc0 BNc1 HC12
          replace BN := Lib.hid (BN.out.below hb BN.out.lt)
          replace HN := Lib.hid (HN.out.below hb (Nat.le_refl _))
          replace HB := Lib.hid (HB.out.trans (hb.mono HB.out.size))
          clear hb
          have H5 := Lib.hid hn
          clear hn
          go_upto_region 4 with fail
          obtain ⟨V13, hV13⟩ : ∃ V, V = V12.alloc (.cells #[.slice A5 m c5, .int .i64 cap] 24) := ⟨_, rfl⟩
          obtain ⟨B5b, hB5b⟩ : ∃ B, B = V12.heap.size := ⟨_, rfl⟩
          have hb : Below V12.heap.size V12 V13 := by rw [hV13]; exact (Below.refl _ _).alloc (Nat.le_refl _) _
          have B5 : Hid (Lies V13 B5b 24 #[.slice A5 m c5, .int .i64 cap]) := Lib.hid (by rw [hV13, hB5b]; exact Lies.new _ _ _)
          rw [← hV13, ← hB5b]
          clear hV13 hB5b
          replace BN := Lib.hid (BN.out.below hb BN.out.lt)
          replace HN := Lib.hid (HN.out.below hb (Nat.le_refl _))
          replace H5 := Lib.hid (H5.out.below hb (Nat.le_refl _))
          replace HB := Lib.hid (HB.out.trans (hb.mono HB.out.size))
          clear hb
          by_cases k3 : at_ < (m : Int)
          · skip
            obtain ⟨i, rfl⟩ : ∃ i : Nat, at_ = (i : Int) := ⟨at_.toNat, by omega⟩
            have him : i < m := by omega
            have hkz : (ndAt l i).kind = 0 := by
              have h9 := HK2.out
              rw [Int.toNat_natCast] at h9
              exact Classical.byContradiction fun h => h9 ⟨by have := HM.out; omega, h⟩
            obtain ⟨g, o, x, Bz, bz, Cz, cz, hx, hA9, _, ⟨x0, x1, x2, x3, x4, x5⟩, hI⟩ := NdsIn.get HN.out i (by have := HM.out; omega)
            rw [← hx] at hkz
            subst hA9
            rw [hkz] at x0
            clear x1 x2 x3 x4 x5 hI hx
            have HC14 := Lib.hid (same_any l A5 (some ⟨g, o, none⟩) m c5 c cap V13 HM.out (by omega) H5.out.any HN.out.any)
            obtain ⟨BNc0, BNc1⟩ := two_cells BN.out
            obtain ⟨B5c0, B5c1⟩ := two_cells B5.out
            go_wp2_with fail
            refine HC14.out.mono ?_
            rintro e V14 ⟨rfl, hb⟩
            clear BNc0 BNc1 B5c0 B5c1 HC14
            replace BN := Lib.hid (BN.out.below hb BN.out.lt)
            replace B5 := Lib.hid (B5.out.below hb B5.out.lt)
            replace HN := Lib.hid (HN.out.below hb (Nat.le_refl _))
            replace H5 := Lib.hid (H5.out.below hb (Nat.le_refl _))
            replace HB := Lib.hid (HB.out.trans (hb.mono HB.out.size))
            clear hb
            go_wp2_with fail
            go_ret
            exact ⟨rfl, HB.out⟩
          · skip
            have e3 : decide (at_ < (m : Int)) = false := decide_eq_false k3
            have HC15 := Lib.hid (same_any l A5 A m c5 c cap V13 HM.out (by omega) H5.out.any HN.out.any)
            obtain ⟨BNc0, BNc1⟩ := two_cells BN.out
            obtain ⟨B5c0, B5c1⟩ := two_cells B5.out
            go_wp2_with fail
            refine HC15.out.mono ?_
            rintro e V15 ⟨rfl, hb⟩
            clear BNc0 BNc1 B5c0 B5c1 HC15
            replace BN := Lib.hid (BN.out.below hb BN.out.lt)
            replace B5 := Lib.hid (B5.out.below hb B5.out.lt)
            replace HN := Lib.hid (HN.out.below hb (Nat.le_refl _))
            replace H5 := Lib.hid (H5.out.below hb (Nat.le_refl _))
            replace HB := Lib.hid (HB.out.trans (hb.mono HB.out.size))
            clear hb
            go_wp2_with fail
            go_ret
            exact ⟨rfl, HB.out⟩
end Lx
end Go.Proofs.YtceblpjlklogpaaDoor
