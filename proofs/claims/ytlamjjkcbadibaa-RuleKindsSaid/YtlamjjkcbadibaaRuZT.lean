/-
  The law RuleTurns, walked.
-/
import Derived.Test.YtlamjjkcbadibaaC6
namespace Go.Proofs.Ytlamjjkcbadibaa
open Go Go.RowKit
namespace Lx
set_option maxRecDepth 100000
theorem calm_tame {W : World} {x : Nd} {B C : Option Addr} {b c : Nat} (h : NdIn W AnyB x B C) (hs : x.alts.length ≤ 140737488351232) (V : Abv W) :
    Calls Try.prog 10 #[ndv x B b C c] V.1 fun e w' => e = .returned (.bool (tameV x.alts)) ∧ ∃ V' : Abv W, w' = V'.1 :=
  (rutame_any x B C b c V.1 (h.below V.2 (Nat.le_refl _)) hs).mono fun _ w' ⟨he, hb⟩ => ⟨he, ⟨w', V.2.trans (hb.mono V.2.size)⟩, rfl⟩
theorem calm_same' {W : World} {p : Pl} {C C' : Option Addr} {c c' : Nat} (h : PlOk W AnyB p C) (h' : PlOk W AnyB p C') (V : Abv W) :
    Calls Try.prog 12 #[plv p C c, plv p C' c'] V.1 fun e w' => e = .returned (.bool true) ∧ ∃ V' : Abv W, w' = V'.1 :=
  (rusame_any p C C' c c' V.1 (h.below V.2 (Nat.le_refl _)) (h'.below V.2 (Nat.le_refl _))).mono fun _ w' ⟨he, hb⟩ => ⟨he, ⟨w', V.2.trans (hb.mono V.2.size)⟩, rfl⟩
theorem calm_need {W : World} {p : Pl} {C : Option Addr} {c : Nat} {x y : Nd} {Bx Cx By Cy : Option Addr} {bx cx by_ cy : Nat} (hI : NdIn W AnyB x Bx Cx) (hJ : NdIn W AnyB y By Cy) (V : Abv W) :
    Calls Try.prog 13 #[plv p C c, ndv x Bx bx Cx cx, ndv y By by_ Cy cy] V.1 fun e w' => e = .returned (.int .i64 (needV p x y)) ∧ ∃ V' : Abv W, w' = V'.1 :=
  (runeed_any p C c x y Bx Cx bx cx By Cy by_ cy V.1 (hI.below V.2 (Nat.le_refl _)) (hJ.below V.2 (Nat.le_refl _))).mono fun _ w' ⟨he, hb⟩ => ⟨he, ⟨w', V.2.trans (hb.mono V.2.size)⟩, rfl⟩
set_option maxHeartbeats 16000000 in
theorem ruleTurns_law (x y : Nd) (Bx Cx : Option Addr) (bx cx : Nat) (By Cy : Option Addr) (by_ cy : Nat) (w : World) (hI : NdIn w AnyB x Bx Cx) (hJ : NdIn w AnyB y By Cy) :
    Calls Try.prog 3 #[ndv x Bx bx Cx cx, ndv y By by_ Cy cy] w fun e w' => e = .returned (.bool true) ∧ Below w.heap.size w w' := by
  obtain ⟨W, hW⟩ : ∃ W, W = ((w.alloc (.cells #[.int .i64 x.kind, .int .i64 x.level, .int .i64 x.n, .string x.name, .slice Bx x.alts.length (capN x.alts.length bx), .slice Cx x.to.length (capN x.to.length cx)] 25)).alloc (.cells #[.int .i64 y.kind, .int .i64 y.level, .int .i64 y.n, .string y.name, .slice By y.alts.length (capN y.alts.length by_), .slice Cy y.to.length (capN y.to.length cy)] 25)) := ⟨_, rfl⟩
  have hbW : Below w.heap.size w W := by rw [hW]; exact (((Below.refl _ w).alloc (Nat.le_refl _) _).alloc (by simp) _)
  have L0 : Lies W (w.heap.size) 25 #[.int .i64 x.kind, .int .i64 x.level, .int .i64 x.n, .string x.name, .slice Bx x.alts.length (capN x.alts.length bx), .slice Cx x.to.length (capN x.to.length cx)] := by
    rw [hW]
    refine Lies.old ?_ _
    exact Lies.new _ _ _
  have L1 : Lies W (w.heap.size + 1) 25 #[.int .i64 y.kind, .int .i64 y.level, .int .i64 y.n, .string y.name, .slice By y.alts.length (capN y.alts.length by_), .slice Cy y.to.length (capN y.to.length cy)] := by
    rw [hW]
    simpa using Lies.new (w.alloc (.cells #[.int .i64 x.kind, .int .i64 x.level, .int .i64 x.n, .string x.name, .slice Bx x.alts.length (capN x.alts.length bx), .slice Cx x.to.length (capN x.to.length cx)] 25)) 25 #[.int .i64 y.kind, .int .i64 y.level, .int .i64 y.n, .string y.name, .slice By y.alts.length (capN y.alts.length by_), .slice Cy y.to.length (capN y.to.length cy)]
  obtain ⟨x0, x1, x2, x3, x4, x5⟩ := six_cells L0
  replace x0 := Abv.cell x0
  replace x1 := Abv.cell x1
  replace x2 := Abv.cell x2
  replace x3 := Abv.cell x3
  replace x4 := Abv.cell x4
  replace x5 := Abv.cell x5
  obtain ⟨y0, y1, y2, y3, y4, y5⟩ := six_cells L1
  replace y0 := Abv.cell y0
  replace y1 := Abv.cell y1
  replace y2 := Abv.cell y2
  replace y3 := Abv.cell y3
  replace y4 := Abv.cell y4
  replace y5 := Abv.cell y5
  have HB := Lib.hid hbW
  clear L0 L1 hbW
  have HFX := Lib.hid (fun V : Abv W => calm_all (fun U => fixed14_any U) V)
  have HIW := Lib.hid (hI.below HB.out (Nat.le_refl _))
  have HJW := Lib.hid (hJ.below HB.out (Nat.le_refl _))
  have hnx := hI.1
  have hny := hJ.1
  clear hI hJ
  have HS1 := Lib.hid (fun V : Abv W => calm_all (fun U => rusmall_any x Bx Cx bx cx U) V)
  have HS2 := Lib.hid (fun V : Abv W => calm_all (fun U => rusmall_any y By Cy by_ cy U) V)
  have HT1 := Lib.hid (fun V : Abv W => calm_tame (b := bx) (c := cx) HIW.out hnx.2.1 V)
  have HT2 := Lib.hid (fun V : Abv W => calm_tame (b := by_) (c := cy) HJW.out hny.2.1 V)
  have HTU := Lib.hid (turns_ok x y)
  unfold ndv at HS1 HS2 HT1 HT2
  obtain ⟨P1, hP1⟩ : ∃ q, q = (ofN x y).1 := ⟨_, rfl⟩
  obtain ⟨P2, hP2⟩ : ∃ q, q = (ofN y x).1 := ⟨_, rfl⟩
  obtain ⟨E1, hE1⟩ : ∃ q, q = (ofN x y).2 := ⟨_, rfl⟩
  obtain ⟨E2, hE2⟩ : ∃ q, q = (ofN y x).2 := ⟨_, rfl⟩
  obtain ⟨N1, hN1⟩ : ∃ q, q = needV (ofN x y).1 x y := ⟨_, rfl⟩
  obtain ⟨N2, hN2⟩ : ∃ q, q = needV (ofN y x).1 y x := ⟨_, rfl⟩
  have HO1 : Hid (∀ V : Abv W, Calls Try.prog 11 #[.agg #[.int .i64 x.kind, .int .i64 x.level, .int .i64 x.n, .string x.name, .slice Bx x.alts.length (capN x.alts.length bx), .slice Cx x.to.length (capN x.to.length cx)], .agg #[.int .i64 y.kind, .int .i64 y.level, .int .i64 y.n, .string y.name, .slice By y.alts.length (capN y.alts.length by_), .slice Cy y.to.length (capN y.to.length cy)]] V.1 (GivesPl P1 E1 V.1)) := Lib.hid fun V => by
    rw [hP1, hE1]
    exact ruof_any x y Bx Cx bx cx By Cy by_ cy V.1 (HIW.out.below V.2 (Nat.le_refl _)) (HJW.out.below V.2 (Nat.le_refl _))
  have HO2 : Hid (∀ V : Abv W, Calls Try.prog 11 #[.agg #[.int .i64 y.kind, .int .i64 y.level, .int .i64 y.n, .string y.name, .slice By y.alts.length (capN y.alts.length by_), .slice Cy y.to.length (capN y.to.length cy)], .agg #[.int .i64 x.kind, .int .i64 x.level, .int .i64 x.n, .string x.name, .slice Bx x.alts.length (capN x.alts.length bx), .slice Cx x.to.length (capN x.to.length cx)]] V.1 (GivesPl P2 E2 V.1)) := Lib.hid fun V => by
    rw [hP2, hE2]
    exact ruof_any y x By Cy by_ cy Bx Cx bx cx V.1 (HJW.out.below V.2 (Nat.le_refl _)) (HIW.out.below V.2 (Nat.le_refl _))
  rw [← hN1, ← hN2, ← hP1, ← hP2, ← hE1, ← hE2] at HTU
  rw [← hP1] at hN1
  rw [← hP2] at hN2
  clear hP1 hP2 hE1 hE2
  obtain ⟨s1, hs1⟩ : ∃ q, q = smallR x := ⟨_, rfl⟩
  obtain ⟨s2, hs2⟩ : ∃ q, q = smallR y := ⟨_, rfl⟩
  obtain ⟨t1, ht1⟩ : ∃ q, q = tameV x.alts := ⟨_, rfl⟩
  obtain ⟨t2, ht2⟩ : ∃ q, q = tameV y.alts := ⟨_, rfl⟩
  rw [← hs1] at HS1
  rw [← hs2] at HS2
  rw [← ht1] at HT1
  rw [← ht2] at HT2
  clear hs1 hs2 ht1 ht2
  have HN1 := Lib.hid hN1
  have HN2 := Lib.hid hN2
  have HNX := Lib.hid hnx
  have HNY := Lib.hid hny
  clear hN1 hN2 hnx hny
  unfold ndv
  cases s1 with
  | false =>
    go_enter Try.func3, Try.ntmps3
    go_upto_region 1 with fail
    rw [← hW]
    clear hW
    obtain ⟨V0, hV0⟩ := calm_in W
    rw [← hV0]
    clear hV0
    go_wp2_with fail
    refine (HFX.out _).mono ?_
    rintro e _ ⟨rfl, V1, rfl⟩
    go_wp2_with fail
    refine (HS1.out _).mono ?_
    rintro e _ ⟨rfl, V2, rfl⟩
    go_wp2_with fail
    refine (HFX.out _).mono ?_
    rintro e _ ⟨rfl, V3, rfl⟩
    go_wp2_with fail
    go_ret
    exact ⟨rfl, HB.out.trans (V3.2.mono HB.out.size)⟩
  | true =>
    cases s2 with
    | false =>
      go_enter Try.func3, Try.ntmps3
      go_upto_region 1 with fail
      rw [← hW]
      clear hW
      obtain ⟨V0, hV0⟩ := calm_in W
      rw [← hV0]
      clear hV0
      go_wp2_with fail
      refine (HFX.out _).mono ?_
      rintro e _ ⟨rfl, V1, rfl⟩
      go_wp2_with fail
      refine (HS1.out _).mono ?_
      rintro e _ ⟨rfl, V2, rfl⟩
      go_wp2_with fail
      refine (HS2.out _).mono ?_
      rintro e _ ⟨rfl, V3, rfl⟩
      go_wp2_with fail
      refine (HFX.out _).mono ?_
      rintro e _ ⟨rfl, V4, rfl⟩
      go_wp2_with fail
      go_ret
      exact ⟨rfl, HB.out.trans (V4.2.mono HB.out.size)⟩
    | true =>
      cases t1 with
      | false =>
        go_enter Try.func3, Try.ntmps3
        go_upto_region 1 with fail
        rw [← hW]
        clear hW
        obtain ⟨V0, hV0⟩ := calm_in W
        rw [← hV0]
        clear hV0
        go_wp2_with fail
        refine (HFX.out _).mono ?_
        rintro e _ ⟨rfl, V1, rfl⟩
        go_wp2_with fail
        refine (HS1.out _).mono ?_
        rintro e _ ⟨rfl, V2, rfl⟩
        go_wp2_with fail
        refine (HS2.out _).mono ?_
        rintro e _ ⟨rfl, V3, rfl⟩
        go_wp2_with fail
        refine (HT1.out _).mono ?_
        rintro e _ ⟨rfl, V4, rfl⟩
        go_wp2_with fail
        refine (HFX.out _).mono ?_
        rintro e _ ⟨rfl, V5, rfl⟩
        go_wp2_with fail
        go_ret
        exact ⟨rfl, HB.out.trans (V5.2.mono HB.out.size)⟩
      | true =>
        cases t2 with
        | false =>
          go_enter Try.func3, Try.ntmps3
          go_upto_region 1 with fail
          rw [← hW]
          clear hW
          obtain ⟨V0, hV0⟩ := calm_in W
          rw [← hV0]
          clear hV0
          go_wp2_with fail
          refine (HFX.out _).mono ?_
          rintro e _ ⟨rfl, V1, rfl⟩
          go_wp2_with fail
          refine (HS1.out _).mono ?_
          rintro e _ ⟨rfl, V2, rfl⟩
          go_wp2_with fail
          refine (HS2.out _).mono ?_
          rintro e _ ⟨rfl, V3, rfl⟩
          go_wp2_with fail
          refine (HT1.out _).mono ?_
          rintro e _ ⟨rfl, V4, rfl⟩
          go_wp2_with fail
          refine (HT2.out _).mono ?_
          rintro e _ ⟨rfl, V5, rfl⟩
          go_wp2_with fail
          refine (HFX.out _).mono ?_
          rintro e _ ⟨rfl, V6, rfl⟩
          go_wp2_with fail
          go_ret
          exact ⟨rfl, HB.out.trans (V6.2.mono HB.out.size)⟩
        | true =>
          obtain ⟨hEE, hbad, heven, hodd⟩ := HTU.out
          subst hEE
          by_cases hE : E1 = 0
          · subst hE
            replace heven := heven rfl
            replace hodd := hodd rfl
            by_cases hJ : P1.kind = 6 ∨ (x.kind = 7 ∧ y.kind = 7)
            · obtain ⟨e1, e2, e3, e4⟩ := heven hJ
              clear HTU hbad hodd heven HN1 HN2 N1 N2
              obtain ⟨p1k, p1s, p1l, p1a, p1n⟩ := P1
              obtain ⟨p2k, p2s, p2l, p2a, p2n⟩ := P2
              simp only at e1 e2 e3 e4 hJ HO1 HO2
              subst e1 e2 e3
              by_cases hk6 : p1k = 6
              · subst hk6
                have hk : (x.kind == y.kind) = true := by rcases e4 with e4 | e4; exact absurd rfl e4; simpa using e4.1
                have hl : (x.level == y.level) = true := by rcases e4 with e4 | e4; exact absurd rfl e4; simpa using e4.2
                clear e4 hJ
                go_enter Try.func3, Try.ntmps3
                go_upto_region 1 with fail
                rw [← hW]
                clear hW
                obtain ⟨V0, hV0⟩ := calm_in W
                rw [← hV0]
                clear hV0
                go_wp2_with fail
                refine (HFX.out _).mono ?_
                rintro e _ ⟨rfl, V1, rfl⟩
                go_wp2_with fail
                refine (HS1.out _).mono ?_
                rintro e _ ⟨rfl, V2, rfl⟩
                go_wp2_with fail
                refine (HS2.out _).mono ?_
                rintro e _ ⟨rfl, V3, rfl⟩
                go_wp2_with fail
                refine (HT1.out _).mono ?_
                rintro e _ ⟨rfl, V4, rfl⟩
                go_wp2_with fail
                refine (HT2.out _).mono ?_
                rintro e _ ⟨rfl, V5, rfl⟩
                go_wp2_with fail
                refine (HO1.out V5).mono ?_
                rintro e w6 ⟨C6, c6, rfl, hP6, hb6⟩
                simp only [plv]
                go_upto_region 4 with fail
                obtain ⟨g6, hg6⟩ : ∃ g, g = w6.heap.size := ⟨_, rfl⟩
                obtain ⟨U6, hU6⟩ : ∃ V : Abv W, V.1 = w6.alloc (.cells #[.int .i64 6, .bool false, .int .i64 p1l, .int .i64 p1a, .int .i64 p1n.kind, .int .i64 p1n.level, .int .i64 p1n.n, .string p1n.name, .slice none 0 0, .slice C6 p1n.to.length (capN p1n.to.length c6)] 29) := ⟨⟨_, (V5.2.trans (hb6.mono V5.2.size)).alloc (Nat.le_trans V5.2.size hb6.size) _⟩, rfl⟩
                have LP6 := Lib.hid (show Lies U6.1 g6 29 #[.int .i64 6, .bool false, .int .i64 p1l, .int .i64 p1a, .int .i64 p1n.kind, .int .i64 p1n.level, .int .i64 p1n.n, .string p1n.name, .slice none 0 0, .slice C6 p1n.to.length (capN p1n.to.length c6)] by rw [hU6, hg6]; exact Lies.new _ _ _)
                have HP6 := Lib.hid (show PlOk U6.1 AnyB ⟨6, false, p1l, p1a, p1n⟩ C6 by rw [hU6]; exact (hP6.below ((Below.refl _ _).alloc (Nat.le_refl _) _) (Nat.le_refl _)).keep (keep_wide fun _ _ _ => trivial))
                rw [← hU6, ← hg6]
                clear hU6 hg6 hP6 hb6 w6
                go_wp2_with fail
                refine (HO2.out U6).mono ?_
                rintro e w7 ⟨C7, c7, rfl, hP7, hb7⟩
                simp only [plv]
                go_upto_region 5 with fail
                obtain ⟨g7, hg7⟩ : ∃ g, g = w7.heap.size := ⟨_, rfl⟩
                obtain ⟨U7, hU7⟩ : ∃ V : Abv W, V.1 = w7.alloc (.cells #[.int .i64 6, .bool false, .int .i64 p2l, .int .i64 p2a, .int .i64 p2n.kind, .int .i64 p2n.level, .int .i64 p2n.n, .string p2n.name, .slice none 0 0, .slice C7 p2n.to.length (capN p2n.to.length c7)] 29) := ⟨⟨_, (U6.2.trans (hb7.mono U6.2.size)).alloc (Nat.le_trans U6.2.size hb7.size) _⟩, rfl⟩
                have LP7 := Lib.hid (show Lies U7.1 g7 29 #[.int .i64 6, .bool false, .int .i64 p2l, .int .i64 p2a, .int .i64 p2n.kind, .int .i64 p2n.level, .int .i64 p2n.n, .string p2n.name, .slice none 0 0, .slice C7 p2n.to.length (capN p2n.to.length c7)] by rw [hU7, hg7]; exact Lies.new _ _ _)
                have HP7 := Lib.hid (show PlOk U7.1 AnyB ⟨6, false, p2l, p2a, p2n⟩ C7 by rw [hU7]; exact (hP7.below ((Below.refl _ _).alloc (Nat.le_refl _) _) (Nat.le_refl _)).keep (keep_wide fun _ _ _ => trivial))
                rw [← hU7, ← hg7]
                have HC6 := Lib.hid (show Below U6.1.heap.size U6.1 U7.1 by rw [hU7]; exact hb7.alloc hb7.size _)
                clear hU7 hg7 hP7 hb7 w7
                have lp6 := LP6.out.below HC6.out LP6.out.lt
                have lp7 := LP7.out
                have hp6 := HP6.out.below HC6.out (Nat.le_refl _)
                have hp7 := HP7.out
                obtain ⟨p0, p1, p2, p3, p4, p5, p6, p7, p8, p9⟩ := ten_cells lp6
                obtain ⟨q0, q1, q2, q3, q4, q5, q6, q7, q8, q9⟩ := ten_cells lp7
                have HL6 := Lib.hid lp6
                have HL7 := Lib.hid lp7
                have HQ6 := Lib.hid hp6
                have HQ7 := Lib.hid hp7
                clear lp6 lp7 hp6 hp7 LP6 LP7 HP6 HP7 HC6 V1 V2 V3 V4 V5 HS1 HS2 HT1 HT2 HO1 HO2 HFX
                go_wp2_with fail
                go_ret
                exact ⟨rfl, HB.out.trans (U7.2.mono HB.out.size)⟩
              · have hk : (p1k == 6) = false := by simpa using hk6
                have hkn : (p1k != 6) = true := by simpa using hk6
                have hk7 : (x.kind == 7) = true := by rcases hJ with h | h; exact absurd h hk6; simpa using h.1
                have hk7' : (y.kind == 7) = true := by rcases hJ with h | h; exact absurd h hk6; simpa using h.2
                clear e4 hJ
                go_enter Try.func3, Try.ntmps3
                go_upto_region 1 with fail
                rw [← hW]
                clear hW
                obtain ⟨V0, hV0⟩ := calm_in W
                rw [← hV0]
                clear hV0
                go_wp2_with fail
                refine (HFX.out _).mono ?_
                rintro e _ ⟨rfl, V1, rfl⟩
                go_wp2_with fail
                refine (HS1.out _).mono ?_
                rintro e _ ⟨rfl, V2, rfl⟩
                go_wp2_with fail
                refine (HS2.out _).mono ?_
                rintro e _ ⟨rfl, V3, rfl⟩
                go_wp2_with fail
                refine (HT1.out _).mono ?_
                rintro e _ ⟨rfl, V4, rfl⟩
                go_wp2_with fail
                refine (HT2.out _).mono ?_
                rintro e _ ⟨rfl, V5, rfl⟩
                go_wp2_with fail
                refine (HO1.out V5).mono ?_
                rintro e w6 ⟨C6, c6, rfl, hP6, hb6⟩
                simp only [plv]
                go_upto_region 4 with fail
                obtain ⟨g6, hg6⟩ : ∃ g, g = w6.heap.size := ⟨_, rfl⟩
                obtain ⟨U6, hU6⟩ : ∃ V : Abv W, V.1 = w6.alloc (.cells #[.int .i64 p1k, .bool false, .int .i64 p1l, .int .i64 p1a, .int .i64 p1n.kind, .int .i64 p1n.level, .int .i64 p1n.n, .string p1n.name, .slice none 0 0, .slice C6 p1n.to.length (capN p1n.to.length c6)] 29) := ⟨⟨_, (V5.2.trans (hb6.mono V5.2.size)).alloc (Nat.le_trans V5.2.size hb6.size) _⟩, rfl⟩
                have LP6 := Lib.hid (show Lies U6.1 g6 29 #[.int .i64 p1k, .bool false, .int .i64 p1l, .int .i64 p1a, .int .i64 p1n.kind, .int .i64 p1n.level, .int .i64 p1n.n, .string p1n.name, .slice none 0 0, .slice C6 p1n.to.length (capN p1n.to.length c6)] by rw [hU6, hg6]; exact Lies.new _ _ _)
                have HP6 := Lib.hid (show PlOk U6.1 AnyB ⟨p1k, false, p1l, p1a, p1n⟩ C6 by rw [hU6]; exact (hP6.below ((Below.refl _ _).alloc (Nat.le_refl _) _) (Nat.le_refl _)).keep (keep_wide fun _ _ _ => trivial))
                rw [← hU6, ← hg6]
                clear hU6 hg6 hP6 hb6 w6
                go_wp2_with fail
                refine (HO2.out U6).mono ?_
                rintro e w7 ⟨C7, c7, rfl, hP7, hb7⟩
                simp only [plv]
                go_upto_region 5 with fail
                obtain ⟨g7, hg7⟩ : ∃ g, g = w7.heap.size := ⟨_, rfl⟩
                obtain ⟨U7, hU7⟩ : ∃ V : Abv W, V.1 = w7.alloc (.cells #[.int .i64 p1k, .bool false, .int .i64 p2l, .int .i64 p2a, .int .i64 p2n.kind, .int .i64 p2n.level, .int .i64 p2n.n, .string p2n.name, .slice none 0 0, .slice C7 p2n.to.length (capN p2n.to.length c7)] 29) := ⟨⟨_, (U6.2.trans (hb7.mono U6.2.size)).alloc (Nat.le_trans U6.2.size hb7.size) _⟩, rfl⟩
                have LP7 := Lib.hid (show Lies U7.1 g7 29 #[.int .i64 p1k, .bool false, .int .i64 p2l, .int .i64 p2a, .int .i64 p2n.kind, .int .i64 p2n.level, .int .i64 p2n.n, .string p2n.name, .slice none 0 0, .slice C7 p2n.to.length (capN p2n.to.length c7)] by rw [hU7, hg7]; exact Lies.new _ _ _)
                have HP7 := Lib.hid (show PlOk U7.1 AnyB ⟨p1k, false, p2l, p2a, p2n⟩ C7 by rw [hU7]; exact (hP7.below ((Below.refl _ _).alloc (Nat.le_refl _) _) (Nat.le_refl _)).keep (keep_wide fun _ _ _ => trivial))
                rw [← hU7, ← hg7]
                have HC6 := Lib.hid (show Below U6.1.heap.size U6.1 U7.1 by rw [hU7]; exact hb7.alloc hb7.size _)
                clear hU7 hg7 hP7 hb7 w7
                have lp6 := LP6.out.below HC6.out LP6.out.lt
                have lp7 := LP7.out
                have hp6 := HP6.out.below HC6.out (Nat.le_refl _)
                have hp7 := HP7.out
                obtain ⟨p0, p1, p2, p3, p4, p5, p6, p7, p8, p9⟩ := ten_cells lp6
                obtain ⟨q0, q1, q2, q3, q4, q5, q6, q7, q8, q9⟩ := ten_cells lp7
                have HL6 := Lib.hid lp6
                have HL7 := Lib.hid lp7
                have HQ6 := Lib.hid hp6
                have HQ7 := Lib.hid hp7
                clear lp6 lp7 hp6 hp7 LP6 LP7 HP6 HP7 HC6 V1 V2 V3 V4 V5 HS1 HS2 HT1 HT2 HO1 HO2 HFX
                go_wp2_with fail
                go_ret
                exact ⟨rfl, HB.out.trans (U7.2.mono HB.out.size)⟩
            · obtain ⟨e1, e2, e3⟩ := hodd hJ
              have hP2 : P2 = { P1 with swap := !P1.swap } := by rw [← e1]; conv => rhs; rw [← e2]
              subst hP2
              clear HTU hbad hodd heven e1 e2
              obtain ⟨p1k, p1s, p1l, p1a, p1n⟩ := P1
              simp only at hJ HO1 HO2 HN1 HN2 e3
              subst e3
              have hk6 : (p1k == 6) = false := by simp; exact fun h => hJ (.inl h)
              cases h7 : (x.kind == 7) with
              | true =>
                have h7' : (y.kind == 7) = false := by simp at h7 ⊢; exact fun h => hJ (.inr ⟨h7, h⟩)
                clear hJ
                cases p1s with
                | true =>
                  simp only [Bool.not_true] at HO2 HN2
                  go_enter Try.func3, Try.ntmps3
                  go_upto_region 1 with fail
                  rw [← hW]
                  clear hW
                  obtain ⟨V0, hV0⟩ := calm_in W
                  rw [← hV0]
                  clear hV0
                  go_wp2_with fail
                  refine (HFX.out _).mono ?_
                  rintro e _ ⟨rfl, V1, rfl⟩
                  go_wp2_with fail
                  refine (HS1.out _).mono ?_
                  rintro e _ ⟨rfl, V2, rfl⟩
                  go_wp2_with fail
                  refine (HS2.out _).mono ?_
                  rintro e _ ⟨rfl, V3, rfl⟩
                  go_wp2_with fail
                  refine (HT1.out _).mono ?_
                  rintro e _ ⟨rfl, V4, rfl⟩
                  go_wp2_with fail
                  refine (HT2.out _).mono ?_
                  rintro e _ ⟨rfl, V5, rfl⟩
                  go_wp2_with fail
                  refine (HO1.out V5).mono ?_
                  rintro e w6 ⟨C6, c6, rfl, hP6, hb6⟩
                  simp only [plv]
                  go_upto_region 4 with fail
                  obtain ⟨g6, hg6⟩ : ∃ g, g = w6.heap.size := ⟨_, rfl⟩
                  obtain ⟨U6, hU6⟩ : ∃ V : Abv W, V.1 = w6.alloc (.cells #[.int .i64 p1k, .bool true, .int .i64 p1l, .int .i64 p1a, .int .i64 p1n.kind, .int .i64 p1n.level, .int .i64 p1n.n, .string p1n.name, .slice none 0 0, .slice C6 p1n.to.length (capN p1n.to.length c6)] 29) := ⟨⟨_, (V5.2.trans (hb6.mono V5.2.size)).alloc (Nat.le_trans V5.2.size hb6.size) _⟩, rfl⟩
                  have LP6 := Lib.hid (show Lies U6.1 g6 29 #[.int .i64 p1k, .bool true, .int .i64 p1l, .int .i64 p1a, .int .i64 p1n.kind, .int .i64 p1n.level, .int .i64 p1n.n, .string p1n.name, .slice none 0 0, .slice C6 p1n.to.length (capN p1n.to.length c6)] by rw [hU6, hg6]; exact Lies.new _ _ _)
                  have HP6 := Lib.hid (show PlOk U6.1 AnyB ⟨p1k, true, p1l, p1a, p1n⟩ C6 by rw [hU6]; exact (hP6.below ((Below.refl _ _).alloc (Nat.le_refl _) _) (Nat.le_refl _)).keep (keep_wide fun _ _ _ => trivial))
                  rw [← hU6, ← hg6]
                  clear hU6 hg6 hP6 hb6 w6
                  go_wp2_with fail
                  refine (HO2.out U6).mono ?_
                  rintro e w7 ⟨C7, c7, rfl, hP7, hb7⟩
                  simp only [plv]
                  go_upto_region 5 with fail
                  obtain ⟨g7, hg7⟩ : ∃ g, g = w7.heap.size := ⟨_, rfl⟩
                  obtain ⟨U7, hU7⟩ : ∃ V : Abv W, V.1 = w7.alloc (.cells #[.int .i64 p1k, .bool false, .int .i64 p1l, .int .i64 p1a, .int .i64 p1n.kind, .int .i64 p1n.level, .int .i64 p1n.n, .string p1n.name, .slice none 0 0, .slice C7 p1n.to.length (capN p1n.to.length c7)] 29) := ⟨⟨_, (U6.2.trans (hb7.mono U6.2.size)).alloc (Nat.le_trans U6.2.size hb7.size) _⟩, rfl⟩
                  have LP7 := Lib.hid (show Lies U7.1 g7 29 #[.int .i64 p1k, .bool false, .int .i64 p1l, .int .i64 p1a, .int .i64 p1n.kind, .int .i64 p1n.level, .int .i64 p1n.n, .string p1n.name, .slice none 0 0, .slice C7 p1n.to.length (capN p1n.to.length c7)] by rw [hU7, hg7]; exact Lies.new _ _ _)
                  have HP7 := Lib.hid (show PlOk U7.1 AnyB ⟨p1k, false, p1l, p1a, p1n⟩ C7 by rw [hU7]; exact (hP7.below ((Below.refl _ _).alloc (Nat.le_refl _) _) (Nat.le_refl _)).keep (keep_wide fun _ _ _ => trivial))
                  rw [← hU7, ← hg7]
                  have HC6 := Lib.hid (show Below U6.1.heap.size U6.1 U7.1 by rw [hU7]; exact hb7.alloc hb7.size _)
                  clear hU7 hg7 hP7 hb7 w7
                  have lp6 := LP6.out.below HC6.out LP6.out.lt
                  have lp7 := LP7.out
                  have hp6 := HP6.out.below HC6.out (Nat.le_refl _)
                  have hp7 := HP7.out
                  obtain ⟨p0, p1, p2, p3, p4, p5, p6, p7, p8, p9⟩ := ten_cells lp6
                  obtain ⟨q0, q1, q2, q3, q4, q5, q6, q7, q8, q9⟩ := ten_cells lp7
                  have HL6 := Lib.hid lp6
                  have HL7 := Lib.hid lp7
                  have HQ6 := Lib.hid hp6
                  have HQ7 := Lib.hid hp7
                  clear lp6 lp7 hp6 hp7 LP6 LP7 HP6 HP7 HC6 V1 V2 V3 V4 V5 HS1 HS2 HT1 HT2 HO1 HO2 HFX
                  have pz : ∀ o, (U7.1.alloc o).cell? ⟨g6, 1, none⟩ = some (.bool true) := fun o => (((Below.refl _ U7.1).alloc (Nat.le_refl _) o).cell (p := ⟨g6, 1, none⟩) (ncell_lt p1)).trans p1
                  go_upto_region 13 with fail
                  obtain ⟨g9, hg9⟩ : ∃ g, g = U7.1.heap.size := ⟨_, rfl⟩
                  obtain ⟨U9, hU9⟩ : ∃ V : Abv W, V.1 = U7.1.alloc (.cells #[.int .i64 p1k, .bool true, .int .i64 p1l, .int .i64 p1a, .int .i64 p1n.kind, .int .i64 p1n.level, .int .i64 p1n.n, .string p1n.name, .slice none 0 0, .slice C7 p1n.to.length (capN p1n.to.length c7)] 29) := ⟨⟨_, U7.2.alloc U7.2.size _⟩, rfl⟩
                  have lp9 : Lies U9.1 g9 29 #[.int .i64 p1k, .bool true, .int .i64 p1l, .int .i64 p1a, .int .i64 p1n.kind, .int .i64 p1n.level, .int .i64 p1n.n, .string p1n.name, .slice none 0 0, .slice C7 p1n.to.length (capN p1n.to.length c7)] := by rw [hU9, hg9]; exact Lies.new _ _ _
                  obtain ⟨r0, r1, r2, r3, r4, r5, r6, r7, r8, r9⟩ := ten_cells lp9
                  have HC7 := Lib.hid (show Below U7.1.heap.size U7.1 U9.1 by rw [hU9]; exact (Below.refl _ _).alloc (Nat.le_refl _) _)
                  rw [← hU9, ← hg9]
                  clear hU9 hg9 lp9 pz
                  replace p0 := (HC7.out.cell (p := ⟨g6, 0, none⟩) (ncell_lt p0)).trans p0
                  replace p1 := (HC7.out.cell (p := ⟨g6, 1, none⟩) (ncell_lt p1)).trans p1
                  replace p2 := (HC7.out.cell (p := ⟨g6, 2, none⟩) (ncell_lt p2)).trans p2
                  replace p3 := (HC7.out.cell (p := ⟨g6, 3, none⟩) (ncell_lt p3)).trans p3
                  replace p4 := (HC7.out.cell (p := ⟨g6, 4, none⟩) (ncell_lt p4)).trans p4
                  replace p5 := (HC7.out.cell (p := ⟨g6, 5, none⟩) (ncell_lt p5)).trans p5
                  replace p6 := (HC7.out.cell (p := ⟨g6, 6, none⟩) (ncell_lt p6)).trans p6
                  replace p7 := (HC7.out.cell (p := ⟨g6, 7, none⟩) (ncell_lt p7)).trans p7
                  replace p8 := (HC7.out.cell (p := ⟨g6, 8, none⟩) (ncell_lt p8)).trans p8
                  replace p9 := (HC7.out.cell (p := ⟨g6, 9, none⟩) (ncell_lt p9)).trans p9
                  replace q0 := (HC7.out.cell (p := ⟨g7, 0, none⟩) (ncell_lt q0)).trans q0
                  replace q1 := (HC7.out.cell (p := ⟨g7, 1, none⟩) (ncell_lt q1)).trans q1
                  replace q2 := (HC7.out.cell (p := ⟨g7, 2, none⟩) (ncell_lt q2)).trans q2
                  replace q3 := (HC7.out.cell (p := ⟨g7, 3, none⟩) (ncell_lt q3)).trans q3
                  replace q4 := (HC7.out.cell (p := ⟨g7, 4, none⟩) (ncell_lt q4)).trans q4
                  replace q5 := (HC7.out.cell (p := ⟨g7, 5, none⟩) (ncell_lt q5)).trans q5
                  replace q6 := (HC7.out.cell (p := ⟨g7, 6, none⟩) (ncell_lt q6)).trans q6
                  replace q7 := (HC7.out.cell (p := ⟨g7, 7, none⟩) (ncell_lt q7)).trans q7
                  replace q8 := (HC7.out.cell (p := ⟨g7, 8, none⟩) (ncell_lt q8)).trans q8
                  replace q9 := (HC7.out.cell (p := ⟨g7, 9, none⟩) (ncell_lt q9)).trans q9
                  replace HQ6 := Lib.hid (HQ6.out.below HC7.out (Nat.le_refl _))
                  replace HQ7 := Lib.hid (HQ7.out.below HC7.out (Nat.le_refl _))
                  clear HC7
                  obtain ⟨W2, hW2⟩ : ∃ W2, W2 = U9.1 := ⟨_, rfl⟩
                  have HB2 := Lib.hid (show Below w.heap.size w W2 by rw [hW2]; exact HB.out.trans (U9.2.mono HB.out.size))
                  have HBW := Lib.hid (show Below W.heap.size W W2 by rw [hW2]; exact U9.2)
                  replace x0 := x0 U9
                  replace x1 := x1 U9
                  replace x2 := x2 U9
                  replace x3 := x3 U9
                  replace x4 := x4 U9
                  replace x5 := x5 U9
                  replace y0 := y0 U9
                  replace y1 := y1 U9
                  replace y2 := y2 U9
                  replace y3 := y3 U9
                  replace y4 := y4 U9
                  replace y5 := y5 U9
                  rw [← hW2] at x0 x1 x2 x3 x4 x5 y0 y1 y2 y3 y4 y5 p0 p1 p2 p3 p4 p5 p6 p7 p8 p9 q0 q1 q2 q3 q4 q5 q6 q7 q8 q9 r0 r1 r2 r3 r4 r5 r6 r7 r8 r9 HQ6 HQ7 ⊢
                  clear hW2
                  replace x0 := Abv.cell x0
                  replace x1 := Abv.cell x1
                  replace x2 := Abv.cell x2
                  replace x3 := Abv.cell x3
                  replace x4 := Abv.cell x4
                  replace x5 := Abv.cell x5
                  replace y0 := Abv.cell y0
                  replace y1 := Abv.cell y1
                  replace y2 := Abv.cell y2
                  replace y3 := Abv.cell y3
                  replace y4 := Abv.cell y4
                  replace y5 := Abv.cell y5
                  replace p0 := Abv.cell p0
                  replace p1 := Abv.cell p1
                  replace p2 := Abv.cell p2
                  replace p3 := Abv.cell p3
                  replace p4 := Abv.cell p4
                  replace p5 := Abv.cell p5
                  replace p6 := Abv.cell p6
                  replace p7 := Abv.cell p7
                  replace p8 := Abv.cell p8
                  replace p9 := Abv.cell p9
                  replace q0 := Abv.cell q0
                  replace q1 := Abv.cell q1
                  replace q2 := Abv.cell q2
                  replace q3 := Abv.cell q3
                  replace q4 := Abv.cell q4
                  replace q5 := Abv.cell q5
                  replace q6 := Abv.cell q6
                  replace q7 := Abv.cell q7
                  replace q8 := Abv.cell q8
                  replace q9 := Abv.cell q9
                  replace r0 := Abv.cell r0
                  replace r1 := Abv.cell r1
                  replace r2 := Abv.cell r2
                  replace r3 := Abv.cell r3
                  replace r4 := Abv.cell r4
                  replace r5 := Abv.cell r5
                  replace r6 := Abv.cell r6
                  replace r7 := Abv.cell r7
                  replace r8 := Abv.cell r8
                  replace r9 := Abv.cell r9
                  have HSM : Hid (∀ V : Abv W2, Calls Try.prog 12 #[.agg #[.int .i64 p1k, .bool true, .int .i64 p1l, .int .i64 p1a, .int .i64 p1n.kind, .int .i64 p1n.level, .int .i64 p1n.n, .string p1n.name, .slice none 0 0, .slice C6 p1n.to.length (capN p1n.to.length c6)], .agg #[.int .i64 p1k, .bool true, .int .i64 p1l, .int .i64 p1a, .int .i64 p1n.kind, .int .i64 p1n.level, .int .i64 p1n.n, .string p1n.name, .slice none 0 0, .slice C7 p1n.to.length (capN p1n.to.length c7)]] V.1 fun e w' => e = .returned (.bool true) ∧ ∃ V' : Abv W2, w' = V'.1) := Lib.hid fun V => calm_same' (p := ⟨p1k, true, p1l, p1a, p1n⟩) (C := C6) (C' := C7) (c := c6) (c' := c7) HQ6.out HQ7.out V
                  have HNA : Hid (∀ V : Abv W2, Calls Try.prog 13 #[.agg #[.int .i64 p1k, .bool true, .int .i64 p1l, .int .i64 p1a, .int .i64 p1n.kind, .int .i64 p1n.level, .int .i64 p1n.n, .string p1n.name, .slice none 0 0, .slice C6 p1n.to.length (capN p1n.to.length c6)], .agg #[.int .i64 x.kind, .int .i64 x.level, .int .i64 x.n, .string x.name, .slice Bx x.alts.length (capN x.alts.length bx), .slice Cx x.to.length (capN x.to.length cx)], .agg #[.int .i64 y.kind, .int .i64 y.level, .int .i64 y.n, .string y.name, .slice By y.alts.length (capN y.alts.length by_), .slice Cy y.to.length (capN y.to.length cy)]] V.1 fun e w' => e = .returned (.int .i64 N1) ∧ ∃ V' : Abv W2, w' = V'.1) := Lib.hid fun V => by
                    rw [HN1.out]
                    exact calm_need (p := ⟨p1k, true, p1l, p1a, p1n⟩) (C := C6) (c := c6) (HIW.out.below HBW.out (Nat.le_refl _)) (HJW.out.below HBW.out (Nat.le_refl _)) V
                  have HNB : Hid (∀ V : Abv W2, Calls Try.prog 13 #[.agg #[.int .i64 p1k, .bool false, .int .i64 p1l, .int .i64 p1a, .int .i64 p1n.kind, .int .i64 p1n.level, .int .i64 p1n.n, .string p1n.name, .slice none 0 0, .slice C7 p1n.to.length (capN p1n.to.length c7)], .agg #[.int .i64 y.kind, .int .i64 y.level, .int .i64 y.n, .string y.name, .slice By y.alts.length (capN y.alts.length by_), .slice Cy y.to.length (capN y.to.length cy)], .agg #[.int .i64 x.kind, .int .i64 x.level, .int .i64 x.n, .string x.name, .slice Bx x.alts.length (capN x.alts.length bx), .slice Cx x.to.length (capN x.to.length cx)]] V.1 fun e w' => e = .returned (.int .i64 N1) ∧ ∃ V' : Abv W2, w' = V'.1) := Lib.hid fun V => by
                    rw [HN2.out]
                    exact calm_need (p := ⟨p1k, false, p1l, p1a, p1n⟩) (C := C7) (c := c7) (HJW.out.below HBW.out (Nat.le_refl _)) (HIW.out.below HBW.out (Nat.le_refl _)) V
                  obtain ⟨V0, hV0⟩ := calm_in W2
                  rw [← hV0]
                  clear hV0
                  refine region_calm_in (by kernel_rfl) (by kernel_rfl) ?_
                  go_big_quiet_step (fail)
                  go_big_quiet_step (fail)
                  go_big_quiet_step (fail)
                  go_big_quiet_step (fail)
                  go_big_quiet_step (fail)
                  go_big_quiet_step (fail)
                  go_big_quiet_step (fail)
                  go_big_quiet_step (fail)
                  go_big_quiet_step (exact HSM.out _)
                  go_big_quiet_step (fail)
                  go_big_quiet_step (fail)
                  go_big_quiet_step (fail)
                  go_big_quiet_step (fail)
                  go_big_quiet_step (fail)
                  go_big_quiet_step (exact HNA.out _)
                  go_big_quiet_step (fail)
                  go_big_quiet_step (fail)
                  go_big_quiet_step (fail)
                  go_big_quiet_step (exact HNB.out _)
                  go_big_quiet_step (fail)
                  go_big_quiet_step (fail)
                  go_big_quiet_step (fail)
                  refine wpQuiet_nil ?_
                  rintro _ ⟨V9, rfl⟩
                  go_wp2_with fail
                  go_ret
                  exact ⟨rfl, HB2.out.trans (V9.2.mono HB2.out.size)⟩
                | false =>
                  simp only [Bool.not_false] at HO2 HN2
                  go_enter Try.func3, Try.ntmps3
                  go_upto_region 1 with fail
                  rw [← hW]
                  clear hW
                  obtain ⟨V0, hV0⟩ := calm_in W
                  rw [← hV0]
                  clear hV0
                  go_wp2_with fail
                  refine (HFX.out _).mono ?_
                  rintro e _ ⟨rfl, V1, rfl⟩
                  go_wp2_with fail
                  refine (HS1.out _).mono ?_
                  rintro e _ ⟨rfl, V2, rfl⟩
                  go_wp2_with fail
                  refine (HS2.out _).mono ?_
                  rintro e _ ⟨rfl, V3, rfl⟩
                  go_wp2_with fail
                  refine (HT1.out _).mono ?_
                  rintro e _ ⟨rfl, V4, rfl⟩
                  go_wp2_with fail
                  refine (HT2.out _).mono ?_
                  rintro e _ ⟨rfl, V5, rfl⟩
                  go_wp2_with fail
                  refine (HO1.out V5).mono ?_
                  rintro e w6 ⟨C6, c6, rfl, hP6, hb6⟩
                  simp only [plv]
                  go_upto_region 4 with fail
                  obtain ⟨g6, hg6⟩ : ∃ g, g = w6.heap.size := ⟨_, rfl⟩
                  obtain ⟨U6, hU6⟩ : ∃ V : Abv W, V.1 = w6.alloc (.cells #[.int .i64 p1k, .bool false, .int .i64 p1l, .int .i64 p1a, .int .i64 p1n.kind, .int .i64 p1n.level, .int .i64 p1n.n, .string p1n.name, .slice none 0 0, .slice C6 p1n.to.length (capN p1n.to.length c6)] 29) := ⟨⟨_, (V5.2.trans (hb6.mono V5.2.size)).alloc (Nat.le_trans V5.2.size hb6.size) _⟩, rfl⟩
                  have LP6 := Lib.hid (show Lies U6.1 g6 29 #[.int .i64 p1k, .bool false, .int .i64 p1l, .int .i64 p1a, .int .i64 p1n.kind, .int .i64 p1n.level, .int .i64 p1n.n, .string p1n.name, .slice none 0 0, .slice C6 p1n.to.length (capN p1n.to.length c6)] by rw [hU6, hg6]; exact Lies.new _ _ _)
                  have HP6 := Lib.hid (show PlOk U6.1 AnyB ⟨p1k, false, p1l, p1a, p1n⟩ C6 by rw [hU6]; exact (hP6.below ((Below.refl _ _).alloc (Nat.le_refl _) _) (Nat.le_refl _)).keep (keep_wide fun _ _ _ => trivial))
                  rw [← hU6, ← hg6]
                  clear hU6 hg6 hP6 hb6 w6
                  go_wp2_with fail
                  refine (HO2.out U6).mono ?_
                  rintro e w7 ⟨C7, c7, rfl, hP7, hb7⟩
                  simp only [plv]
                  go_upto_region 5 with fail
                  obtain ⟨g7, hg7⟩ : ∃ g, g = w7.heap.size := ⟨_, rfl⟩
                  obtain ⟨U7, hU7⟩ : ∃ V : Abv W, V.1 = w7.alloc (.cells #[.int .i64 p1k, .bool true, .int .i64 p1l, .int .i64 p1a, .int .i64 p1n.kind, .int .i64 p1n.level, .int .i64 p1n.n, .string p1n.name, .slice none 0 0, .slice C7 p1n.to.length (capN p1n.to.length c7)] 29) := ⟨⟨_, (U6.2.trans (hb7.mono U6.2.size)).alloc (Nat.le_trans U6.2.size hb7.size) _⟩, rfl⟩
                  have LP7 := Lib.hid (show Lies U7.1 g7 29 #[.int .i64 p1k, .bool true, .int .i64 p1l, .int .i64 p1a, .int .i64 p1n.kind, .int .i64 p1n.level, .int .i64 p1n.n, .string p1n.name, .slice none 0 0, .slice C7 p1n.to.length (capN p1n.to.length c7)] by rw [hU7, hg7]; exact Lies.new _ _ _)
                  have HP7 := Lib.hid (show PlOk U7.1 AnyB ⟨p1k, true, p1l, p1a, p1n⟩ C7 by rw [hU7]; exact (hP7.below ((Below.refl _ _).alloc (Nat.le_refl _) _) (Nat.le_refl _)).keep (keep_wide fun _ _ _ => trivial))
                  rw [← hU7, ← hg7]
                  have HC6 := Lib.hid (show Below U6.1.heap.size U6.1 U7.1 by rw [hU7]; exact hb7.alloc hb7.size _)
                  clear hU7 hg7 hP7 hb7 w7
                  have lp6 := LP6.out.below HC6.out LP6.out.lt
                  have lp7 := LP7.out
                  have hp6 := HP6.out.below HC6.out (Nat.le_refl _)
                  have hp7 := HP7.out
                  obtain ⟨p0, p1, p2, p3, p4, p5, p6, p7, p8, p9⟩ := ten_cells lp6
                  obtain ⟨q0, q1, q2, q3, q4, q5, q6, q7, q8, q9⟩ := ten_cells lp7
                  have HL6 := Lib.hid lp6
                  have HL7 := Lib.hid lp7
                  have HQ6 := Lib.hid hp6
                  have HQ7 := Lib.hid hp7
                  clear lp6 lp7 hp6 hp7 LP6 LP7 HP6 HP7 HC6 V1 V2 V3 V4 V5 HS1 HS2 HT1 HT2 HO1 HO2 HFX
                  have pz : ∀ o, (U7.1.alloc o).cell? ⟨g6, 1, none⟩ = some (.bool false) := fun o => (((Below.refl _ U7.1).alloc (Nat.le_refl _) o).cell (p := ⟨g6, 1, none⟩) (ncell_lt p1)).trans p1
                  go_upto_region 13 with fail
                  obtain ⟨g9, hg9⟩ : ∃ g, g = U7.1.heap.size := ⟨_, rfl⟩
                  obtain ⟨U9, hU9⟩ : ∃ V : Abv W, V.1 = U7.1.alloc (.cells #[.int .i64 p1k, .bool false, .int .i64 p1l, .int .i64 p1a, .int .i64 p1n.kind, .int .i64 p1n.level, .int .i64 p1n.n, .string p1n.name, .slice none 0 0, .slice C7 p1n.to.length (capN p1n.to.length c7)] 29) := ⟨⟨_, U7.2.alloc U7.2.size _⟩, rfl⟩
                  have lp9 : Lies U9.1 g9 29 #[.int .i64 p1k, .bool false, .int .i64 p1l, .int .i64 p1a, .int .i64 p1n.kind, .int .i64 p1n.level, .int .i64 p1n.n, .string p1n.name, .slice none 0 0, .slice C7 p1n.to.length (capN p1n.to.length c7)] := by rw [hU9, hg9]; exact Lies.new _ _ _
                  obtain ⟨r0, r1, r2, r3, r4, r5, r6, r7, r8, r9⟩ := ten_cells lp9
                  have HC7 := Lib.hid (show Below U7.1.heap.size U7.1 U9.1 by rw [hU9]; exact (Below.refl _ _).alloc (Nat.le_refl _) _)
                  rw [← hU9, ← hg9]
                  clear hU9 hg9 lp9 pz
                  replace p0 := (HC7.out.cell (p := ⟨g6, 0, none⟩) (ncell_lt p0)).trans p0
                  replace p1 := (HC7.out.cell (p := ⟨g6, 1, none⟩) (ncell_lt p1)).trans p1
                  replace p2 := (HC7.out.cell (p := ⟨g6, 2, none⟩) (ncell_lt p2)).trans p2
                  replace p3 := (HC7.out.cell (p := ⟨g6, 3, none⟩) (ncell_lt p3)).trans p3
                  replace p4 := (HC7.out.cell (p := ⟨g6, 4, none⟩) (ncell_lt p4)).trans p4
                  replace p5 := (HC7.out.cell (p := ⟨g6, 5, none⟩) (ncell_lt p5)).trans p5
                  replace p6 := (HC7.out.cell (p := ⟨g6, 6, none⟩) (ncell_lt p6)).trans p6
                  replace p7 := (HC7.out.cell (p := ⟨g6, 7, none⟩) (ncell_lt p7)).trans p7
                  replace p8 := (HC7.out.cell (p := ⟨g6, 8, none⟩) (ncell_lt p8)).trans p8
                  replace p9 := (HC7.out.cell (p := ⟨g6, 9, none⟩) (ncell_lt p9)).trans p9
                  replace q0 := (HC7.out.cell (p := ⟨g7, 0, none⟩) (ncell_lt q0)).trans q0
                  replace q1 := (HC7.out.cell (p := ⟨g7, 1, none⟩) (ncell_lt q1)).trans q1
                  replace q2 := (HC7.out.cell (p := ⟨g7, 2, none⟩) (ncell_lt q2)).trans q2
                  replace q3 := (HC7.out.cell (p := ⟨g7, 3, none⟩) (ncell_lt q3)).trans q3
                  replace q4 := (HC7.out.cell (p := ⟨g7, 4, none⟩) (ncell_lt q4)).trans q4
                  replace q5 := (HC7.out.cell (p := ⟨g7, 5, none⟩) (ncell_lt q5)).trans q5
                  replace q6 := (HC7.out.cell (p := ⟨g7, 6, none⟩) (ncell_lt q6)).trans q6
                  replace q7 := (HC7.out.cell (p := ⟨g7, 7, none⟩) (ncell_lt q7)).trans q7
                  replace q8 := (HC7.out.cell (p := ⟨g7, 8, none⟩) (ncell_lt q8)).trans q8
                  replace q9 := (HC7.out.cell (p := ⟨g7, 9, none⟩) (ncell_lt q9)).trans q9
                  replace HQ6 := Lib.hid (HQ6.out.below HC7.out (Nat.le_refl _))
                  replace HQ7 := Lib.hid (HQ7.out.below HC7.out (Nat.le_refl _))
                  clear HC7
                  obtain ⟨W2, hW2⟩ : ∃ W2, W2 = U9.1 := ⟨_, rfl⟩
                  have HB2 := Lib.hid (show Below w.heap.size w W2 by rw [hW2]; exact HB.out.trans (U9.2.mono HB.out.size))
                  have HBW := Lib.hid (show Below W.heap.size W W2 by rw [hW2]; exact U9.2)
                  replace x0 := x0 U9
                  replace x1 := x1 U9
                  replace x2 := x2 U9
                  replace x3 := x3 U9
                  replace x4 := x4 U9
                  replace x5 := x5 U9
                  replace y0 := y0 U9
                  replace y1 := y1 U9
                  replace y2 := y2 U9
                  replace y3 := y3 U9
                  replace y4 := y4 U9
                  replace y5 := y5 U9
                  rw [← hW2] at x0 x1 x2 x3 x4 x5 y0 y1 y2 y3 y4 y5 p0 p1 p2 p3 p4 p5 p6 p7 p8 p9 q0 q1 q2 q3 q4 q5 q6 q7 q8 q9 r0 r1 r2 r3 r4 r5 r6 r7 r8 r9 HQ6 HQ7 ⊢
                  clear hW2
                  replace x0 := Abv.cell x0
                  replace x1 := Abv.cell x1
                  replace x2 := Abv.cell x2
                  replace x3 := Abv.cell x3
                  replace x4 := Abv.cell x4
                  replace x5 := Abv.cell x5
                  replace y0 := Abv.cell y0
                  replace y1 := Abv.cell y1
                  replace y2 := Abv.cell y2
                  replace y3 := Abv.cell y3
                  replace y4 := Abv.cell y4
                  replace y5 := Abv.cell y5
                  replace p0 := Abv.cell p0
                  replace p1 := Abv.cell p1
                  replace p2 := Abv.cell p2
                  replace p3 := Abv.cell p3
                  replace p4 := Abv.cell p4
                  replace p5 := Abv.cell p5
                  replace p6 := Abv.cell p6
                  replace p7 := Abv.cell p7
                  replace p8 := Abv.cell p8
                  replace p9 := Abv.cell p9
                  replace q0 := Abv.cell q0
                  replace q1 := Abv.cell q1
                  replace q2 := Abv.cell q2
                  replace q3 := Abv.cell q3
                  replace q4 := Abv.cell q4
                  replace q5 := Abv.cell q5
                  replace q6 := Abv.cell q6
                  replace q7 := Abv.cell q7
                  replace q8 := Abv.cell q8
                  replace q9 := Abv.cell q9
                  replace r0 := Abv.cell r0
                  replace r1 := Abv.cell r1
                  replace r2 := Abv.cell r2
                  replace r3 := Abv.cell r3
                  replace r4 := Abv.cell r4
                  replace r5 := Abv.cell r5
                  replace r6 := Abv.cell r6
                  replace r7 := Abv.cell r7
                  replace r8 := Abv.cell r8
                  replace r9 := Abv.cell r9
                  have HSM : Hid (∀ V : Abv W2, Calls Try.prog 12 #[.agg #[.int .i64 p1k, .bool false, .int .i64 p1l, .int .i64 p1a, .int .i64 p1n.kind, .int .i64 p1n.level, .int .i64 p1n.n, .string p1n.name, .slice none 0 0, .slice C6 p1n.to.length (capN p1n.to.length c6)], .agg #[.int .i64 p1k, .bool false, .int .i64 p1l, .int .i64 p1a, .int .i64 p1n.kind, .int .i64 p1n.level, .int .i64 p1n.n, .string p1n.name, .slice none 0 0, .slice C7 p1n.to.length (capN p1n.to.length c7)]] V.1 fun e w' => e = .returned (.bool true) ∧ ∃ V' : Abv W2, w' = V'.1) := Lib.hid fun V => calm_same' (p := ⟨p1k, false, p1l, p1a, p1n⟩) (C := C6) (C' := C7) (c := c6) (c' := c7) HQ6.out HQ7.out V
                  have HNA : Hid (∀ V : Abv W2, Calls Try.prog 13 #[.agg #[.int .i64 p1k, .bool false, .int .i64 p1l, .int .i64 p1a, .int .i64 p1n.kind, .int .i64 p1n.level, .int .i64 p1n.n, .string p1n.name, .slice none 0 0, .slice C6 p1n.to.length (capN p1n.to.length c6)], .agg #[.int .i64 x.kind, .int .i64 x.level, .int .i64 x.n, .string x.name, .slice Bx x.alts.length (capN x.alts.length bx), .slice Cx x.to.length (capN x.to.length cx)], .agg #[.int .i64 y.kind, .int .i64 y.level, .int .i64 y.n, .string y.name, .slice By y.alts.length (capN y.alts.length by_), .slice Cy y.to.length (capN y.to.length cy)]] V.1 fun e w' => e = .returned (.int .i64 N1) ∧ ∃ V' : Abv W2, w' = V'.1) := Lib.hid fun V => by
                    rw [HN1.out]
                    exact calm_need (p := ⟨p1k, false, p1l, p1a, p1n⟩) (C := C6) (c := c6) (HIW.out.below HBW.out (Nat.le_refl _)) (HJW.out.below HBW.out (Nat.le_refl _)) V
                  have HNB : Hid (∀ V : Abv W2, Calls Try.prog 13 #[.agg #[.int .i64 p1k, .bool true, .int .i64 p1l, .int .i64 p1a, .int .i64 p1n.kind, .int .i64 p1n.level, .int .i64 p1n.n, .string p1n.name, .slice none 0 0, .slice C7 p1n.to.length (capN p1n.to.length c7)], .agg #[.int .i64 y.kind, .int .i64 y.level, .int .i64 y.n, .string y.name, .slice By y.alts.length (capN y.alts.length by_), .slice Cy y.to.length (capN y.to.length cy)], .agg #[.int .i64 x.kind, .int .i64 x.level, .int .i64 x.n, .string x.name, .slice Bx x.alts.length (capN x.alts.length bx), .slice Cx x.to.length (capN x.to.length cx)]] V.1 fun e w' => e = .returned (.int .i64 N1) ∧ ∃ V' : Abv W2, w' = V'.1) := Lib.hid fun V => by
                    rw [HN2.out]
                    exact calm_need (p := ⟨p1k, true, p1l, p1a, p1n⟩) (C := C7) (c := c7) (HJW.out.below HBW.out (Nat.le_refl _)) (HIW.out.below HBW.out (Nat.le_refl _)) V
                  obtain ⟨V0, hV0⟩ := calm_in W2
                  rw [← hV0]
                  clear hV0
                  refine region_calm_in (by kernel_rfl) (by kernel_rfl) ?_
                  go_big_quiet_step (fail)
                  go_big_quiet_step (fail)
                  go_big_quiet_step (fail)
                  go_big_quiet_step (fail)
                  go_big_quiet_step (fail)
                  go_big_quiet_step (fail)
                  go_big_quiet_step (fail)
                  go_big_quiet_step (fail)
                  go_big_quiet_step (exact HSM.out _)
                  go_big_quiet_step (fail)
                  go_big_quiet_step (fail)
                  go_big_quiet_step (fail)
                  go_big_quiet_step (fail)
                  go_big_quiet_step (fail)
                  go_big_quiet_step (exact HNA.out _)
                  go_big_quiet_step (fail)
                  go_big_quiet_step (fail)
                  go_big_quiet_step (fail)
                  go_big_quiet_step (exact HNB.out _)
                  go_big_quiet_step (fail)
                  go_big_quiet_step (fail)
                  go_big_quiet_step (fail)
                  refine wpQuiet_nil ?_
                  rintro _ ⟨V9, rfl⟩
                  go_wp2_with fail
                  go_ret
                  exact ⟨rfl, HB2.out.trans (V9.2.mono HB2.out.size)⟩
              | false =>
                clear hJ
                cases p1s with
                | true =>
                  simp only [Bool.not_true] at HO2 HN2
                  go_enter Try.func3, Try.ntmps3
                  go_upto_region 1 with fail
                  rw [← hW]
                  clear hW
                  obtain ⟨V0, hV0⟩ := calm_in W
                  rw [← hV0]
                  clear hV0
                  go_wp2_with fail
                  refine (HFX.out _).mono ?_
                  rintro e _ ⟨rfl, V1, rfl⟩
                  go_wp2_with fail
                  refine (HS1.out _).mono ?_
                  rintro e _ ⟨rfl, V2, rfl⟩
                  go_wp2_with fail
                  refine (HS2.out _).mono ?_
                  rintro e _ ⟨rfl, V3, rfl⟩
                  go_wp2_with fail
                  refine (HT1.out _).mono ?_
                  rintro e _ ⟨rfl, V4, rfl⟩
                  go_wp2_with fail
                  refine (HT2.out _).mono ?_
                  rintro e _ ⟨rfl, V5, rfl⟩
                  go_wp2_with fail
                  refine (HO1.out V5).mono ?_
                  rintro e w6 ⟨C6, c6, rfl, hP6, hb6⟩
                  simp only [plv]
                  go_upto_region 4 with fail
                  obtain ⟨g6, hg6⟩ : ∃ g, g = w6.heap.size := ⟨_, rfl⟩
                  obtain ⟨U6, hU6⟩ : ∃ V : Abv W, V.1 = w6.alloc (.cells #[.int .i64 p1k, .bool true, .int .i64 p1l, .int .i64 p1a, .int .i64 p1n.kind, .int .i64 p1n.level, .int .i64 p1n.n, .string p1n.name, .slice none 0 0, .slice C6 p1n.to.length (capN p1n.to.length c6)] 29) := ⟨⟨_, (V5.2.trans (hb6.mono V5.2.size)).alloc (Nat.le_trans V5.2.size hb6.size) _⟩, rfl⟩
                  have LP6 := Lib.hid (show Lies U6.1 g6 29 #[.int .i64 p1k, .bool true, .int .i64 p1l, .int .i64 p1a, .int .i64 p1n.kind, .int .i64 p1n.level, .int .i64 p1n.n, .string p1n.name, .slice none 0 0, .slice C6 p1n.to.length (capN p1n.to.length c6)] by rw [hU6, hg6]; exact Lies.new _ _ _)
                  have HP6 := Lib.hid (show PlOk U6.1 AnyB ⟨p1k, true, p1l, p1a, p1n⟩ C6 by rw [hU6]; exact (hP6.below ((Below.refl _ _).alloc (Nat.le_refl _) _) (Nat.le_refl _)).keep (keep_wide fun _ _ _ => trivial))
                  rw [← hU6, ← hg6]
                  clear hU6 hg6 hP6 hb6 w6
                  go_wp2_with fail
                  refine (HO2.out U6).mono ?_
                  rintro e w7 ⟨C7, c7, rfl, hP7, hb7⟩
                  simp only [plv]
                  go_upto_region 5 with fail
                  obtain ⟨g7, hg7⟩ : ∃ g, g = w7.heap.size := ⟨_, rfl⟩
                  obtain ⟨U7, hU7⟩ : ∃ V : Abv W, V.1 = w7.alloc (.cells #[.int .i64 p1k, .bool false, .int .i64 p1l, .int .i64 p1a, .int .i64 p1n.kind, .int .i64 p1n.level, .int .i64 p1n.n, .string p1n.name, .slice none 0 0, .slice C7 p1n.to.length (capN p1n.to.length c7)] 29) := ⟨⟨_, (U6.2.trans (hb7.mono U6.2.size)).alloc (Nat.le_trans U6.2.size hb7.size) _⟩, rfl⟩
                  have LP7 := Lib.hid (show Lies U7.1 g7 29 #[.int .i64 p1k, .bool false, .int .i64 p1l, .int .i64 p1a, .int .i64 p1n.kind, .int .i64 p1n.level, .int .i64 p1n.n, .string p1n.name, .slice none 0 0, .slice C7 p1n.to.length (capN p1n.to.length c7)] by rw [hU7, hg7]; exact Lies.new _ _ _)
                  have HP7 := Lib.hid (show PlOk U7.1 AnyB ⟨p1k, false, p1l, p1a, p1n⟩ C7 by rw [hU7]; exact (hP7.below ((Below.refl _ _).alloc (Nat.le_refl _) _) (Nat.le_refl _)).keep (keep_wide fun _ _ _ => trivial))
                  rw [← hU7, ← hg7]
                  have HC6 := Lib.hid (show Below U6.1.heap.size U6.1 U7.1 by rw [hU7]; exact hb7.alloc hb7.size _)
                  clear hU7 hg7 hP7 hb7 w7
                  have lp6 := LP6.out.below HC6.out LP6.out.lt
                  have lp7 := LP7.out
                  have hp6 := HP6.out.below HC6.out (Nat.le_refl _)
                  have hp7 := HP7.out
                  obtain ⟨p0, p1, p2, p3, p4, p5, p6, p7, p8, p9⟩ := ten_cells lp6
                  obtain ⟨q0, q1, q2, q3, q4, q5, q6, q7, q8, q9⟩ := ten_cells lp7
                  have HL6 := Lib.hid lp6
                  have HL7 := Lib.hid lp7
                  have HQ6 := Lib.hid hp6
                  have HQ7 := Lib.hid hp7
                  clear lp6 lp7 hp6 hp7 LP6 LP7 HP6 HP7 HC6 V1 V2 V3 V4 V5 HS1 HS2 HT1 HT2 HO1 HO2 HFX
                  have pz : ∀ o, (U7.1.alloc o).cell? ⟨g6, 1, none⟩ = some (.bool true) := fun o => (((Below.refl _ U7.1).alloc (Nat.le_refl _) o).cell (p := ⟨g6, 1, none⟩) (ncell_lt p1)).trans p1
                  go_upto_region 13 with fail
                  obtain ⟨g9, hg9⟩ : ∃ g, g = U7.1.heap.size := ⟨_, rfl⟩
                  obtain ⟨U9, hU9⟩ : ∃ V : Abv W, V.1 = U7.1.alloc (.cells #[.int .i64 p1k, .bool true, .int .i64 p1l, .int .i64 p1a, .int .i64 p1n.kind, .int .i64 p1n.level, .int .i64 p1n.n, .string p1n.name, .slice none 0 0, .slice C7 p1n.to.length (capN p1n.to.length c7)] 29) := ⟨⟨_, U7.2.alloc U7.2.size _⟩, rfl⟩
                  have lp9 : Lies U9.1 g9 29 #[.int .i64 p1k, .bool true, .int .i64 p1l, .int .i64 p1a, .int .i64 p1n.kind, .int .i64 p1n.level, .int .i64 p1n.n, .string p1n.name, .slice none 0 0, .slice C7 p1n.to.length (capN p1n.to.length c7)] := by rw [hU9, hg9]; exact Lies.new _ _ _
                  obtain ⟨r0, r1, r2, r3, r4, r5, r6, r7, r8, r9⟩ := ten_cells lp9
                  have HC7 := Lib.hid (show Below U7.1.heap.size U7.1 U9.1 by rw [hU9]; exact (Below.refl _ _).alloc (Nat.le_refl _) _)
                  rw [← hU9, ← hg9]
                  clear hU9 hg9 lp9 pz
                  replace p0 := (HC7.out.cell (p := ⟨g6, 0, none⟩) (ncell_lt p0)).trans p0
                  replace p1 := (HC7.out.cell (p := ⟨g6, 1, none⟩) (ncell_lt p1)).trans p1
                  replace p2 := (HC7.out.cell (p := ⟨g6, 2, none⟩) (ncell_lt p2)).trans p2
                  replace p3 := (HC7.out.cell (p := ⟨g6, 3, none⟩) (ncell_lt p3)).trans p3
                  replace p4 := (HC7.out.cell (p := ⟨g6, 4, none⟩) (ncell_lt p4)).trans p4
                  replace p5 := (HC7.out.cell (p := ⟨g6, 5, none⟩) (ncell_lt p5)).trans p5
                  replace p6 := (HC7.out.cell (p := ⟨g6, 6, none⟩) (ncell_lt p6)).trans p6
                  replace p7 := (HC7.out.cell (p := ⟨g6, 7, none⟩) (ncell_lt p7)).trans p7
                  replace p8 := (HC7.out.cell (p := ⟨g6, 8, none⟩) (ncell_lt p8)).trans p8
                  replace p9 := (HC7.out.cell (p := ⟨g6, 9, none⟩) (ncell_lt p9)).trans p9
                  replace q0 := (HC7.out.cell (p := ⟨g7, 0, none⟩) (ncell_lt q0)).trans q0
                  replace q1 := (HC7.out.cell (p := ⟨g7, 1, none⟩) (ncell_lt q1)).trans q1
                  replace q2 := (HC7.out.cell (p := ⟨g7, 2, none⟩) (ncell_lt q2)).trans q2
                  replace q3 := (HC7.out.cell (p := ⟨g7, 3, none⟩) (ncell_lt q3)).trans q3
                  replace q4 := (HC7.out.cell (p := ⟨g7, 4, none⟩) (ncell_lt q4)).trans q4
                  replace q5 := (HC7.out.cell (p := ⟨g7, 5, none⟩) (ncell_lt q5)).trans q5
                  replace q6 := (HC7.out.cell (p := ⟨g7, 6, none⟩) (ncell_lt q6)).trans q6
                  replace q7 := (HC7.out.cell (p := ⟨g7, 7, none⟩) (ncell_lt q7)).trans q7
                  replace q8 := (HC7.out.cell (p := ⟨g7, 8, none⟩) (ncell_lt q8)).trans q8
                  replace q9 := (HC7.out.cell (p := ⟨g7, 9, none⟩) (ncell_lt q9)).trans q9
                  replace HQ6 := Lib.hid (HQ6.out.below HC7.out (Nat.le_refl _))
                  replace HQ7 := Lib.hid (HQ7.out.below HC7.out (Nat.le_refl _))
                  clear HC7
                  obtain ⟨W2, hW2⟩ : ∃ W2, W2 = U9.1 := ⟨_, rfl⟩
                  have HB2 := Lib.hid (show Below w.heap.size w W2 by rw [hW2]; exact HB.out.trans (U9.2.mono HB.out.size))
                  have HBW := Lib.hid (show Below W.heap.size W W2 by rw [hW2]; exact U9.2)
                  replace x0 := x0 U9
                  replace x1 := x1 U9
                  replace x2 := x2 U9
                  replace x3 := x3 U9
                  replace x4 := x4 U9
                  replace x5 := x5 U9
                  replace y0 := y0 U9
                  replace y1 := y1 U9
                  replace y2 := y2 U9
                  replace y3 := y3 U9
                  replace y4 := y4 U9
                  replace y5 := y5 U9
                  rw [← hW2] at x0 x1 x2 x3 x4 x5 y0 y1 y2 y3 y4 y5 p0 p1 p2 p3 p4 p5 p6 p7 p8 p9 q0 q1 q2 q3 q4 q5 q6 q7 q8 q9 r0 r1 r2 r3 r4 r5 r6 r7 r8 r9 HQ6 HQ7 ⊢
                  clear hW2
                  replace x0 := Abv.cell x0
                  replace x1 := Abv.cell x1
                  replace x2 := Abv.cell x2
                  replace x3 := Abv.cell x3
                  replace x4 := Abv.cell x4
                  replace x5 := Abv.cell x5
                  replace y0 := Abv.cell y0
                  replace y1 := Abv.cell y1
                  replace y2 := Abv.cell y2
                  replace y3 := Abv.cell y3
                  replace y4 := Abv.cell y4
                  replace y5 := Abv.cell y5
                  replace p0 := Abv.cell p0
                  replace p1 := Abv.cell p1
                  replace p2 := Abv.cell p2
                  replace p3 := Abv.cell p3
                  replace p4 := Abv.cell p4
                  replace p5 := Abv.cell p5
                  replace p6 := Abv.cell p6
                  replace p7 := Abv.cell p7
                  replace p8 := Abv.cell p8
                  replace p9 := Abv.cell p9
                  replace q0 := Abv.cell q0
                  replace q1 := Abv.cell q1
                  replace q2 := Abv.cell q2
                  replace q3 := Abv.cell q3
                  replace q4 := Abv.cell q4
                  replace q5 := Abv.cell q5
                  replace q6 := Abv.cell q6
                  replace q7 := Abv.cell q7
                  replace q8 := Abv.cell q8
                  replace q9 := Abv.cell q9
                  replace r0 := Abv.cell r0
                  replace r1 := Abv.cell r1
                  replace r2 := Abv.cell r2
                  replace r3 := Abv.cell r3
                  replace r4 := Abv.cell r4
                  replace r5 := Abv.cell r5
                  replace r6 := Abv.cell r6
                  replace r7 := Abv.cell r7
                  replace r8 := Abv.cell r8
                  replace r9 := Abv.cell r9
                  have HSM : Hid (∀ V : Abv W2, Calls Try.prog 12 #[.agg #[.int .i64 p1k, .bool true, .int .i64 p1l, .int .i64 p1a, .int .i64 p1n.kind, .int .i64 p1n.level, .int .i64 p1n.n, .string p1n.name, .slice none 0 0, .slice C6 p1n.to.length (capN p1n.to.length c6)], .agg #[.int .i64 p1k, .bool true, .int .i64 p1l, .int .i64 p1a, .int .i64 p1n.kind, .int .i64 p1n.level, .int .i64 p1n.n, .string p1n.name, .slice none 0 0, .slice C7 p1n.to.length (capN p1n.to.length c7)]] V.1 fun e w' => e = .returned (.bool true) ∧ ∃ V' : Abv W2, w' = V'.1) := Lib.hid fun V => calm_same' (p := ⟨p1k, true, p1l, p1a, p1n⟩) (C := C6) (C' := C7) (c := c6) (c' := c7) HQ6.out HQ7.out V
                  have HNA : Hid (∀ V : Abv W2, Calls Try.prog 13 #[.agg #[.int .i64 p1k, .bool true, .int .i64 p1l, .int .i64 p1a, .int .i64 p1n.kind, .int .i64 p1n.level, .int .i64 p1n.n, .string p1n.name, .slice none 0 0, .slice C6 p1n.to.length (capN p1n.to.length c6)], .agg #[.int .i64 x.kind, .int .i64 x.level, .int .i64 x.n, .string x.name, .slice Bx x.alts.length (capN x.alts.length bx), .slice Cx x.to.length (capN x.to.length cx)], .agg #[.int .i64 y.kind, .int .i64 y.level, .int .i64 y.n, .string y.name, .slice By y.alts.length (capN y.alts.length by_), .slice Cy y.to.length (capN y.to.length cy)]] V.1 fun e w' => e = .returned (.int .i64 N1) ∧ ∃ V' : Abv W2, w' = V'.1) := Lib.hid fun V => by
                    rw [HN1.out]
                    exact calm_need (p := ⟨p1k, true, p1l, p1a, p1n⟩) (C := C6) (c := c6) (HIW.out.below HBW.out (Nat.le_refl _)) (HJW.out.below HBW.out (Nat.le_refl _)) V
                  have HNB : Hid (∀ V : Abv W2, Calls Try.prog 13 #[.agg #[.int .i64 p1k, .bool false, .int .i64 p1l, .int .i64 p1a, .int .i64 p1n.kind, .int .i64 p1n.level, .int .i64 p1n.n, .string p1n.name, .slice none 0 0, .slice C7 p1n.to.length (capN p1n.to.length c7)], .agg #[.int .i64 y.kind, .int .i64 y.level, .int .i64 y.n, .string y.name, .slice By y.alts.length (capN y.alts.length by_), .slice Cy y.to.length (capN y.to.length cy)], .agg #[.int .i64 x.kind, .int .i64 x.level, .int .i64 x.n, .string x.name, .slice Bx x.alts.length (capN x.alts.length bx), .slice Cx x.to.length (capN x.to.length cx)]] V.1 fun e w' => e = .returned (.int .i64 N1) ∧ ∃ V' : Abv W2, w' = V'.1) := Lib.hid fun V => by
                    rw [HN2.out]
                    exact calm_need (p := ⟨p1k, false, p1l, p1a, p1n⟩) (C := C7) (c := c7) (HJW.out.below HBW.out (Nat.le_refl _)) (HIW.out.below HBW.out (Nat.le_refl _)) V
                  obtain ⟨V0, hV0⟩ := calm_in W2
                  rw [← hV0]
                  clear hV0
                  refine region_calm_in (by kernel_rfl) (by kernel_rfl) ?_
                  go_big_quiet_step (fail)
                  go_big_quiet_step (fail)
                  go_big_quiet_step (fail)
                  go_big_quiet_step (fail)
                  go_big_quiet_step (fail)
                  go_big_quiet_step (fail)
                  go_big_quiet_step (fail)
                  go_big_quiet_step (fail)
                  go_big_quiet_step (exact HSM.out _)
                  go_big_quiet_step (fail)
                  go_big_quiet_step (fail)
                  go_big_quiet_step (fail)
                  go_big_quiet_step (fail)
                  go_big_quiet_step (fail)
                  go_big_quiet_step (exact HNA.out _)
                  go_big_quiet_step (fail)
                  go_big_quiet_step (fail)
                  go_big_quiet_step (fail)
                  go_big_quiet_step (exact HNB.out _)
                  go_big_quiet_step (fail)
                  go_big_quiet_step (fail)
                  go_big_quiet_step (fail)
                  refine wpQuiet_nil ?_
                  rintro _ ⟨V9, rfl⟩
                  go_wp2_with fail
                  go_ret
                  exact ⟨rfl, HB2.out.trans (V9.2.mono HB2.out.size)⟩
                | false =>
                  simp only [Bool.not_false] at HO2 HN2
                  go_enter Try.func3, Try.ntmps3
                  go_upto_region 1 with fail
                  rw [← hW]
                  clear hW
                  obtain ⟨V0, hV0⟩ := calm_in W
                  rw [← hV0]
                  clear hV0
                  go_wp2_with fail
                  refine (HFX.out _).mono ?_
                  rintro e _ ⟨rfl, V1, rfl⟩
                  go_wp2_with fail
                  refine (HS1.out _).mono ?_
                  rintro e _ ⟨rfl, V2, rfl⟩
                  go_wp2_with fail
                  refine (HS2.out _).mono ?_
                  rintro e _ ⟨rfl, V3, rfl⟩
                  go_wp2_with fail
                  refine (HT1.out _).mono ?_
                  rintro e _ ⟨rfl, V4, rfl⟩
                  go_wp2_with fail
                  refine (HT2.out _).mono ?_
                  rintro e _ ⟨rfl, V5, rfl⟩
                  go_wp2_with fail
                  refine (HO1.out V5).mono ?_
                  rintro e w6 ⟨C6, c6, rfl, hP6, hb6⟩
                  simp only [plv]
                  go_upto_region 4 with fail
                  obtain ⟨g6, hg6⟩ : ∃ g, g = w6.heap.size := ⟨_, rfl⟩
                  obtain ⟨U6, hU6⟩ : ∃ V : Abv W, V.1 = w6.alloc (.cells #[.int .i64 p1k, .bool false, .int .i64 p1l, .int .i64 p1a, .int .i64 p1n.kind, .int .i64 p1n.level, .int .i64 p1n.n, .string p1n.name, .slice none 0 0, .slice C6 p1n.to.length (capN p1n.to.length c6)] 29) := ⟨⟨_, (V5.2.trans (hb6.mono V5.2.size)).alloc (Nat.le_trans V5.2.size hb6.size) _⟩, rfl⟩
                  have LP6 := Lib.hid (show Lies U6.1 g6 29 #[.int .i64 p1k, .bool false, .int .i64 p1l, .int .i64 p1a, .int .i64 p1n.kind, .int .i64 p1n.level, .int .i64 p1n.n, .string p1n.name, .slice none 0 0, .slice C6 p1n.to.length (capN p1n.to.length c6)] by rw [hU6, hg6]; exact Lies.new _ _ _)
                  have HP6 := Lib.hid (show PlOk U6.1 AnyB ⟨p1k, false, p1l, p1a, p1n⟩ C6 by rw [hU6]; exact (hP6.below ((Below.refl _ _).alloc (Nat.le_refl _) _) (Nat.le_refl _)).keep (keep_wide fun _ _ _ => trivial))
                  rw [← hU6, ← hg6]
                  clear hU6 hg6 hP6 hb6 w6
                  go_wp2_with fail
                  refine (HO2.out U6).mono ?_
                  rintro e w7 ⟨C7, c7, rfl, hP7, hb7⟩
                  simp only [plv]
                  go_upto_region 5 with fail
                  obtain ⟨g7, hg7⟩ : ∃ g, g = w7.heap.size := ⟨_, rfl⟩
                  obtain ⟨U7, hU7⟩ : ∃ V : Abv W, V.1 = w7.alloc (.cells #[.int .i64 p1k, .bool true, .int .i64 p1l, .int .i64 p1a, .int .i64 p1n.kind, .int .i64 p1n.level, .int .i64 p1n.n, .string p1n.name, .slice none 0 0, .slice C7 p1n.to.length (capN p1n.to.length c7)] 29) := ⟨⟨_, (U6.2.trans (hb7.mono U6.2.size)).alloc (Nat.le_trans U6.2.size hb7.size) _⟩, rfl⟩
                  have LP7 := Lib.hid (show Lies U7.1 g7 29 #[.int .i64 p1k, .bool true, .int .i64 p1l, .int .i64 p1a, .int .i64 p1n.kind, .int .i64 p1n.level, .int .i64 p1n.n, .string p1n.name, .slice none 0 0, .slice C7 p1n.to.length (capN p1n.to.length c7)] by rw [hU7, hg7]; exact Lies.new _ _ _)
                  have HP7 := Lib.hid (show PlOk U7.1 AnyB ⟨p1k, true, p1l, p1a, p1n⟩ C7 by rw [hU7]; exact (hP7.below ((Below.refl _ _).alloc (Nat.le_refl _) _) (Nat.le_refl _)).keep (keep_wide fun _ _ _ => trivial))
                  rw [← hU7, ← hg7]
                  have HC6 := Lib.hid (show Below U6.1.heap.size U6.1 U7.1 by rw [hU7]; exact hb7.alloc hb7.size _)
                  clear hU7 hg7 hP7 hb7 w7
                  have lp6 := LP6.out.below HC6.out LP6.out.lt
                  have lp7 := LP7.out
                  have hp6 := HP6.out.below HC6.out (Nat.le_refl _)
                  have hp7 := HP7.out
                  obtain ⟨p0, p1, p2, p3, p4, p5, p6, p7, p8, p9⟩ := ten_cells lp6
                  obtain ⟨q0, q1, q2, q3, q4, q5, q6, q7, q8, q9⟩ := ten_cells lp7
                  have HL6 := Lib.hid lp6
                  have HL7 := Lib.hid lp7
                  have HQ6 := Lib.hid hp6
                  have HQ7 := Lib.hid hp7
                  clear lp6 lp7 hp6 hp7 LP6 LP7 HP6 HP7 HC6 V1 V2 V3 V4 V5 HS1 HS2 HT1 HT2 HO1 HO2 HFX
                  have pz : ∀ o, (U7.1.alloc o).cell? ⟨g6, 1, none⟩ = some (.bool false) := fun o => (((Below.refl _ U7.1).alloc (Nat.le_refl _) o).cell (p := ⟨g6, 1, none⟩) (ncell_lt p1)).trans p1
                  go_upto_region 13 with fail
                  obtain ⟨g9, hg9⟩ : ∃ g, g = U7.1.heap.size := ⟨_, rfl⟩
                  obtain ⟨U9, hU9⟩ : ∃ V : Abv W, V.1 = U7.1.alloc (.cells #[.int .i64 p1k, .bool false, .int .i64 p1l, .int .i64 p1a, .int .i64 p1n.kind, .int .i64 p1n.level, .int .i64 p1n.n, .string p1n.name, .slice none 0 0, .slice C7 p1n.to.length (capN p1n.to.length c7)] 29) := ⟨⟨_, U7.2.alloc U7.2.size _⟩, rfl⟩
                  have lp9 : Lies U9.1 g9 29 #[.int .i64 p1k, .bool false, .int .i64 p1l, .int .i64 p1a, .int .i64 p1n.kind, .int .i64 p1n.level, .int .i64 p1n.n, .string p1n.name, .slice none 0 0, .slice C7 p1n.to.length (capN p1n.to.length c7)] := by rw [hU9, hg9]; exact Lies.new _ _ _
                  obtain ⟨r0, r1, r2, r3, r4, r5, r6, r7, r8, r9⟩ := ten_cells lp9
                  have HC7 := Lib.hid (show Below U7.1.heap.size U7.1 U9.1 by rw [hU9]; exact (Below.refl _ _).alloc (Nat.le_refl _) _)
                  rw [← hU9, ← hg9]
                  clear hU9 hg9 lp9 pz
                  replace p0 := (HC7.out.cell (p := ⟨g6, 0, none⟩) (ncell_lt p0)).trans p0
                  replace p1 := (HC7.out.cell (p := ⟨g6, 1, none⟩) (ncell_lt p1)).trans p1
                  replace p2 := (HC7.out.cell (p := ⟨g6, 2, none⟩) (ncell_lt p2)).trans p2
                  replace p3 := (HC7.out.cell (p := ⟨g6, 3, none⟩) (ncell_lt p3)).trans p3
                  replace p4 := (HC7.out.cell (p := ⟨g6, 4, none⟩) (ncell_lt p4)).trans p4
                  replace p5 := (HC7.out.cell (p := ⟨g6, 5, none⟩) (ncell_lt p5)).trans p5
                  replace p6 := (HC7.out.cell (p := ⟨g6, 6, none⟩) (ncell_lt p6)).trans p6
                  replace p7 := (HC7.out.cell (p := ⟨g6, 7, none⟩) (ncell_lt p7)).trans p7
                  replace p8 := (HC7.out.cell (p := ⟨g6, 8, none⟩) (ncell_lt p8)).trans p8
                  replace p9 := (HC7.out.cell (p := ⟨g6, 9, none⟩) (ncell_lt p9)).trans p9
                  replace q0 := (HC7.out.cell (p := ⟨g7, 0, none⟩) (ncell_lt q0)).trans q0
                  replace q1 := (HC7.out.cell (p := ⟨g7, 1, none⟩) (ncell_lt q1)).trans q1
                  replace q2 := (HC7.out.cell (p := ⟨g7, 2, none⟩) (ncell_lt q2)).trans q2
                  replace q3 := (HC7.out.cell (p := ⟨g7, 3, none⟩) (ncell_lt q3)).trans q3
                  replace q4 := (HC7.out.cell (p := ⟨g7, 4, none⟩) (ncell_lt q4)).trans q4
                  replace q5 := (HC7.out.cell (p := ⟨g7, 5, none⟩) (ncell_lt q5)).trans q5
                  replace q6 := (HC7.out.cell (p := ⟨g7, 6, none⟩) (ncell_lt q6)).trans q6
                  replace q7 := (HC7.out.cell (p := ⟨g7, 7, none⟩) (ncell_lt q7)).trans q7
                  replace q8 := (HC7.out.cell (p := ⟨g7, 8, none⟩) (ncell_lt q8)).trans q8
                  replace q9 := (HC7.out.cell (p := ⟨g7, 9, none⟩) (ncell_lt q9)).trans q9
                  replace HQ6 := Lib.hid (HQ6.out.below HC7.out (Nat.le_refl _))
                  replace HQ7 := Lib.hid (HQ7.out.below HC7.out (Nat.le_refl _))
                  clear HC7
                  obtain ⟨W2, hW2⟩ : ∃ W2, W2 = U9.1 := ⟨_, rfl⟩
                  have HB2 := Lib.hid (show Below w.heap.size w W2 by rw [hW2]; exact HB.out.trans (U9.2.mono HB.out.size))
                  have HBW := Lib.hid (show Below W.heap.size W W2 by rw [hW2]; exact U9.2)
                  replace x0 := x0 U9
                  replace x1 := x1 U9
                  replace x2 := x2 U9
                  replace x3 := x3 U9
                  replace x4 := x4 U9
                  replace x5 := x5 U9
                  replace y0 := y0 U9
                  replace y1 := y1 U9
                  replace y2 := y2 U9
                  replace y3 := y3 U9
                  replace y4 := y4 U9
                  replace y5 := y5 U9
                  rw [← hW2] at x0 x1 x2 x3 x4 x5 y0 y1 y2 y3 y4 y5 p0 p1 p2 p3 p4 p5 p6 p7 p8 p9 q0 q1 q2 q3 q4 q5 q6 q7 q8 q9 r0 r1 r2 r3 r4 r5 r6 r7 r8 r9 HQ6 HQ7 ⊢
                  clear hW2
                  replace x0 := Abv.cell x0
                  replace x1 := Abv.cell x1
                  replace x2 := Abv.cell x2
                  replace x3 := Abv.cell x3
                  replace x4 := Abv.cell x4
                  replace x5 := Abv.cell x5
                  replace y0 := Abv.cell y0
                  replace y1 := Abv.cell y1
                  replace y2 := Abv.cell y2
                  replace y3 := Abv.cell y3
                  replace y4 := Abv.cell y4
                  replace y5 := Abv.cell y5
                  replace p0 := Abv.cell p0
                  replace p1 := Abv.cell p1
                  replace p2 := Abv.cell p2
                  replace p3 := Abv.cell p3
                  replace p4 := Abv.cell p4
                  replace p5 := Abv.cell p5
                  replace p6 := Abv.cell p6
                  replace p7 := Abv.cell p7
                  replace p8 := Abv.cell p8
                  replace p9 := Abv.cell p9
                  replace q0 := Abv.cell q0
                  replace q1 := Abv.cell q1
                  replace q2 := Abv.cell q2
                  replace q3 := Abv.cell q3
                  replace q4 := Abv.cell q4
                  replace q5 := Abv.cell q5
                  replace q6 := Abv.cell q6
                  replace q7 := Abv.cell q7
                  replace q8 := Abv.cell q8
                  replace q9 := Abv.cell q9
                  replace r0 := Abv.cell r0
                  replace r1 := Abv.cell r1
                  replace r2 := Abv.cell r2
                  replace r3 := Abv.cell r3
                  replace r4 := Abv.cell r4
                  replace r5 := Abv.cell r5
                  replace r6 := Abv.cell r6
                  replace r7 := Abv.cell r7
                  replace r8 := Abv.cell r8
                  replace r9 := Abv.cell r9
                  have HSM : Hid (∀ V : Abv W2, Calls Try.prog 12 #[.agg #[.int .i64 p1k, .bool false, .int .i64 p1l, .int .i64 p1a, .int .i64 p1n.kind, .int .i64 p1n.level, .int .i64 p1n.n, .string p1n.name, .slice none 0 0, .slice C6 p1n.to.length (capN p1n.to.length c6)], .agg #[.int .i64 p1k, .bool false, .int .i64 p1l, .int .i64 p1a, .int .i64 p1n.kind, .int .i64 p1n.level, .int .i64 p1n.n, .string p1n.name, .slice none 0 0, .slice C7 p1n.to.length (capN p1n.to.length c7)]] V.1 fun e w' => e = .returned (.bool true) ∧ ∃ V' : Abv W2, w' = V'.1) := Lib.hid fun V => calm_same' (p := ⟨p1k, false, p1l, p1a, p1n⟩) (C := C6) (C' := C7) (c := c6) (c' := c7) HQ6.out HQ7.out V
                  have HNA : Hid (∀ V : Abv W2, Calls Try.prog 13 #[.agg #[.int .i64 p1k, .bool false, .int .i64 p1l, .int .i64 p1a, .int .i64 p1n.kind, .int .i64 p1n.level, .int .i64 p1n.n, .string p1n.name, .slice none 0 0, .slice C6 p1n.to.length (capN p1n.to.length c6)], .agg #[.int .i64 x.kind, .int .i64 x.level, .int .i64 x.n, .string x.name, .slice Bx x.alts.length (capN x.alts.length bx), .slice Cx x.to.length (capN x.to.length cx)], .agg #[.int .i64 y.kind, .int .i64 y.level, .int .i64 y.n, .string y.name, .slice By y.alts.length (capN y.alts.length by_), .slice Cy y.to.length (capN y.to.length cy)]] V.1 fun e w' => e = .returned (.int .i64 N1) ∧ ∃ V' : Abv W2, w' = V'.1) := Lib.hid fun V => by
                    rw [HN1.out]
                    exact calm_need (p := ⟨p1k, false, p1l, p1a, p1n⟩) (C := C6) (c := c6) (HIW.out.below HBW.out (Nat.le_refl _)) (HJW.out.below HBW.out (Nat.le_refl _)) V
                  have HNB : Hid (∀ V : Abv W2, Calls Try.prog 13 #[.agg #[.int .i64 p1k, .bool true, .int .i64 p1l, .int .i64 p1a, .int .i64 p1n.kind, .int .i64 p1n.level, .int .i64 p1n.n, .string p1n.name, .slice none 0 0, .slice C7 p1n.to.length (capN p1n.to.length c7)], .agg #[.int .i64 y.kind, .int .i64 y.level, .int .i64 y.n, .string y.name, .slice By y.alts.length (capN y.alts.length by_), .slice Cy y.to.length (capN y.to.length cy)], .agg #[.int .i64 x.kind, .int .i64 x.level, .int .i64 x.n, .string x.name, .slice Bx x.alts.length (capN x.alts.length bx), .slice Cx x.to.length (capN x.to.length cx)]] V.1 fun e w' => e = .returned (.int .i64 N1) ∧ ∃ V' : Abv W2, w' = V'.1) := Lib.hid fun V => by
                    rw [HN2.out]
                    exact calm_need (p := ⟨p1k, true, p1l, p1a, p1n⟩) (C := C7) (c := c7) (HJW.out.below HBW.out (Nat.le_refl _)) (HIW.out.below HBW.out (Nat.le_refl _)) V
                  obtain ⟨V0, hV0⟩ := calm_in W2
                  rw [← hV0]
                  clear hV0
                  refine region_calm_in (by kernel_rfl) (by kernel_rfl) ?_
                  go_big_quiet_step (fail)
                  go_big_quiet_step (fail)
                  go_big_quiet_step (fail)
                  go_big_quiet_step (fail)
                  go_big_quiet_step (fail)
                  go_big_quiet_step (fail)
                  go_big_quiet_step (fail)
                  go_big_quiet_step (fail)
                  go_big_quiet_step (exact HSM.out _)
                  go_big_quiet_step (fail)
                  go_big_quiet_step (fail)
                  go_big_quiet_step (fail)
                  go_big_quiet_step (fail)
                  go_big_quiet_step (fail)
                  go_big_quiet_step (exact HNA.out _)
                  go_big_quiet_step (fail)
                  go_big_quiet_step (fail)
                  go_big_quiet_step (fail)
                  go_big_quiet_step (exact HNB.out _)
                  go_big_quiet_step (fail)
                  go_big_quiet_step (fail)
                  go_big_quiet_step (fail)
                  refine wpQuiet_nil ?_
                  rintro _ ⟨V9, rfl⟩
                  go_wp2_with fail
                  go_ret
                  exact ⟨rfl, HB2.out.trans (V9.2.mono HB2.out.size)⟩
          · obtain ⟨z1, z2⟩ := hbad hE
            subst z1 z2
            have he0 : (E1 == 0) = false := by simpa using hE
            clear HTU hbad hodd heven HN1 HN2 N1 N2 hE
            go_enter Try.func3, Try.ntmps3
            go_upto_region 1 with fail
            rw [← hW]
            clear hW
            obtain ⟨V0, hV0⟩ := calm_in W
            rw [← hV0]
            clear hV0
            go_wp2_with fail
            refine (HFX.out _).mono ?_
            rintro e _ ⟨rfl, V1, rfl⟩
            go_wp2_with fail
            refine (HS1.out _).mono ?_
            rintro e _ ⟨rfl, V2, rfl⟩
            go_wp2_with fail
            refine (HS2.out _).mono ?_
            rintro e _ ⟨rfl, V3, rfl⟩
            go_wp2_with fail
            refine (HT1.out _).mono ?_
            rintro e _ ⟨rfl, V4, rfl⟩
            go_wp2_with fail
            refine (HT2.out _).mono ?_
            rintro e _ ⟨rfl, V5, rfl⟩
            go_wp2_with fail
            refine (HO1.out V5).mono ?_
            rintro e w6 ⟨C6, c6, rfl, hP6, hb6⟩
            simp only [plv, Pl.zero, Nd.zero, List.length_nil]
            go_upto_region 4 with fail
            obtain ⟨g6, hg6⟩ : ∃ g, g = w6.heap.size := ⟨_, rfl⟩
            obtain ⟨U6, hU6⟩ : ∃ V : Abv W, V.1 = w6.alloc (.cells #[.int .i64 0, .bool false, .int .i64 0, .int .i64 0, .int .i64 0, .int .i64 0, .int .i64 0, .string ⟨#[]⟩, .slice none 0 0, .slice C6 0 (capN 0 c6)] 29) := ⟨⟨_, (V5.2.trans (hb6.mono V5.2.size)).alloc (Nat.le_trans V5.2.size hb6.size) _⟩, rfl⟩
            have LP6 := Lib.hid (show Lies U6.1 g6 29 #[.int .i64 0, .bool false, .int .i64 0, .int .i64 0, .int .i64 0, .int .i64 0, .int .i64 0, .string ⟨#[]⟩, .slice none 0 0, .slice C6 0 (capN 0 c6)] by rw [hU6, hg6]; exact Lies.new _ _ _)
            have HP6 := Lib.hid (show PlOk U6.1 AnyB Pl.zero C6 by rw [hU6]; exact (hP6.below ((Below.refl _ _).alloc (Nat.le_refl _) _) (Nat.le_refl _)).keep (keep_wide fun _ _ _ => trivial))
            rw [← hU6, ← hg6]
            clear hU6 hg6 hP6 hb6 w6
            go_wp2_with fail
            refine (HO2.out U6).mono ?_
            rintro e w7 ⟨C7, c7, rfl, hP7, hb7⟩
            simp only [plv, Pl.zero, Nd.zero, List.length_nil]
            go_upto_region 5 with fail
            obtain ⟨g7, hg7⟩ : ∃ g, g = w7.heap.size := ⟨_, rfl⟩
            obtain ⟨U7, hU7⟩ : ∃ V : Abv W, V.1 = w7.alloc (.cells #[.int .i64 0, .bool false, .int .i64 0, .int .i64 0, .int .i64 0, .int .i64 0, .int .i64 0, .string ⟨#[]⟩, .slice none 0 0, .slice C7 0 (capN 0 c7)] 29) := ⟨⟨_, (U6.2.trans (hb7.mono U6.2.size)).alloc (Nat.le_trans U6.2.size hb7.size) _⟩, rfl⟩
            have LP7 := Lib.hid (show Lies U7.1 g7 29 #[.int .i64 0, .bool false, .int .i64 0, .int .i64 0, .int .i64 0, .int .i64 0, .int .i64 0, .string ⟨#[]⟩, .slice none 0 0, .slice C7 0 (capN 0 c7)] by rw [hU7, hg7]; exact Lies.new _ _ _)
            have HP7 := Lib.hid (show PlOk U7.1 AnyB Pl.zero C7 by rw [hU7]; exact (hP7.below ((Below.refl _ _).alloc (Nat.le_refl _) _) (Nat.le_refl _)).keep (keep_wide fun _ _ _ => trivial))
            rw [← hU7, ← hg7]
            have HC6 := Lib.hid (show Below U6.1.heap.size U6.1 U7.1 by rw [hU7]; exact hb7.alloc hb7.size _)
            clear hU7 hg7 hP7 hb7 w7
            have lp6 := LP6.out.below HC6.out LP6.out.lt
            have lp7 := LP7.out
            have hp6 := HP6.out.below HC6.out (Nat.le_refl _)
            have hp7 := HP7.out
            obtain ⟨p0, p1, p2, p3, p4, p5, p6, p7, p8, p9⟩ := ten_cells lp6
            obtain ⟨q0, q1, q2, q3, q4, q5, q6, q7, q8, q9⟩ := ten_cells lp7
            have HL6 := Lib.hid lp6
            have HL7 := Lib.hid lp7
            have HQ6 := Lib.hid hp6
            have HQ7 := Lib.hid hp7
            clear lp6 lp7 hp6 hp7 LP6 LP7 HP6 HP7 HC6 V1 V2 V3 V4 V5 HS1 HS2 HT1 HT2 HO1 HO2 HFX
            obtain ⟨W2, hW2⟩ : ∃ W2, W2 = U7.1 := ⟨_, rfl⟩
            have HB2 := Lib.hid (show Below w.heap.size w W2 by rw [hW2]; exact HB.out.trans (U7.2.mono HB.out.size))
            have HBW := Lib.hid (show Below W.heap.size W W2 by rw [hW2]; exact U7.2)
            replace x0 := x0 U7
            replace x1 := x1 U7
            replace x2 := x2 U7
            replace x3 := x3 U7
            replace x4 := x4 U7
            replace x5 := x5 U7
            replace y0 := y0 U7
            replace y1 := y1 U7
            replace y2 := y2 U7
            replace y3 := y3 U7
            replace y4 := y4 U7
            replace y5 := y5 U7
            rw [← hW2] at x0 x1 x2 x3 x4 x5 y0 y1 y2 y3 y4 y5 p0 p1 p2 p3 p4 p5 p6 p7 p8 p9 q0 q1 q2 q3 q4 q5 q6 q7 q8 q9 HQ6 HQ7 ⊢
            clear hW2
            replace x0 := Abv.cell x0
            replace x1 := Abv.cell x1
            replace x2 := Abv.cell x2
            replace x3 := Abv.cell x3
            replace x4 := Abv.cell x4
            replace x5 := Abv.cell x5
            replace y0 := Abv.cell y0
            replace y1 := Abv.cell y1
            replace y2 := Abv.cell y2
            replace y3 := Abv.cell y3
            replace y4 := Abv.cell y4
            replace y5 := Abv.cell y5
            replace p0 := Abv.cell p0
            replace p1 := Abv.cell p1
            replace p2 := Abv.cell p2
            replace p3 := Abv.cell p3
            replace p4 := Abv.cell p4
            replace p5 := Abv.cell p5
            replace p6 := Abv.cell p6
            replace p7 := Abv.cell p7
            replace p8 := Abv.cell p8
            replace p9 := Abv.cell p9
            replace q0 := Abv.cell q0
            replace q1 := Abv.cell q1
            replace q2 := Abv.cell q2
            replace q3 := Abv.cell q3
            replace q4 := Abv.cell q4
            replace q5 := Abv.cell q5
            replace q6 := Abv.cell q6
            replace q7 := Abv.cell q7
            replace q8 := Abv.cell q8
            replace q9 := Abv.cell q9
            have HSA : Hid (∀ V : Abv W2, Calls Try.prog 12 #[.agg #[.int .i64 0, .bool false, .int .i64 0, .int .i64 0, .int .i64 0, .int .i64 0, .int .i64 0, .string ⟨#[]⟩, .slice none 0 0, .slice C6 0 (capN 0 c6)], .agg #[.int .i64 0, .bool false, .int .i64 0, .int .i64 0, .int .i64 0, .int .i64 0, .int .i64 0, .string ⟨#[]⟩, .slice none 0 0, .slice none 0 0]] V.1 fun e w' => e = .returned (.bool true) ∧ ∃ V' : Abv W2, w' = V'.1) := Lib.hid fun V => calm_same' (p := Pl.zero) (C := C6) (C' := none) (c := c6) (c' := 0) HQ6.out PlOk.zero V
            have HSB : Hid (∀ V : Abv W2, Calls Try.prog 12 #[.agg #[.int .i64 0, .bool false, .int .i64 0, .int .i64 0, .int .i64 0, .int .i64 0, .int .i64 0, .string ⟨#[]⟩, .slice none 0 0, .slice C7 0 (capN 0 c7)], .agg #[.int .i64 0, .bool false, .int .i64 0, .int .i64 0, .int .i64 0, .int .i64 0, .int .i64 0, .string ⟨#[]⟩, .slice none 0 0, .slice none 0 0]] V.1 fun e w' => e = .returned (.bool true) ∧ ∃ V' : Abv W2, w' = V'.1) := Lib.hid fun V => calm_same' (p := Pl.zero) (C := C7) (C' := none) (c := c7) (c' := 0) HQ7.out PlOk.zero V
            obtain ⟨V0, hV0⟩ := calm_in W2
            rw [← hV0]
            clear hV0
            go_wp2_with fail
            refine (HSA.out _).mono ?_
            rintro e _ ⟨rfl, V1, rfl⟩
            go_wp2_with fail
            refine (HSB.out _).mono ?_
            rintro e _ ⟨rfl, V2, rfl⟩
            go_wp2_with fail
            go_ret
            exact ⟨rfl, HB2.out.trans (V2.2.mono HB2.out.size)⟩
end Lx
end Go.Proofs.Ytlamjjkcbadibaa
