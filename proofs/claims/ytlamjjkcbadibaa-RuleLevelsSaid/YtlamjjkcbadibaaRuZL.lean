/-
  The law RuleLevels, walked.
-/
import Derived.Test.YtlamjjkcbadibaaRuO
import Derived.Test.YtlamjjkcbadibaaRuZA
namespace Go.Proofs.Ytlamjjkcbadibaa
open Go Go.RowKit
namespace Lx
set_option maxRecDepth 100000
set_option maxHeartbeats 16000000 in
theorem ruleLevels_law (k : Int) (y : Nd) (l : Int) (By Cy : Option Addr) (by_ cy : Nat) (w : World) (hJ : NdIn w AnyB y By Cy) :
    Calls Try.prog 5 #[.int .i64 k, ndv y By by_ Cy cy, .int .i64 l] w fun e w' => e = .returned (.bool true) ∧ Below w.heap.size w w' := by
  obtain ⟨W, hW⟩ : ∃ W, W = (w.alloc (.cells #[.int .i64 y.kind, .int .i64 y.level, .int .i64 y.n, .string y.name, .slice By y.alts.length (capN y.alts.length by_), .slice Cy y.to.length (capN y.to.length cy)] 25)) := ⟨_, rfl⟩
  have hbW : Below w.heap.size w W := by rw [hW]; exact ((Below.refl _ w).alloc (Nat.le_refl _) _)
  have L0 : Lies W (w.heap.size) 25 #[.int .i64 y.kind, .int .i64 y.level, .int .i64 y.n, .string y.name, .slice By y.alts.length (capN y.alts.length by_), .slice Cy y.to.length (capN y.to.length cy)] := by
    rw [hW]
    exact Lies.new _ _ _
  obtain ⟨y0, y1, y2, y3, y4, y5⟩ := six_cells L0
  replace y0 := Abv.cell y0
  replace y1 := Abv.cell y1
  replace y2 := Abv.cell y2
  replace y3 := Abv.cell y3
  replace y4 := Abv.cell y4
  replace y5 := Abv.cell y5
  have HB := Lib.hid hbW
  clear L0 hbW
  have HFX := Lib.hid (fun V : Abv W => calm_all (fun U => fixed14_any U) V)
  have HJW := Lib.hid (hJ.below HB.out (Nat.le_refl _))
  have HN2 := Lib.hid (fun V : Abv W => calm_node (b := by_) (c := cy) HJW.out V)
  clear hJ
  unfold ndv at HN2
  obtain ⟨P1, hP1⟩ : ∃ q, q = (ofN (bareN k l) y).1 := ⟨_, rfl⟩
  obtain ⟨E1, hE1⟩ : ∃ q, q = (ofN (bareN k l) y).2 := ⟨_, rfl⟩
  have HO1 : Hid (∀ V : Abv W, Calls Try.prog 11 #[.agg #[.int .i64 k, .int .i64 l, .int .i64 0, .string ⟨#[]⟩, .slice none 0 0, .slice none 0 0], .agg #[.int .i64 y.kind, .int .i64 y.level, .int .i64 y.n, .string y.name, .slice By y.alts.length (capN y.alts.length by_), .slice Cy y.to.length (capN y.to.length cy)]] V.1 (GivesPl P1 E1 V.1)) := Lib.hid fun V => by
    rw [hP1, hE1]
    exact ruof_any (bareN k l) y none none 0 0 By Cy by_ cy V.1 (bareN_in _ _ _) (HJW.out.below V.2 (Nat.le_refl _))
  obtain ⟨nb, hnb⟩ : ∃ q, q = nodeV y := ⟨_, rfl⟩
  have HNF : Hid (nb = true → 0 ≤ y.level ∧ y.level ≤ 60) := Lib.hid (by rw [hnb]; exact fun h => by have := node_facts h; omega)
  have HK : Hid (4 ≤ k ∧ k ≤ 6 → nb = true → 0 ≤ l ∧ l ≤ 60 → 2 ≤ y.kind ∧ y.kind ≠ 7 → (l < y.level → 60 < wantV k y.level → E1 = 141) ∧ (l < y.level → ¬ 60 < wantV k y.level → E1 = 0 ∧ P1.kind = 7 ∧ P1.level = wantV k y.level ∧ P1.swap = false) ∧ (¬ l < y.level → roleV y.kind = 2 → l = y.level → (E1 = 0 ↔ k = y.kind)) ∧ (¬ l < y.level → roleV y.kind ≠ 2 → E1 = 140)) := Lib.hid (by
    rw [hE1, hP1, hnb]
    exact fun h1 h2 h3 h4 => levels_ok h1 h2 h3 h4)
  rw [← hnb] at HN2
  clear hP1 hE1 hnb
  unfold ndv
  by_cases g1 : k < 4
  · have dg1 : decide (k < 4) = true := decide_eq_true g1
    go_enter Try.func5, Try.ntmps5
    go_upto_region 1 with fail
    rw [← hW]
    clear hW
    obtain ⟨V0, hV0⟩ := calm_in W
    rw [← hV0]
    clear hV0
    go_wp2_with fail
    refine (HFX.out _).mono ?_
    rintro e _ ⟨rfl, V1, rfl⟩
    go_wp2_with fail
    refine (HFX.out _).mono ?_
    rintro e _ ⟨rfl, V2, rfl⟩
    go_wp2_with fail
    go_ret
    exact ⟨rfl, HB.out.trans (V2.2.mono HB.out.size)⟩
  · have dg1 : decide (k < 4) = false := decide_eq_false g1
    by_cases g2 : 6 < k
    · have dg2 : decide (6 < k) = true := decide_eq_true g2
      go_enter Try.func5, Try.ntmps5
      go_upto_region 1 with fail
      rw [← hW]
      clear hW
      obtain ⟨V0, hV0⟩ := calm_in W
      rw [← hV0]
      clear hV0
      go_wp2_with fail
      refine (HFX.out _).mono ?_
      rintro e _ ⟨rfl, V1, rfl⟩
      go_wp2_with fail
      refine (HFX.out _).mono ?_
      rintro e _ ⟨rfl, V2, rfl⟩
      go_wp2_with fail
      go_ret
      exact ⟨rfl, HB.out.trans (V2.2.mono HB.out.size)⟩
    · have dg2 : decide (6 < k) = false := decide_eq_false g2
      cases nb with
      | false =>
        go_enter Try.func5, Try.ntmps5
        go_upto_region 1 with fail
        rw [← hW]
        clear hW
        obtain ⟨V0, hV0⟩ := calm_in W
        rw [← hV0]
        clear hV0
        go_wp2_with fail
        refine (HFX.out _).mono ?_
        rintro e _ ⟨rfl, V1, rfl⟩
        go_wp2_with fail
        refine (HN2.out _).mono ?_
        rintro e _ ⟨rfl, V2, rfl⟩
        go_wp2_with fail
        refine (HFX.out _).mono ?_
        rintro e _ ⟨rfl, V3, rfl⟩
        go_wp2_with fail
        go_ret
        exact ⟨rfl, HB.out.trans (V3.2.mono HB.out.size)⟩
      | true =>
        by_cases g3 : l < 0
        · have dg3 : decide (l < 0) = true := decide_eq_true g3
          go_enter Try.func5, Try.ntmps5
          go_upto_region 1 with fail
          rw [← hW]
          clear hW
          obtain ⟨V0, hV0⟩ := calm_in W
          rw [← hV0]
          clear hV0
          go_wp2_with fail
          refine (HFX.out _).mono ?_
          rintro e _ ⟨rfl, V1, rfl⟩
          go_wp2_with fail
          refine (HN2.out _).mono ?_
          rintro e _ ⟨rfl, V2, rfl⟩
          go_wp2_with fail
          refine (HFX.out _).mono ?_
          rintro e _ ⟨rfl, V3, rfl⟩
          go_wp2_with fail
          go_ret
          exact ⟨rfl, HB.out.trans (V3.2.mono HB.out.size)⟩
        · have dg3 : decide (l < 0) = false := decide_eq_false g3
          by_cases g4 : 60 < l
          · have dg4 : decide (60 < l) = true := decide_eq_true g4
            go_enter Try.func5, Try.ntmps5
            go_upto_region 1 with fail
            rw [← hW]
            clear hW
            obtain ⟨V0, hV0⟩ := calm_in W
            rw [← hV0]
            clear hV0
            go_wp2_with fail
            refine (HFX.out _).mono ?_
            rintro e _ ⟨rfl, V1, rfl⟩
            go_wp2_with fail
            refine (HN2.out _).mono ?_
            rintro e _ ⟨rfl, V2, rfl⟩
            go_wp2_with fail
            refine (HFX.out _).mono ?_
            rintro e _ ⟨rfl, V3, rfl⟩
            go_wp2_with fail
            go_ret
            exact ⟨rfl, HB.out.trans (V3.2.mono HB.out.size)⟩
          · have dg4 : decide (60 < l) = false := decide_eq_false g4
            by_cases g5 : y.kind < 2
            · have dg5 : decide (y.kind < 2) = true := decide_eq_true g5
              go_enter Try.func5, Try.ntmps5
              go_upto_region 1 with fail
              rw [← hW]
              clear hW
              obtain ⟨V0, hV0⟩ := calm_in W
              rw [← hV0]
              clear hV0
              go_wp2_with fail
              refine (HFX.out _).mono ?_
              rintro e _ ⟨rfl, V1, rfl⟩
              go_wp2_with fail
              refine (HN2.out _).mono ?_
              rintro e _ ⟨rfl, V2, rfl⟩
              go_wp2_with fail
              refine (HFX.out _).mono ?_
              rintro e _ ⟨rfl, V3, rfl⟩
              go_wp2_with fail
              go_ret
              exact ⟨rfl, HB.out.trans (V3.2.mono HB.out.size)⟩
            · have dg5 : decide (y.kind < 2) = false := decide_eq_false g5
              cases g7 : (y.kind == 7) with
              | true =>
                go_enter Try.func5, Try.ntmps5
                go_upto_region 1 with fail
                rw [← hW]
                clear hW
                obtain ⟨V0, hV0⟩ := calm_in W
                rw [← hV0]
                clear hV0
                go_wp2_with fail
                refine (HFX.out _).mono ?_
                rintro e _ ⟨rfl, V1, rfl⟩
                go_wp2_with fail
                refine (HN2.out _).mono ?_
                rintro e _ ⟨rfl, V2, rfl⟩
                go_wp2_with fail
                refine (HFX.out _).mono ?_
                rintro e _ ⟨rfl, V3, rfl⟩
                go_wp2_with fail
                go_ret
                exact ⟨rfl, HB.out.trans (V3.2.mono HB.out.size)⟩
              | false =>
                have g7' : y.kind ≠ 7 := by simpa using g7
                obtain ⟨h1, h2, h3, h4⟩ := HK.out ⟨by omega, by omega⟩ rfl ⟨by omega, by omega⟩ ⟨by omega, g7'⟩
                obtain ⟨n1, n2⟩ := HNF.out rfl
                have H1 := Lib.hid h1
                have H2 := Lib.hid h2
                have H3 := Lib.hid h3
                have H4 := Lib.hid h4
                clear HK HNF h1 h2 h3 h4 g7'
                go_enter Try.func5, Try.ntmps5
                go_upto_region 1 with fail
                rw [← hW]
                clear hW
                obtain ⟨V0, hV0⟩ := calm_in W
                rw [← hV0]
                clear hV0
                go_wp2_with fail
                refine (HFX.out _).mono ?_
                rintro e _ ⟨rfl, V1, rfl⟩
                go_wp2_with fail
                refine (HN2.out _).mono ?_
                rintro e _ ⟨rfl, V2, rfl⟩
                go_upto_region 4 with fail
                obtain ⟨ga, hga⟩ : ∃ g, g = V2.1.heap.size := ⟨_, rfl⟩
                obtain ⟨V3, hV3⟩ : ∃ V : Abv W, V.1 = V2.1.alloc (.cells #[.int .i64 k, .int .i64 l, .int .i64 0, .string ⟨#[]⟩, .slice none 0 0, .slice none 0 0] 25) := ⟨⟨_, V2.2.alloc V2.2.size _⟩, rfl⟩
                have LA : Lies V3.1 ga 25 #[.int .i64 k, .int .i64 l, .int .i64 0, .string ⟨#[]⟩, .slice none 0 0, .slice none 0 0] := by rw [hV3, hga]; exact Lies.new _ _ _
                obtain ⟨a0, a1, a2, a3, a4, a5⟩ := six_cells LA
                rw [← hV3, ← hga]
                clear hV3 hga LA V1 V2
                go_wp2_with fail
                refine (HO1.out V3).mono ?_
                rintro e w6 ⟨C6, c6, rfl, hP6, hb6⟩
                simp only [plv]
                go_upto_region 5 with fail
                obtain ⟨g6, hg6⟩ : ∃ g, g = w6.heap.size := ⟨_, rfl⟩
                obtain ⟨U6, hU6⟩ : ∃ V : Abv W, V.1 = w6.alloc (.cells #[.int .i64 P1.kind, .bool P1.swap, .int .i64 P1.level, .int .i64 P1.alt, .int .i64 P1.node.kind, .int .i64 P1.node.level, .int .i64 P1.node.n, .string P1.node.name, .slice none 0 0, .slice C6 P1.node.to.length (capN P1.node.to.length c6)] 29) := ⟨⟨_, (V3.2.trans (hb6.mono V3.2.size)).alloc (Nat.le_trans V3.2.size hb6.size) _⟩, rfl⟩
                have LP6 := Lib.hid (show Lies U6.1 g6 29 #[.int .i64 P1.kind, .bool P1.swap, .int .i64 P1.level, .int .i64 P1.alt, .int .i64 P1.node.kind, .int .i64 P1.node.level, .int .i64 P1.node.n, .string P1.node.name, .slice none 0 0, .slice C6 P1.node.to.length (capN P1.node.to.length c6)] by rw [hU6, hg6]; exact Lies.new _ _ _)
                have HP6 := Lib.hid (show PlOk U6.1 AnyB P1 C6 by rw [hU6]; exact (hP6.below ((Below.refl _ _).alloc (Nat.le_refl _) _) (Nat.le_refl _)).keep (keep_wide fun _ _ _ => trivial))
                rw [← hU6, ← hg6]
                clear hU6 hg6 hP6 hb6 w6
                clear a0 a1 a2 a3 a4 a5 V3 HO1 HN2 HFX
                have lp6 := LP6.out
                obtain ⟨p0, p1, p2, p3, p4, p5, p6, p7, p8, p9⟩ := ten_cells lp6
                clear lp6 LP6 HP6
                obtain ⟨cx, hcx⟩ : ∃ q, q = decide (roleV y.kind = 2) := ⟨_, rfl⟩
                have HC : Hid (∀ V : Abv W, Calls Try.prog 15 #[.int .i64 y.kind] V.1 fun e w' => e = .returned (.bool cx) ∧ V.1 = w') := Lib.hid fun V => by
                  rw [hcx, ← control_dec]
                  exact rucontrol_any y.kind V.1
                replace hcx := Lib.hid hcx
                by_cases hl : l < y.level
                · have dl : decide (l < y.level) = true := decide_eq_true hl
                  have h1 := H1.out hl
                  have h2 := H2.out hl
                  clear H1 H2 H3 H4 HC hcx
                  have hk : k = 4 ∨ k = 5 ∨ k = 6 := by omega
                  rcases hk with rfl | rfl | rfl
                  · have hwe : wantV 4 y.level = y.level := by unfold wantV riseV; simp
                    rw [hwe] at h1 h2
                    by_cases hw : 60 < y.level
                    · exfalso; omega
                    · obtain ⟨e1, e2, e3, e4⟩ := h2 (by omega)
                      have q1 : (E1 == 0) = true := by simpa using e1
                      have q2 : decide (60 < y.level) = false := decide_eq_false hw
                      have q3 : (P1.kind == 7) = true := by simpa using e2
                      have q4 : (P1.level == y.level) = true := by simpa using e3
                      rw [e4] at p1
                      clear h1 h2 e1 e2 e3 e4 hwe
                      go_wp2_with fail
                      go_ret
                      exact ⟨rfl, HB.out.trans (U6.2.mono HB.out.size)⟩
                  · have hwe : wantV 5 y.level = y.level - 1 := by unfold wantV riseV; simp; omega
                    rw [hwe] at h1 h2
                    by_cases hw : 60 < y.level - 1
                    · exfalso; omega
                    · obtain ⟨e1, e2, e3, e4⟩ := h2 (by omega)
                      have q1 : (E1 == 0) = true := by simpa using e1
                      have q2 : decide (60 < y.level - 1) = false := decide_eq_false hw
                      have q3 : (P1.kind == 7) = true := by simpa using e2
                      have q4 : (P1.level == y.level - 1) = true := by simpa using e3
                      rw [e4] at p1
                      clear h1 h2 e1 e2 e3 e4 hwe
                      go_wp2_with fail
                      go_ret
                      exact ⟨rfl, HB.out.trans (U6.2.mono HB.out.size)⟩
                  · have hwe : wantV 6 y.level = y.level + 1 := by unfold wantV riseV; simp
                    rw [hwe] at h1 h2
                    by_cases hw : 60 < y.level + 1
                    · have e1 := h1 hw
                      have q1 : (E1 == 141) = true := by simpa using e1
                      have q2 : decide (60 < y.level + 1) = true := decide_eq_true hw
                      clear h1 h2 e1 hwe
                      go_wp2_with fail
                      go_ret
                      exact ⟨rfl, HB.out.trans (U6.2.mono HB.out.size)⟩
                    · obtain ⟨e1, e2, e3, e4⟩ := h2 (by omega)
                      have q1 : (E1 == 0) = true := by simpa using e1
                      have q2 : decide (60 < y.level + 1) = false := decide_eq_false hw
                      have q3 : (P1.kind == 7) = true := by simpa using e2
                      have q4 : (P1.level == y.level + 1) = true := by simpa using e3
                      rw [e4] at p1
                      clear h1 h2 e1 e2 e3 e4 hwe
                      go_wp2_with fail
                      go_ret
                      exact ⟨rfl, HB.out.trans (U6.2.mono HB.out.size)⟩
                · have dl : decide (l < y.level) = false := decide_eq_false hl
                  have h3 := H3.out (by omega)
                  have h4 := H4.out (by omega)
                  clear H1 H2 H3 H4
                  cases cx with
                  | false =>
                    have e1 := h4 (of_decide_eq_false hcx.out.symm)
                    have q1 : (E1 == 140) = true := by simpa using e1
                    clear h3 h4 e1
                    go_wp2_with fail
                    refine (HC.out _).mono ?_
                    rintro e _ ⟨rfl, rfl⟩
                    go_wp2_with fail
                    go_ret
                    exact ⟨rfl, HB.out.trans (U6.2.mono HB.out.size)⟩
                  | true =>
                    go_wp2_with fail
                    refine (HC.out _).mono ?_
                    rintro e _ ⟨rfl, rfl⟩
                    cases ql : (l == y.level) with
                    | false =>
                      have ql' : (l != y.level) = true := by simp at ql ⊢; exact ql
                      clear h3 h4
                      go_wp2_with fail
                      go_ret
                      exact ⟨rfl, HB.out.trans (U6.2.mono HB.out.size)⟩
                    | true =>
                      have ql' : (l != y.level) = false := by simp at ql ⊢; exact ql
                      have h5 := h3 (of_decide_eq_true hcx.out.symm) (by simpa using ql)
                      cases qk : (k == y.kind) with
                      | true =>
                        have q1 : (E1 == 0) = true := by simpa using h5.2 (by simpa using qk)
                        clear h3 h4 h5
                        go_wp2_with fail
                        go_ret
                        exact ⟨rfl, HB.out.trans (U6.2.mono HB.out.size)⟩
                      | false =>
                        have q1 : (E1 == 0) = false := by
                          have h6 : ¬ k = y.kind := by simpa using qk
                          simp
                          exact fun h7 => h6 (h5.1 h7)
                        clear h3 h4 h5
                        go_wp2_with fail
                        go_ret
                        exact ⟨rfl, HB.out.trans (U6.2.mono HB.out.size)⟩
end Lx
end Go.Proofs.Ytlamjjkcbadibaa
