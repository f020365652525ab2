/-
  The law RuleKinds, walked.
-/
import Derived.Test.YtlamjjkcbadibaaRuZ1
import Derived.Test.YtlamjjkcbadibaaRuZ2
import Derived.Test.YtlamjjkcbadibaaRuZ3
import Derived.Test.YtlamjjkcbadibaaRuZ4
import Derived.Test.YtlamjjkcbadibaaRuZ5
import Derived.Test.YtlamjjkcbadibaaRuZ6
namespace Go.Proofs.Ytlamjjkcbadibaa
open Go Go.RowKit
namespace Lx
set_option maxRecDepth 100000
set_option maxHeartbeats 16000000 in
theorem ruleKinds_law (x y : Nd) (Bx Cx : Option Addr) (bx cx : Nat) (By Cy : Option Addr) (by_ cy : Nat) (w : World) (hI : NdIn w AnyB x Bx Cx) (hJ : NdIn w AnyB y By Cy) :
    Calls Try.prog 4 #[ndv x Bx bx Cx cx, ndv y By by_ Cy cy] w fun e w' => e = .returned (.bool true) ∧ Below w.heap.size w w' := by
  by_cases hz : nodeV x = true ∧ nodeV y = true ∧ (ofN x y).2 = 0
  · obtain ⟨hna, hnb, hE⟩ := hz
    have hk := (kinds_ok hna hnb).2 hE
    obtain ⟨P1, hP1⟩ : ∃ q, (ofN x y).1 = q := ⟨_, rfl⟩
    rw [hP1] at hk
    rcases hk with ⟨hs, hk⟩ | ⟨hs, hk⟩
    · rcases hk with ⟨h8, hx⟩ | ⟨h6, hx⟩ | ⟨h7, hx⟩ | ⟨hx, nk, nn, ns, h4, hnk, hnn⟩ | hx
      · obtain ⟨pk, ps, pl, pa, pn⟩ := P1
        simp only at hs h8
        subst hs
        subst h8
        exact ruleKinds_f8 x y Bx Cx bx cx By Cy by_ cy w hI hJ hna hnb hE pl pa pn hP1 hx
      · obtain ⟨pk, ps, pl, pa, pn⟩ := P1
        simp only at hs h6
        subst hs
        subst h6
        exact ruleKinds_f6 x y Bx Cx bx cx By Cy by_ cy w hI hJ hna hnb hE pl pa pn hP1 hx
      · obtain ⟨pk, ps, pl, pa, pn⟩ := P1
        simp only at hs h7 hx
        subst hs
        subst h7
        exact ruleKinds_f7 x y Bx Cx bx cx By Cy by_ cy w hI hJ hna hnb hE pl pa pn hP1 hx
      · rw [hs] at h4
        subst h4
        rcases hnk with rfl | rfl
        · exact ruleKinds_f410 x y Bx Cx bx cx By Cy by_ cy w hI hJ hna hnb hE nn ns hP1 ⟨hx, hnn⟩
        · exact ruleKinds_f48 x y Bx Cx bx cx By Cy by_ cy w hI hJ hna hnb hE nn ns hP1 ⟨hx, hnn⟩
      · obtain ⟨pk, ps, pl, pa, pn⟩ := P1
        simp only at hs hx
        subst hs
        exact ruleKinds_fd x y Bx Cx bx cx By Cy by_ cy w hI hJ hna hnb hE pk pl pa pn hP1 hx
    · rcases hk with ⟨h8, hx⟩ | ⟨h6, hx⟩ | ⟨h7, hx⟩ | ⟨hx, nk, nn, ns, h4, hnk, hnn⟩ | hx
      · obtain ⟨pk, ps, pl, pa, pn⟩ := P1
        simp only at hs h8
        subst hs
        subst h8
        exact ruleKinds_t8 x y Bx Cx bx cx By Cy by_ cy w hI hJ hna hnb hE pl pa pn hP1 hx
      · obtain ⟨pk, ps, pl, pa, pn⟩ := P1
        simp only at hs h6
        subst hs
        subst h6
        exact ruleKinds_t6 x y Bx Cx bx cx By Cy by_ cy w hI hJ hna hnb hE pl pa pn hP1 hx
      · obtain ⟨pk, ps, pl, pa, pn⟩ := P1
        simp only at hs h7 hx
        subst hs
        subst h7
        exact ruleKinds_t7 x y Bx Cx bx cx By Cy by_ cy w hI hJ hna hnb hE pl pa pn hP1 hx
      · rw [hs] at h4
        subst h4
        rcases hnk with rfl | rfl
        · exact ruleKinds_t410 x y Bx Cx bx cx By Cy by_ cy w hI hJ hna hnb hE nn ns hP1 ⟨hx, hnn⟩
        · exact ruleKinds_t48 x y Bx Cx bx cx By Cy by_ cy w hI hJ hna hnb hE nn ns hP1 ⟨hx, hnn⟩
      · obtain ⟨pk, ps, pl, pa, pn⟩ := P1
        simp only at hs hx
        subst hs
        exact ruleKinds_td x y Bx Cx bx cx By Cy by_ cy w hI hJ hna hnb hE pk pl pa pn hP1 hx
  have HZ := Lib.hid hz
  clear hz
  obtain ⟨W, hW⟩ : ∃ W, W = ((w.alloc (.cells #[.int .i64 x.kind, .int .i64 x.level, .int .i64 x.n, .string x.name, .slice Bx x.alts.length (capN x.alts.length bx), .slice Cx x.to.length (capN x.to.length cx)] 25)).alloc (.cells #[.int .i64 y.kind, .int .i64 y.level, .int .i64 y.n, .string y.name, .slice By y.alts.length (capN y.alts.length by_), .slice Cy y.to.length (capN y.to.length cy)] 25)) := ⟨_, rfl⟩
  have hbW : Below w.heap.size w W := by rw [hW]; exact (((Below.refl _ w).alloc (Nat.le_refl _) _).alloc (by simp) _)
  have L0 : Lies W (w.heap.size) 25 #[.int .i64 x.kind, .int .i64 x.level, .int .i64 x.n, .string x.name, .slice Bx x.alts.length (capN x.alts.length bx), .slice Cx x.to.length (capN x.to.length cx)] := by
    rw [hW]
    refine Lies.old ?_ _
    exact Lies.new _ _ _
  have L1 : Lies W (w.heap.size + 1) 25 #[.int .i64 y.kind, .int .i64 y.level, .int .i64 y.n, .string y.name, .slice By y.alts.length (capN y.alts.length by_), .slice Cy y.to.length (capN y.to.length cy)] := by
    rw [hW]
    simpa using Lies.new (w.alloc (.cells #[.int .i64 x.kind, .int .i64 x.level, .int .i64 x.n, .string x.name, .slice Bx x.alts.length (capN x.alts.length bx), .slice Cx x.to.length (capN x.to.length cx)] 25)) 25 #[.int .i64 y.kind, .int .i64 y.level, .int .i64 y.n, .string y.name, .slice By y.alts.length (capN y.alts.length by_), .slice Cy y.to.length (capN y.to.length cy)]
  obtain ⟨x0, x1, x2, x3, x4, x5⟩ := six_cells L0
  replace x0 := Abv.cell x0
  replace x1 := Abv.cell x1
  replace x2 := Abv.cell x2
  replace x3 := Abv.cell x3
  replace x4 := Abv.cell x4
  replace x5 := Abv.cell x5
  obtain ⟨y0, y1, y2, y3, y4, y5⟩ := six_cells L1
  replace y0 := Abv.cell y0
  replace y1 := Abv.cell y1
  replace y2 := Abv.cell y2
  replace y3 := Abv.cell y3
  replace y4 := Abv.cell y4
  replace y5 := Abv.cell y5
  have HB := Lib.hid hbW
  clear L0 L1 hbW
  have HFX := Lib.hid (fun V : Abv W => calm_all (fun U => fixed14_any U) V)
  have HIW := Lib.hid (hI.below HB.out (Nat.le_refl _))
  have HJW := Lib.hid (hJ.below HB.out (Nat.le_refl _))
  have hnx := hI.1
  have hny := hJ.1
  clear hI hJ
  have HN1 := Lib.hid (fun V : Abv W => calm_node (b := bx) (c := cx) HIW.out V)
  have HN2 := Lib.hid (fun V : Abv W => calm_node (b := by_) (c := cy) HJW.out V)
  unfold ndv at HN1 HN2
  obtain ⟨P1, hP1⟩ : ∃ q, q = (ofN x y).1 := ⟨_, rfl⟩
  obtain ⟨E1, hE1⟩ : ∃ q, q = (ofN x y).2 := ⟨_, rfl⟩
  have HO1 : Hid (∀ V : Abv W, Calls Try.prog 11 #[.agg #[.int .i64 x.kind, .int .i64 x.level, .int .i64 x.n, .string x.name, .slice Bx x.alts.length (capN x.alts.length bx), .slice Cx x.to.length (capN x.to.length cx)], .agg #[.int .i64 y.kind, .int .i64 y.level, .int .i64 y.n, .string y.name, .slice By y.alts.length (capN y.alts.length by_), .slice Cy y.to.length (capN y.to.length cy)]] V.1 (GivesPl P1 E1 V.1)) := Lib.hid fun V => by
    rw [hP1, hE1]
    exact ruof_any x y Bx Cx bx cx By Cy by_ cy V.1 (HIW.out.below V.2 (Nat.le_refl _)) (HJW.out.below V.2 (Nat.le_refl _))
  obtain ⟨na, hna⟩ : ∃ q, q = nodeV x := ⟨_, rfl⟩
  obtain ⟨nb, hnb⟩ : ∃ q, q = nodeV y := ⟨_, rfl⟩
  have HK : Hid (na = true → nb = true → E1 ≠ 0 ∧ (E1 = 0 ∨ E1 = 140 ∨ E1 = 141)) := Lib.hid (by
    rw [hE1, hna, hnb]
    exact fun h1 h2 => ⟨fun h3 => HZ.out ⟨h1, h2, h3⟩, (kinds_ok h1 h2).1⟩)
  rw [← hna] at HN1
  rw [← hnb] at HN2
  clear hP1 hE1 hna hnb hnx hny HZ
  unfold ndv
  cases na with
  | false =>
    go_enter Try.func4, Try.ntmps4
    go_upto_region 1 with fail
    rw [← hW]
    clear hW
    obtain ⟨V0, hV0⟩ := calm_in W
    rw [← hV0]
    clear hV0
    go_wp2_with fail
    refine (HFX.out _).mono ?_
    rintro e _ ⟨rfl, V1, rfl⟩
    go_wp2_with fail
    refine (HN1.out _).mono ?_
    rintro e _ ⟨rfl, V2, rfl⟩
    go_wp2_with fail
    refine (HFX.out _).mono ?_
    rintro e _ ⟨rfl, V3, rfl⟩
    go_wp2_with fail
    go_ret
    exact ⟨rfl, HB.out.trans (V3.2.mono HB.out.size)⟩
  | true =>
    cases nb with
    | false =>
      go_enter Try.func4, Try.ntmps4
      go_upto_region 1 with fail
      rw [← hW]
      clear hW
      obtain ⟨V0, hV0⟩ := calm_in W
      rw [← hV0]
      clear hV0
      go_wp2_with fail
      refine (HFX.out _).mono ?_
      rintro e _ ⟨rfl, V1, rfl⟩
      go_wp2_with fail
      refine (HN1.out _).mono ?_
      rintro e _ ⟨rfl, V2, rfl⟩
      go_wp2_with fail
      refine (HN2.out _).mono ?_
      rintro e _ ⟨rfl, V3, rfl⟩
      go_wp2_with fail
      refine (HFX.out _).mono ?_
      rintro e _ ⟨rfl, V4, rfl⟩
      go_wp2_with fail
      go_ret
      exact ⟨rfl, HB.out.trans (V4.2.mono HB.out.size)⟩
    | true =>
      obtain ⟨hE, hEs⟩ := HK.out rfl rfl
      clear HK
      have hE0 : (E1 == 0) = false := by simpa using hE
      have hE1 : E1 = 140 ∨ E1 = 141 := by omega
      clear hE hEs
      rcases hE1 with rfl | rfl
      all_goals
        go_enter Try.func4, Try.ntmps4
        go_upto_region 1 with fail
        rw [← hW]
        clear hW
        obtain ⟨V0, hV0⟩ := calm_in W
        rw [← hV0]
        clear hV0
        go_wp2_with fail
        refine (HFX.out _).mono ?_
        rintro e _ ⟨rfl, V1, rfl⟩
        go_wp2_with fail
        refine (HN1.out _).mono ?_
        rintro e _ ⟨rfl, V2, rfl⟩
        go_wp2_with fail
        refine (HN2.out _).mono ?_
        rintro e _ ⟨rfl, V3, rfl⟩
        go_wp2_with fail
        refine (HO1.out V3).mono ?_
        rintro e w6 ⟨C6, c6, rfl, hP6, hb6⟩
        simp only [plv]
        go_upto_region 4 with fail
        obtain ⟨g6, hg6⟩ : ∃ g, g = w6.heap.size := ⟨_, rfl⟩
        obtain ⟨U6, hU6⟩ : ∃ V : Abv W, V.1 = w6.alloc (.cells #[.int .i64 P1.kind, .bool P1.swap, .int .i64 P1.level, .int .i64 P1.alt, .int .i64 P1.node.kind, .int .i64 P1.node.level, .int .i64 P1.node.n, .string P1.node.name, .slice none 0 0, .slice C6 P1.node.to.length (capN P1.node.to.length c6)] 29) := ⟨⟨_, (V3.2.trans (hb6.mono V3.2.size)).alloc (Nat.le_trans V3.2.size hb6.size) _⟩, rfl⟩
        have LP6 := Lib.hid (show Lies U6.1 g6 29 #[.int .i64 P1.kind, .bool P1.swap, .int .i64 P1.level, .int .i64 P1.alt, .int .i64 P1.node.kind, .int .i64 P1.node.level, .int .i64 P1.node.n, .string P1.node.name, .slice none 0 0, .slice C6 P1.node.to.length (capN P1.node.to.length c6)] by rw [hU6, hg6]; exact Lies.new _ _ _)
        have HP6 := Lib.hid (show PlOk U6.1 AnyB P1 C6 by rw [hU6]; exact (hP6.below ((Below.refl _ _).alloc (Nat.le_refl _) _) (Nat.le_refl _)).keep (keep_wide fun _ _ _ => trivial))
        rw [← hU6, ← hg6]
        clear hU6 hg6 hP6 hb6 w6
        go_wp2_with fail
        go_ret
        exact ⟨rfl, HB.out.trans (U6.2.mono HB.out.size)⟩
end Lx
end Go.Proofs.Ytlamjjkcbadibaa
