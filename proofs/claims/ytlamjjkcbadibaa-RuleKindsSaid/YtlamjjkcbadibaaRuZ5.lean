/-
  The law RuleKinds, walked: kinds of plans.
-/
import Derived.Test.YtlamjjkcbadibaaRuN
import Derived.Test.YtlamjjkcbadibaaRuZA
namespace Go.Proofs.Ytlamjjkcbadibaa
open Go Go.RowKit
namespace Lx
set_option maxRecDepth 100000
theorem put6R_keepB {w : World} {X : Nat → Prop} {G : Nat} (hX : ¬ X G) (a b c d e f : Value) : ∀ g j, X g → g < w.heap.size → ((((((w.setCell ⟨G, 0, none⟩ a).setCell ⟨G, 1, none⟩ b).setCell ⟨G, 2, none⟩ c).setCell ⟨G, 3, none⟩ d).setCell ⟨G, 4, none⟩ e).setCell ⟨G, 5, none⟩ f).cell? ⟨g, j, none⟩ = w.cell? ⟨g, j, none⟩ ∧ X g := fun g j hg _ => by
  have hne : g ≠ G := fun e => hX (e ▸ hg)
  refine ⟨?_, hg⟩
  have h1 : ∀ (V : World) (k : Nat) (u : Value), (V.setCell ⟨G, k, none⟩ u).cell? ⟨g, j, none⟩ = V.cell? ⟨g, j, none⟩ := fun V k u => World.cell?_setCell_other V ⟨G, k, none⟩ ⟨g, j, none⟩ u (fun e => by injection e with e; exact hne e.symm)
  rw [h1, h1, h1, h1, h1, h1]
theorem put6R_keepB_drew {w : World} {X : Nat → Prop} {x : Nd} {B C : Option Addr} (h : NdIn w X x B C) : NdIn w.drew X x B C := h.keep (fun _ _ hX _ => ⟨rfl, hX⟩)
set_option maxHeartbeats 16000000 in
theorem ruleKinds_t48 (x y : Nd) (Bx Cx : Option Addr) (bx cx : Nat) (By Cy : Option Addr) (by_ cy : Nat) (w : World) (hI : NdIn w AnyB x Bx Cx) (hJ : NdIn w AnyB y By Cy) (hna : nodeV x = true) (hnb : nodeV y = true) (hE : (ofN x y).2 = 0) (nn : Int) (ns : ByteArray) (hP : (ofN x y).1 = ⟨4, true, 0, 0, ⟨8, y.level, nn, ns, [], [(0, 0)]⟩⟩) (hx : y.kind = 12 ∧ nodeV ⟨8, y.level, nn, ns, [], [(0, 0)]⟩ = true) :
    Calls Try.prog 4 #[ndv x Bx bx Cx cx, ndv y By by_ Cy cy] w fun e w' => e = .returned (.bool true) ∧ Below w.heap.size w w' := by
  obtain ⟨W, hW⟩ : ∃ W, W = ((w.alloc (.cells #[.int .i64 x.kind, .int .i64 x.level, .int .i64 x.n, .string x.name, .slice Bx x.alts.length (capN x.alts.length bx), .slice Cx x.to.length (capN x.to.length cx)] 25)).alloc (.cells #[.int .i64 y.kind, .int .i64 y.level, .int .i64 y.n, .string y.name, .slice By y.alts.length (capN y.alts.length by_), .slice Cy y.to.length (capN y.to.length cy)] 25)) := ⟨_, rfl⟩
  have hbW : Below w.heap.size w W := by rw [hW]; exact (((Below.refl _ w).alloc (Nat.le_refl _) _).alloc (by simp) _)
  have L0 : Lies W (w.heap.size) 25 #[.int .i64 x.kind, .int .i64 x.level, .int .i64 x.n, .string x.name, .slice Bx x.alts.length (capN x.alts.length bx), .slice Cx x.to.length (capN x.to.length cx)] := by
    rw [hW]
    refine Lies.old ?_ _
    exact Lies.new _ _ _
  have L1 : Lies W (w.heap.size + 1) 25 #[.int .i64 y.kind, .int .i64 y.level, .int .i64 y.n, .string y.name, .slice By y.alts.length (capN y.alts.length by_), .slice Cy y.to.length (capN y.to.length cy)] := by
    rw [hW]
    simpa using Lies.new (w.alloc (.cells #[.int .i64 x.kind, .int .i64 x.level, .int .i64 x.n, .string x.name, .slice Bx x.alts.length (capN x.alts.length bx), .slice Cx x.to.length (capN x.to.length cx)] 25)) 25 #[.int .i64 y.kind, .int .i64 y.level, .int .i64 y.n, .string y.name, .slice By y.alts.length (capN y.alts.length by_), .slice Cy y.to.length (capN y.to.length cy)]
  obtain ⟨x0, x1, x2, x3, x4, x5⟩ := six_cells L0
  replace x0 := Abv.cell x0
  replace x1 := Abv.cell x1
  replace x2 := Abv.cell x2
  replace x3 := Abv.cell x3
  replace x4 := Abv.cell x4
  replace x5 := Abv.cell x5
  obtain ⟨y0, y1, y2, y3, y4, y5⟩ := six_cells L1
  replace y0 := Abv.cell y0
  replace y1 := Abv.cell y1
  replace y2 := Abv.cell y2
  replace y3 := Abv.cell y3
  replace y4 := Abv.cell y4
  replace y5 := Abv.cell y5
  have HB := Lib.hid hbW
  have HLX := Lib.hid L0
  have HLY := Lib.hid L1
  clear L0 L1 hbW
  have HFX := Lib.hid (fun V : Abv W => calm_all (fun U => fixed14_any U) V)
  have HIW := Lib.hid (hI.below HB.out (Nat.le_refl _))
  have HJW := Lib.hid (hJ.below HB.out (Nat.le_refl _))
  have hnx := hI.1
  have hny := hJ.1
  clear hI hJ
  have HN1 := Lib.hid (fun V : Abv W => calm_node (b := bx) (c := cx) HIW.out V)
  have HN2 := Lib.hid (fun V : Abv W => calm_node (b := by_) (c := cy) HJW.out V)
  rw [hna] at HN1
  rw [hnb] at HN2
  unfold ndv at HN1 HN2
  have HO1 : Hid (∀ V : Abv W, Calls Try.prog 11 #[.agg #[.int .i64 x.kind, .int .i64 x.level, .int .i64 x.n, .string x.name, .slice Bx x.alts.length (capN x.alts.length bx), .slice Cx x.to.length (capN x.to.length cx)], .agg #[.int .i64 y.kind, .int .i64 y.level, .int .i64 y.n, .string y.name, .slice By y.alts.length (capN y.alts.length by_), .slice Cy y.to.length (capN y.to.length cy)]] V.1 (GivesPl ⟨4, true, 0, 0, ⟨8, y.level, nn, ns, [], [(0, 0)]⟩⟩ 0 V.1)) := Lib.hid fun V => by
    have h := ruof_any x y Bx Cx bx cx By Cy by_ cy V.1 (HIW.out.below V.2 (Nat.le_refl _)) (HJW.out.below V.2 (Nat.le_refl _))
    rw [hP, hE] at h
    exact h
  clear hnx hny hna hnb hE hP
  unfold ndv
  have HXH := Lib.hid hx
  clear hx
  go_enter Try.func4, Try.ntmps4
  go_upto_region 1 with fail
  rw [← hW]
  clear hW
  obtain ⟨V0, hV0⟩ := calm_in W
  rw [← hV0]
  clear hV0
  go_wp2_with fail
  refine (HFX.out _).mono ?_
  rintro e _ ⟨rfl, V1, rfl⟩
  go_wp2_with fail
  refine (HN1.out _).mono ?_
  rintro e _ ⟨rfl, V2, rfl⟩
  go_wp2_with fail
  refine (HN2.out _).mono ?_
  rintro e _ ⟨rfl, V3, rfl⟩
  go_wp2_with fail
  refine (HO1.out V3).mono ?_
  rintro e w6 ⟨C6, c6, rfl, hP6, hb6⟩
  simp only [plv, List.length_singleton]
  go_upto_region 4 with fail
  obtain ⟨g6, hg6⟩ : ∃ g, g = w6.heap.size := ⟨_, rfl⟩
  obtain ⟨U6, hU6⟩ : ∃ V : Abv W, V.1 = w6.alloc (.cells #[.int .i64 4, .bool true, .int .i64 0, .int .i64 0, .int .i64 8, .int .i64 y.level, .int .i64 nn, .string ns, .slice none 0 0, .slice C6 1 (capN 1 c6)] 29) := ⟨⟨_, (V3.2.trans (hb6.mono V3.2.size)).alloc (Nat.le_trans V3.2.size hb6.size) _⟩, rfl⟩
  have LP6 := Lib.hid (show Lies U6.1 g6 29 #[.int .i64 4, .bool true, .int .i64 0, .int .i64 0, .int .i64 8, .int .i64 y.level, .int .i64 nn, .string ns, .slice none 0 0, .slice C6 1 (capN 1 c6)] by rw [hU6, hg6]; exact Lies.new _ _ _)
  have HP6 := Lib.hid (show PlOk U6.1 AnyB ⟨4, true, 0, 0, ⟨8, y.level, nn, ns, [], [(0, 0)]⟩⟩ C6 by rw [hU6]; exact (hP6.below ((Below.refl _ _).alloc (Nat.le_refl _) _) (Nat.le_refl _)).keep (keep_wide fun _ _ _ => trivial))
  rw [← hU6, ← hg6]
  clear hU6 hg6 hP6 hb6 w6
  clear V1 V2 V3 HN1 HN2 HO1 HFX
  replace x0 := x0 U6
  replace x1 := x1 U6
  replace x2 := x2 U6
  replace x3 := x3 U6
  replace x4 := x4 U6
  replace x5 := x5 U6
  replace y0 := y0 U6
  replace y1 := y1 U6
  replace y2 := y2 U6
  replace y3 := y3 U6
  replace y4 := y4 U6
  replace y5 := y5 U6
  obtain ⟨W5, hW5⟩ : ∃ W5, W5 = U6.1 := ⟨_, rfl⟩
  have HB5 := Lib.hid (show Below w.heap.size w W5 by rw [hW5]; exact HB.out.trans (U6.2.mono HB.out.size))
  have lp5 : Lies W5 g6 29 #[.int .i64 4, .bool true, .int .i64 0, .int .i64 0, .int .i64 8, .int .i64 y.level, .int .i64 nn, .string ns, .slice none 0 0, .slice C6 1 (capN 1 c6)] := by rw [hW5]; exact LP6.out
  have hp5 : PlOk W5 AnyB ⟨4, true, 0, 0, ⟨8, y.level, nn, ns, [], [(0, 0)]⟩⟩ C6 := by rw [hW5]; exact HP6.out
  rw [← hW5] at x0 x1 x2 x3 x4 x5 y0 y1 y2 y3 y4 y5 ⊢
  have LX5 := Lib.hid (show Lies W5 (w.heap.size) 25 #[.int .i64 x.kind, .int .i64 x.level, .int .i64 x.n, .string x.name, .slice Bx x.alts.length (capN x.alts.length bx), .slice Cx x.to.length (capN x.to.length cx)] by rw [hW5]; exact HLX.out.below U6.2 HLX.out.lt)
  have LY5 := Lib.hid (show Lies W5 (w.heap.size + 1) 25 #[.int .i64 y.kind, .int .i64 y.level, .int .i64 y.n, .string y.name, .slice By y.alts.length (capN y.alts.length by_), .slice Cy y.to.length (capN y.to.length cy)] by rw [hW5]; exact HLY.out.below U6.2 HLY.out.lt)
  clear hW5 LP6 HP6 U6
  obtain ⟨p0, p1, p2, p3, p4, p5, p6, p7, p8, p9⟩ := ten_cells lp5
  have zax0 : ∀ o, (W5.alloc o).cell? ⟨w.heap.size, 0, none⟩ = some (.int .i64 x.kind) := fun o => (((Below.refl _ W5).alloc (Nat.le_refl _) o).cell (p := ⟨w.heap.size, 0, none⟩) (ncell_lt x0)).trans x0
  have zbx0 : ∀ o o', ((W5.alloc o).alloc o').cell? ⟨w.heap.size, 0, none⟩ = some (.int .i64 x.kind) := fun o o' => ((((Below.refl _ W5).alloc (Nat.le_refl _) o).alloc (by simp) o').cell (p := ⟨w.heap.size, 0, none⟩) (ncell_lt x0)).trans x0
  have zax1 : ∀ o, (W5.alloc o).cell? ⟨w.heap.size, 1, none⟩ = some (.int .i64 x.level) := fun o => (((Below.refl _ W5).alloc (Nat.le_refl _) o).cell (p := ⟨w.heap.size, 1, none⟩) (ncell_lt x1)).trans x1
  have zbx1 : ∀ o o', ((W5.alloc o).alloc o').cell? ⟨w.heap.size, 1, none⟩ = some (.int .i64 x.level) := fun o o' => ((((Below.refl _ W5).alloc (Nat.le_refl _) o).alloc (by simp) o').cell (p := ⟨w.heap.size, 1, none⟩) (ncell_lt x1)).trans x1
  have zax2 : ∀ o, (W5.alloc o).cell? ⟨w.heap.size, 2, none⟩ = some (.int .i64 x.n) := fun o => (((Below.refl _ W5).alloc (Nat.le_refl _) o).cell (p := ⟨w.heap.size, 2, none⟩) (ncell_lt x2)).trans x2
  have zbx2 : ∀ o o', ((W5.alloc o).alloc o').cell? ⟨w.heap.size, 2, none⟩ = some (.int .i64 x.n) := fun o o' => ((((Below.refl _ W5).alloc (Nat.le_refl _) o).alloc (by simp) o').cell (p := ⟨w.heap.size, 2, none⟩) (ncell_lt x2)).trans x2
  have zax3 : ∀ o, (W5.alloc o).cell? ⟨w.heap.size, 3, none⟩ = some (.string x.name) := fun o => (((Below.refl _ W5).alloc (Nat.le_refl _) o).cell (p := ⟨w.heap.size, 3, none⟩) (ncell_lt x3)).trans x3
  have zbx3 : ∀ o o', ((W5.alloc o).alloc o').cell? ⟨w.heap.size, 3, none⟩ = some (.string x.name) := fun o o' => ((((Below.refl _ W5).alloc (Nat.le_refl _) o).alloc (by simp) o').cell (p := ⟨w.heap.size, 3, none⟩) (ncell_lt x3)).trans x3
  have zax4 : ∀ o, (W5.alloc o).cell? ⟨w.heap.size, 4, none⟩ = some (.slice Bx x.alts.length (capN x.alts.length bx)) := fun o => (((Below.refl _ W5).alloc (Nat.le_refl _) o).cell (p := ⟨w.heap.size, 4, none⟩) (ncell_lt x4)).trans x4
  have zbx4 : ∀ o o', ((W5.alloc o).alloc o').cell? ⟨w.heap.size, 4, none⟩ = some (.slice Bx x.alts.length (capN x.alts.length bx)) := fun o o' => ((((Below.refl _ W5).alloc (Nat.le_refl _) o).alloc (by simp) o').cell (p := ⟨w.heap.size, 4, none⟩) (ncell_lt x4)).trans x4
  have zax5 : ∀ o, (W5.alloc o).cell? ⟨w.heap.size, 5, none⟩ = some (.slice Cx x.to.length (capN x.to.length cx)) := fun o => (((Below.refl _ W5).alloc (Nat.le_refl _) o).cell (p := ⟨w.heap.size, 5, none⟩) (ncell_lt x5)).trans x5
  have zbx5 : ∀ o o', ((W5.alloc o).alloc o').cell? ⟨w.heap.size, 5, none⟩ = some (.slice Cx x.to.length (capN x.to.length cx)) := fun o o' => ((((Below.refl _ W5).alloc (Nat.le_refl _) o).alloc (by simp) o').cell (p := ⟨w.heap.size, 5, none⟩) (ncell_lt x5)).trans x5
  have zay0 : ∀ o, (W5.alloc o).cell? ⟨w.heap.size + 1, 0, none⟩ = some (.int .i64 y.kind) := fun o => (((Below.refl _ W5).alloc (Nat.le_refl _) o).cell (p := ⟨w.heap.size + 1, 0, none⟩) (ncell_lt y0)).trans y0
  have zby0 : ∀ o o', ((W5.alloc o).alloc o').cell? ⟨w.heap.size + 1, 0, none⟩ = some (.int .i64 y.kind) := fun o o' => ((((Below.refl _ W5).alloc (Nat.le_refl _) o).alloc (by simp) o').cell (p := ⟨w.heap.size + 1, 0, none⟩) (ncell_lt y0)).trans y0
  have zay1 : ∀ o, (W5.alloc o).cell? ⟨w.heap.size + 1, 1, none⟩ = some (.int .i64 y.level) := fun o => (((Below.refl _ W5).alloc (Nat.le_refl _) o).cell (p := ⟨w.heap.size + 1, 1, none⟩) (ncell_lt y1)).trans y1
  have zby1 : ∀ o o', ((W5.alloc o).alloc o').cell? ⟨w.heap.size + 1, 1, none⟩ = some (.int .i64 y.level) := fun o o' => ((((Below.refl _ W5).alloc (Nat.le_refl _) o).alloc (by simp) o').cell (p := ⟨w.heap.size + 1, 1, none⟩) (ncell_lt y1)).trans y1
  have zay2 : ∀ o, (W5.alloc o).cell? ⟨w.heap.size + 1, 2, none⟩ = some (.int .i64 y.n) := fun o => (((Below.refl _ W5).alloc (Nat.le_refl _) o).cell (p := ⟨w.heap.size + 1, 2, none⟩) (ncell_lt y2)).trans y2
  have zby2 : ∀ o o', ((W5.alloc o).alloc o').cell? ⟨w.heap.size + 1, 2, none⟩ = some (.int .i64 y.n) := fun o o' => ((((Below.refl _ W5).alloc (Nat.le_refl _) o).alloc (by simp) o').cell (p := ⟨w.heap.size + 1, 2, none⟩) (ncell_lt y2)).trans y2
  have zay3 : ∀ o, (W5.alloc o).cell? ⟨w.heap.size + 1, 3, none⟩ = some (.string y.name) := fun o => (((Below.refl _ W5).alloc (Nat.le_refl _) o).cell (p := ⟨w.heap.size + 1, 3, none⟩) (ncell_lt y3)).trans y3
  have zby3 : ∀ o o', ((W5.alloc o).alloc o').cell? ⟨w.heap.size + 1, 3, none⟩ = some (.string y.name) := fun o o' => ((((Below.refl _ W5).alloc (Nat.le_refl _) o).alloc (by simp) o').cell (p := ⟨w.heap.size + 1, 3, none⟩) (ncell_lt y3)).trans y3
  have zay4 : ∀ o, (W5.alloc o).cell? ⟨w.heap.size + 1, 4, none⟩ = some (.slice By y.alts.length (capN y.alts.length by_)) := fun o => (((Below.refl _ W5).alloc (Nat.le_refl _) o).cell (p := ⟨w.heap.size + 1, 4, none⟩) (ncell_lt y4)).trans y4
  have zby4 : ∀ o o', ((W5.alloc o).alloc o').cell? ⟨w.heap.size + 1, 4, none⟩ = some (.slice By y.alts.length (capN y.alts.length by_)) := fun o o' => ((((Below.refl _ W5).alloc (Nat.le_refl _) o).alloc (by simp) o').cell (p := ⟨w.heap.size + 1, 4, none⟩) (ncell_lt y4)).trans y4
  have zay5 : ∀ o, (W5.alloc o).cell? ⟨w.heap.size + 1, 5, none⟩ = some (.slice Cy y.to.length (capN y.to.length cy)) := fun o => (((Below.refl _ W5).alloc (Nat.le_refl _) o).cell (p := ⟨w.heap.size + 1, 5, none⟩) (ncell_lt y5)).trans y5
  have zby5 : ∀ o o', ((W5.alloc o).alloc o').cell? ⟨w.heap.size + 1, 5, none⟩ = some (.slice Cy y.to.length (capN y.to.length cy)) := fun o o' => ((((Below.refl _ W5).alloc (Nat.le_refl _) o).alloc (by simp) o').cell (p := ⟨w.heap.size + 1, 5, none⟩) (ncell_lt y5)).trans y5
  go_upto_region 6 with fail
  go_region
  · obtain ⟨W6, hW6⟩ : ∃ W6, W6 = ((W5.alloc (.cells #[.int .i64 x.kind, .int .i64 x.level, .int .i64 x.n, .string x.name, .slice Bx x.alts.length (capN x.alts.length bx), .slice Cx x.to.length (capN x.to.length cx)] 25)).alloc (.cells #[.int .i64 y.kind, .int .i64 y.level, .int .i64 y.n, .string y.name, .slice By y.alts.length (capN y.alts.length by_), .slice Cy y.to.length (capN y.to.length cy)] 25)).drew := ⟨_, rfl⟩
    have LA : Lies W6 W5.heap.size 25 #[.int .i64 x.kind, .int .i64 x.level, .int .i64 x.n, .string x.name, .slice Bx x.alts.length (capN x.alts.length bx), .slice Cx x.to.length (capN x.to.length cx)] := by rw [hW6]; exact ((Lies.new _ _ _).old _).drew
    have LB : Lies W6 (W5.heap.size + 1) 25 #[.int .i64 y.kind, .int .i64 y.level, .int .i64 y.n, .string y.name, .slice By y.alts.length (capN y.alts.length by_), .slice Cy y.to.length (capN y.to.length cy)] := by
      rw [hW6]
      refine Lies.drew ?_
      simpa using Lies.new (W5.alloc (.cells #[.int .i64 x.kind, .int .i64 x.level, .int .i64 x.n, .string x.name, .slice Bx x.alts.length (capN x.alts.length bx), .slice Cx x.to.length (capN x.to.length cx)] 25)) 25 #[.int .i64 y.kind, .int .i64 y.level, .int .i64 y.n, .string y.name, .slice By y.alts.length (capN y.alts.length by_), .slice Cy y.to.length (capN y.to.length cy)]
    have hb6 : Below W5.heap.size W5 W6 := by rw [hW6]; exact (((Below.refl _ _).alloc (Nat.le_refl _) _).alloc (by simp) _).drew
    obtain ⟨gs, hgs⟩ : ∃ g, g = W5.heap.size + 1 := ⟨_, rfl⟩
    obtain ⟨gf, hgf⟩ : ∃ g, g = W5.heap.size := ⟨_, rfl⟩
    rw [← hgf] at LA
    rw [← hgs] at LB
    rw [← hW6, ← hgs, ← hgf]
    have hgg : gf ≠ gs := by omega
    have hg6 : g6 < gf ∧ g6 < gs := by have := lp5.lt; omega
    have hgW5 : W5.heap.size ≤ gf ∧ W5.heap.size ≤ gs := by omega
    clear hW6 hgs hgf zax0 zbx0 x0 zax1 zbx1 x1 zax2 zbx2 x2 zax3 zbx3 x3 zax4 zbx4 x4 zax5 zbx5 x5 zay0 zby0 y0 zay1 zby1 y1 zay2 zby2 y2 zay3 zby3 y3 zay4 zby4 y4 zay5 zby5 y5 p0 p1 p2 p3 p4 p5 p6 p7 p8 p9
    have lp6 := lp5.below hb6 lp5.lt
    have hp6 := hp5.below hb6 (Nat.le_refl _)
    have hx6 := HB5.out.trans (hb6.mono HB5.out.size)
    obtain ⟨a0, a1, a2, a3, a4, a5⟩ := six_cells LA
    obtain ⟨b0, b1, b2, b3, b4, b5⟩ := six_cells LB
    obtain ⟨x0, x1, x2, x3, x4, x5⟩ := six_cells (LX5.out.below hb6 LX5.out.lt)
    obtain ⟨y0, y1, y2, y3, y4, y5⟩ := six_cells (LY5.out.below hb6 LY5.out.lt)
    obtain ⟨p0, p1, p2, p3, p4, p5, p6, p7, p8, p9⟩ := ten_cells lp6
    obtain ⟨f0, f1, f2, f3, f4, f5⟩ := six_frozen LA
    obtain ⟨h0, h1, h2, h3, h4, h5⟩ := six_frozen LB
    have hnx : w.heap.size ≠ gf ∧ w.heap.size ≠ gs ∧ w.heap.size + 1 ≠ gf ∧ w.heap.size + 1 ≠ gs := by have := LX5.out.lt; have := LY5.out.lt; omega
    have HLA := Lib.hid LA
    have HLB := Lib.hid LB
    have HLP := Lib.hid lp6
    have HPP := Lib.hid hp6
    have HX6 := Lib.hid hx6
    have HGG := Lib.hid hgg
    have HG6 := Lib.hid hg6
    have HGW := Lib.hid (show w.heap.size ≤ gf ∧ w.heap.size ≤ gs by have := LY5.out.lt; have := lp5.lt; have := hx6.size; omega)
    have HPN5 : Hid (NdIn W6 (fun g => g < W5.heap.size) ⟨8, y.level, nn, ns, [], [(0, 0)]⟩ none C6) := Lib.hid (hp5.2.keep (fun g j _ hlt => ⟨hb6.cell (p := ⟨g, j, none⟩) hlt, hlt⟩))
    have HG5 := Lib.hid hgW5
    clear LA LB lp6 hp6 hx6 hgg hg6 lp5 hp5 hb6 HB5 LX5 LY5
    have hg1 : ¬ gf = gs := HGG.out
    have hg2 : ¬ gs = gf := fun e => HGG.out e.symm
    go_upto_region 8 with fail
    go_region
    clear hg1 hg2
    obtain ⟨W7, hW7⟩ : ∃ V, V = ((((((((((((W6.setCell ⟨gf, 0, none⟩ (.int .i64 y.kind)).setCell ⟨gf, 1, none⟩ (.int .i64 y.level)).setCell ⟨gf, 2, none⟩ (.int .i64 y.n)).setCell ⟨gf, 3, none⟩ (.string y.name)).setCell ⟨gf, 4, none⟩ (.slice By y.alts.length (capN y.alts.length by_))).setCell ⟨gf, 5, none⟩ (.slice Cy y.to.length (capN y.to.length cy))).setCell ⟨gs, 0, none⟩ (.int .i64 x.kind)).setCell ⟨gs, 1, none⟩ (.int .i64 x.level)).setCell ⟨gs, 2, none⟩ (.int .i64 x.n)).setCell ⟨gs, 3, none⟩ (.string x.name)).setCell ⟨gs, 4, none⟩ (.slice Bx x.alts.length (capN x.alts.length bx))).setCell ⟨gs, 5, none⟩ (.slice Cx x.to.length (capN x.to.length cx))).drew := ⟨_, rfl⟩
    have LA : Lies W7 gf 25 #[.int .i64 y.kind, .int .i64 y.level, .int .i64 y.n, .string y.name, .slice By y.alts.length (capN y.alts.length by_), .slice Cy y.to.length (capN y.to.length cy)] := by rw [hW7]; exact (put6R_far (lies_put6R HLA.out _ _ _ _ _ _) (by have := HGG.out; omega) _ _ _ _ _ _).drew
    have LB : Lies W7 gs 25 #[.int .i64 x.kind, .int .i64 x.level, .int .i64 x.n, .string x.name, .slice Bx x.alts.length (capN x.alts.length bx), .slice Cx x.to.length (capN x.to.length cx)] := by rw [hW7]; exact (lies_put6R (put6R_far HLB.out (by have := HGG.out; omega) _ _ _ _ _ _) _ _ _ _ _ _).drew
    have lp6 := (put6R_far (put6R_far HLP.out (G := gf) (by have := HG6.out; omega) (.int .i64 y.kind) (.int .i64 y.level) (.int .i64 y.n) (.string y.name) (.slice By y.alts.length (capN y.alts.length by_)) (.slice Cy y.to.length (capN y.to.length cy))) (G := gs) (by have := HG6.out; omega) (.int .i64 x.kind) (.int .i64 x.level) (.int .i64 x.n) (.string x.name) (.slice Bx x.alts.length (capN x.alts.length bx)) (.slice Cx x.to.length (capN x.to.length cx))).drew
    rw [← hW7] at lp6
    have hx6 : Below w.heap.size w W7 := by rw [hW7]; exact (put6R_below (put6R_below HX6.out (by have := HGW.out; omega) _ _ _ _ _ _) (by have := HGW.out; omega) _ _ _ _ _ _).drew
    have hk1 := HPN5.out.keep (put6R_keepB (w := W6) (X := fun g => g < W5.heap.size) (G := gf) (by show ¬ gf < W5.heap.size; have := HG5.out; omega) (.int .i64 y.kind) (.int .i64 y.level) (.int .i64 y.n) (.string y.name) (.slice By y.alts.length (capN y.alts.length by_)) (.slice Cy y.to.length (capN y.to.length cy)))
    have hk2 := hk1.keep (put6R_keepB (X := fun g => g < W5.heap.size) (G := gs) (by show ¬ gs < W5.heap.size; have := HG5.out; omega) (.int .i64 x.kind) (.int .i64 x.level) (.int .i64 x.n) (.string x.name) (.slice Bx x.alts.length (capN x.alts.length bx)) (.slice Cx x.to.length (capN x.to.length cx)))
    have hk3 : NdIn W7 (fun g => g < W5.heap.size) ⟨8, y.level, nn, ns, [], [(0, 0)]⟩ none C6 := by rw [hW7]; exact put6R_keepB_drew hk2
    replace hk3 := hk3.any
    have HPN := Lib.hid hk3
    clear hk1 hk2 hk3
    rw [← hW7]
    clear hW7 HLA HLB HLP HX6 x0 x1 x2 x3 x4 x5 y0 y1 y2 y3 y4 y5 a0 a1 a2 a3 a4 a5 b0 b1 b2 b3 b4 b5 f0 f1 f2 f3 f4 f5 h0 h1 h2 h3 h4 h5 p0 p1 p2 p3 p4 p5 p6 p7 p8 p9
    obtain ⟨a0, a1, a2, a3, a4, a5⟩ := six_cells LA
    obtain ⟨b0, b1, b2, b3, b4, b5⟩ := six_cells LB
    obtain ⟨p0, p1, p2, p3, p4, p5, p6, p7, p8, p9⟩ := ten_cells lp6
    replace a0 := Abv.cell a0
    replace a1 := Abv.cell a1
    replace a2 := Abv.cell a2
    replace a3 := Abv.cell a3
    replace a4 := Abv.cell a4
    replace a5 := Abv.cell a5
    replace b0 := Abv.cell b0
    replace b1 := Abv.cell b1
    replace b2 := Abv.cell b2
    replace b3 := Abv.cell b3
    replace b4 := Abv.cell b4
    replace b5 := Abv.cell b5
    replace p0 := Abv.cell p0
    replace p1 := Abv.cell p1
    replace p2 := Abv.cell p2
    replace p3 := Abv.cell p3
    replace p4 := Abv.cell p4
    replace p5 := Abv.cell p5
    replace p6 := Abv.cell p6
    replace p7 := Abv.cell p7
    replace p8 := Abv.cell p8
    replace p9 := Abv.cell p9
    have HX7 := Lib.hid hx6
    clear LA LB lp6 hx6
    obtain ⟨V0, hV0⟩ := calm_in W7
    rw [← hV0]
    clear hV0
    have HC : Hid (∀ V : Abv W7, Calls Try.prog 14 #[.agg #[.int .i64 8, .int .i64 y.level, .int .i64 nn, .string ns, .slice none 0 0, .slice C6 1 (capN 1 c6)]] V.1 fun e w' => e = .returned (.bool true) ∧ ∃ V' : Abv W7, w' = V'.1) := Lib.hid fun V => by
      have hx := HXH.out
      have h9 := calm_node (x := ⟨8, y.level, nn, ns, [], [(0, 0)]⟩) (B := none) (C := C6) (b := 0) (c := c6) HPN.out V
      rw [hx.2] at h9
      exact h9
    have hx := HXH.out
    have k1 : (y.kind == 12) = true := by simpa using hx.1
    clear hx
    go_upto_region 17 with fail
    refine region_calm_in (by kernel_rfl) (by kernel_rfl) ?_
    go_big_quiet_step (fail)
    go_big_quiet_step (fail)
    go_big_quiet_step (fail)
    go_big_quiet_step (fail)
    go_big_quiet_step (fail)
    go_big_quiet_step (fail)
    go_big_quiet_step (fail)
    go_big_quiet_step (fail)
    go_big_quiet_step (fail)
    go_big_quiet_step (fail)
    go_big_quiet_step (fail)
    go_big_quiet_step (fail)
    go_big_quiet_step (fail)
    go_big_quiet_step (fail)
    go_big_quiet_step (exact HC.out _)
    go_big_quiet_step (fail)
    go_big_quiet_step (fail)
    go_big_quiet_step (fail)
    go_big_quiet_step (fail)
    go_big_quiet_step (fail)
    go_big_quiet_step (fail)
    go_big_quiet_step (fail)
    go_big_quiet_step (fail)
    go_big_quiet_step (fail)
    go_big_quiet_step (fail)
    go_big_quiet_step (fail)
    go_big_quiet_step (fail)
    go_big_quiet_step (fail)
    go_big_quiet_step (fail)
    refine wpQuiet_nil ?_
    rintro _ ⟨V9, rfl⟩
    go_wp2_with fail
    go_ret
    exact ⟨rfl, HX7.out.trans (V9.2.mono HX7.out.size)⟩
  · obtain ⟨W6, hW6⟩ : ∃ W6, W6 = ((W5.alloc (.cells #[.int .i64 y.kind, .int .i64 y.level, .int .i64 y.n, .string y.name, .slice By y.alts.length (capN y.alts.length by_), .slice Cy y.to.length (capN y.to.length cy)] 25)).alloc (.cells #[.int .i64 x.kind, .int .i64 x.level, .int .i64 x.n, .string x.name, .slice Bx x.alts.length (capN x.alts.length bx), .slice Cx x.to.length (capN x.to.length cx)] 25)).drew := ⟨_, rfl⟩
    have LB : Lies W6 W5.heap.size 25 #[.int .i64 y.kind, .int .i64 y.level, .int .i64 y.n, .string y.name, .slice By y.alts.length (capN y.alts.length by_), .slice Cy y.to.length (capN y.to.length cy)] := by rw [hW6]; exact ((Lies.new _ _ _).old _).drew
    have LA : Lies W6 (W5.heap.size + 1) 25 #[.int .i64 x.kind, .int .i64 x.level, .int .i64 x.n, .string x.name, .slice Bx x.alts.length (capN x.alts.length bx), .slice Cx x.to.length (capN x.to.length cx)] := by
      rw [hW6]
      refine Lies.drew ?_
      simpa using Lies.new (W5.alloc (.cells #[.int .i64 y.kind, .int .i64 y.level, .int .i64 y.n, .string y.name, .slice By y.alts.length (capN y.alts.length by_), .slice Cy y.to.length (capN y.to.length cy)] 25)) 25 #[.int .i64 x.kind, .int .i64 x.level, .int .i64 x.n, .string x.name, .slice Bx x.alts.length (capN x.alts.length bx), .slice Cx x.to.length (capN x.to.length cx)]
    have hb6 : Below W5.heap.size W5 W6 := by rw [hW6]; exact (((Below.refl _ _).alloc (Nat.le_refl _) _).alloc (by simp) _).drew
    obtain ⟨gs, hgs⟩ : ∃ g, g = W5.heap.size + 1 := ⟨_, rfl⟩
    obtain ⟨gf, hgf⟩ : ∃ g, g = W5.heap.size := ⟨_, rfl⟩
    rw [← hgf] at LB
    rw [← hgs] at LA
    rw [← hW6, ← hgs, ← hgf]
    have hgg : gf ≠ gs := by omega
    have hg6 : g6 < gf ∧ g6 < gs := by have := lp5.lt; omega
    have hgW5 : W5.heap.size ≤ gf ∧ W5.heap.size ≤ gs := by omega
    clear hW6 hgs hgf zax0 zbx0 x0 zax1 zbx1 x1 zax2 zbx2 x2 zax3 zbx3 x3 zax4 zbx4 x4 zax5 zbx5 x5 zay0 zby0 y0 zay1 zby1 y1 zay2 zby2 y2 zay3 zby3 y3 zay4 zby4 y4 zay5 zby5 y5 p0 p1 p2 p3 p4 p5 p6 p7 p8 p9
    have lp6 := lp5.below hb6 lp5.lt
    have hp6 := hp5.below hb6 (Nat.le_refl _)
    have hx6 := HB5.out.trans (hb6.mono HB5.out.size)
    obtain ⟨a0, a1, a2, a3, a4, a5⟩ := six_cells LA
    obtain ⟨b0, b1, b2, b3, b4, b5⟩ := six_cells LB
    obtain ⟨x0, x1, x2, x3, x4, x5⟩ := six_cells (LX5.out.below hb6 LX5.out.lt)
    obtain ⟨y0, y1, y2, y3, y4, y5⟩ := six_cells (LY5.out.below hb6 LY5.out.lt)
    obtain ⟨p0, p1, p2, p3, p4, p5, p6, p7, p8, p9⟩ := ten_cells lp6
    obtain ⟨f0, f1, f2, f3, f4, f5⟩ := six_frozen LA
    obtain ⟨h0, h1, h2, h3, h4, h5⟩ := six_frozen LB
    have hnx : w.heap.size ≠ gf ∧ w.heap.size ≠ gs ∧ w.heap.size + 1 ≠ gf ∧ w.heap.size + 1 ≠ gs := by have := LX5.out.lt; have := LY5.out.lt; omega
    have HLA := Lib.hid LA
    have HLB := Lib.hid LB
    have HLP := Lib.hid lp6
    have HPP := Lib.hid hp6
    have HX6 := Lib.hid hx6
    have HGG := Lib.hid hgg
    have HG6 := Lib.hid hg6
    have HGW := Lib.hid (show w.heap.size ≤ gf ∧ w.heap.size ≤ gs by have := LY5.out.lt; have := lp5.lt; have := hx6.size; omega)
    have HPN5 : Hid (NdIn W6 (fun g => g < W5.heap.size) ⟨8, y.level, nn, ns, [], [(0, 0)]⟩ none C6) := Lib.hid (hp5.2.keep (fun g j _ hlt => ⟨hb6.cell (p := ⟨g, j, none⟩) hlt, hlt⟩))
    have HG5 := Lib.hid hgW5
    clear LA LB lp6 hp6 hx6 hgg hg6 lp5 hp5 hb6 HB5 LX5 LY5
    have hg1 : ¬ gf = gs := HGG.out
    have hg2 : ¬ gs = gf := fun e => HGG.out e.symm
    go_upto_region 8 with fail
    go_region
    clear hg1 hg2
    obtain ⟨W7, hW7⟩ : ∃ V, V = ((((((((((((W6.setCell ⟨gs, 0, none⟩ (.int .i64 y.kind)).setCell ⟨gs, 1, none⟩ (.int .i64 y.level)).setCell ⟨gs, 2, none⟩ (.int .i64 y.n)).setCell ⟨gs, 3, none⟩ (.string y.name)).setCell ⟨gs, 4, none⟩ (.slice By y.alts.length (capN y.alts.length by_))).setCell ⟨gs, 5, none⟩ (.slice Cy y.to.length (capN y.to.length cy))).setCell ⟨gf, 0, none⟩ (.int .i64 x.kind)).setCell ⟨gf, 1, none⟩ (.int .i64 x.level)).setCell ⟨gf, 2, none⟩ (.int .i64 x.n)).setCell ⟨gf, 3, none⟩ (.string x.name)).setCell ⟨gf, 4, none⟩ (.slice Bx x.alts.length (capN x.alts.length bx))).setCell ⟨gf, 5, none⟩ (.slice Cx x.to.length (capN x.to.length cx))).drew := ⟨_, rfl⟩
    have LA : Lies W7 gs 25 #[.int .i64 y.kind, .int .i64 y.level, .int .i64 y.n, .string y.name, .slice By y.alts.length (capN y.alts.length by_), .slice Cy y.to.length (capN y.to.length cy)] := by rw [hW7]; exact (put6R_far (lies_put6R HLA.out _ _ _ _ _ _) (by have := HGG.out; omega) _ _ _ _ _ _).drew
    have LB : Lies W7 gf 25 #[.int .i64 x.kind, .int .i64 x.level, .int .i64 x.n, .string x.name, .slice Bx x.alts.length (capN x.alts.length bx), .slice Cx x.to.length (capN x.to.length cx)] := by rw [hW7]; exact (lies_put6R (put6R_far HLB.out (by have := HGG.out; omega) _ _ _ _ _ _) _ _ _ _ _ _).drew
    have lp6 := (put6R_far (put6R_far HLP.out (G := gs) (by have := HG6.out; omega) (.int .i64 y.kind) (.int .i64 y.level) (.int .i64 y.n) (.string y.name) (.slice By y.alts.length (capN y.alts.length by_)) (.slice Cy y.to.length (capN y.to.length cy))) (G := gf) (by have := HG6.out; omega) (.int .i64 x.kind) (.int .i64 x.level) (.int .i64 x.n) (.string x.name) (.slice Bx x.alts.length (capN x.alts.length bx)) (.slice Cx x.to.length (capN x.to.length cx))).drew
    rw [← hW7] at lp6
    have hx6 : Below w.heap.size w W7 := by rw [hW7]; exact (put6R_below (put6R_below HX6.out (by have := HGW.out; omega) _ _ _ _ _ _) (by have := HGW.out; omega) _ _ _ _ _ _).drew
    have hk1 := HPN5.out.keep (put6R_keepB (w := W6) (X := fun g => g < W5.heap.size) (G := gs) (by show ¬ gs < W5.heap.size; have := HG5.out; omega) (.int .i64 y.kind) (.int .i64 y.level) (.int .i64 y.n) (.string y.name) (.slice By y.alts.length (capN y.alts.length by_)) (.slice Cy y.to.length (capN y.to.length cy)))
    have hk2 := hk1.keep (put6R_keepB (X := fun g => g < W5.heap.size) (G := gf) (by show ¬ gf < W5.heap.size; have := HG5.out; omega) (.int .i64 x.kind) (.int .i64 x.level) (.int .i64 x.n) (.string x.name) (.slice Bx x.alts.length (capN x.alts.length bx)) (.slice Cx x.to.length (capN x.to.length cx)))
    have hk3 : NdIn W7 (fun g => g < W5.heap.size) ⟨8, y.level, nn, ns, [], [(0, 0)]⟩ none C6 := by rw [hW7]; exact put6R_keepB_drew hk2
    replace hk3 := hk3.any
    have HPN := Lib.hid hk3
    clear hk1 hk2 hk3
    rw [← hW7]
    clear hW7 HLA HLB HLP HX6 x0 x1 x2 x3 x4 x5 y0 y1 y2 y3 y4 y5 a0 a1 a2 a3 a4 a5 b0 b1 b2 b3 b4 b5 f0 f1 f2 f3 f4 f5 h0 h1 h2 h3 h4 h5 p0 p1 p2 p3 p4 p5 p6 p7 p8 p9
    obtain ⟨a0, a1, a2, a3, a4, a5⟩ := six_cells LA
    obtain ⟨b0, b1, b2, b3, b4, b5⟩ := six_cells LB
    obtain ⟨p0, p1, p2, p3, p4, p5, p6, p7, p8, p9⟩ := ten_cells lp6
    replace a0 := Abv.cell a0
    replace a1 := Abv.cell a1
    replace a2 := Abv.cell a2
    replace a3 := Abv.cell a3
    replace a4 := Abv.cell a4
    replace a5 := Abv.cell a5
    replace b0 := Abv.cell b0
    replace b1 := Abv.cell b1
    replace b2 := Abv.cell b2
    replace b3 := Abv.cell b3
    replace b4 := Abv.cell b4
    replace b5 := Abv.cell b5
    replace p0 := Abv.cell p0
    replace p1 := Abv.cell p1
    replace p2 := Abv.cell p2
    replace p3 := Abv.cell p3
    replace p4 := Abv.cell p4
    replace p5 := Abv.cell p5
    replace p6 := Abv.cell p6
    replace p7 := Abv.cell p7
    replace p8 := Abv.cell p8
    replace p9 := Abv.cell p9
    have HX7 := Lib.hid hx6
    clear LA LB lp6 hx6
    obtain ⟨V0, hV0⟩ := calm_in W7
    rw [← hV0]
    clear hV0
    have HC : Hid (∀ V : Abv W7, Calls Try.prog 14 #[.agg #[.int .i64 8, .int .i64 y.level, .int .i64 nn, .string ns, .slice none 0 0, .slice C6 1 (capN 1 c6)]] V.1 fun e w' => e = .returned (.bool true) ∧ ∃ V' : Abv W7, w' = V'.1) := Lib.hid fun V => by
      have hx := HXH.out
      have h9 := calm_node (x := ⟨8, y.level, nn, ns, [], [(0, 0)]⟩) (B := none) (C := C6) (b := 0) (c := c6) HPN.out V
      rw [hx.2] at h9
      exact h9
    have hx := HXH.out
    have k1 : (y.kind == 12) = true := by simpa using hx.1
    clear hx
    go_upto_region 17 with fail
    refine region_calm_in (by kernel_rfl) (by kernel_rfl) ?_
    go_big_quiet_step (fail)
    go_big_quiet_step (fail)
    go_big_quiet_step (fail)
    go_big_quiet_step (fail)
    go_big_quiet_step (fail)
    go_big_quiet_step (fail)
    go_big_quiet_step (fail)
    go_big_quiet_step (fail)
    go_big_quiet_step (fail)
    go_big_quiet_step (fail)
    go_big_quiet_step (fail)
    go_big_quiet_step (fail)
    go_big_quiet_step (fail)
    go_big_quiet_step (fail)
    go_big_quiet_step (exact HC.out _)
    go_big_quiet_step (fail)
    go_big_quiet_step (fail)
    go_big_quiet_step (fail)
    go_big_quiet_step (fail)
    go_big_quiet_step (fail)
    go_big_quiet_step (fail)
    go_big_quiet_step (fail)
    go_big_quiet_step (fail)
    go_big_quiet_step (fail)
    go_big_quiet_step (fail)
    go_big_quiet_step (fail)
    go_big_quiet_step (fail)
    go_big_quiet_step (fail)
    go_big_quiet_step (fail)
    refine wpQuiet_nil ?_
    rintro _ ⟨V9, rfl⟩
    go_wp2_with fail
    go_ret
    exact ⟨rfl, HX7.out.trans (V9.2.mono HX7.out.size)⟩
end Lx
end Go.Proofs.Ytlamjjkcbadibaa
