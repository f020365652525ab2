/-
  The law RuleAsks, walked.
-/
import Derived.Test.YtlamjjkcbadibaaC6
import Derived.Test.YtlamjjkcbadibaaC7
import Derived.Test.YtlamjjkcbadibaaRuZT
namespace Go.Proofs.Ytlamjjkcbadibaa
open Go Go.RowKit
namespace Lx
set_option maxRecDepth 100000
theorem calm_node {W : World} {x : Nd} {B C : Option Addr} {b c : Nat} (h : NdIn W AnyB x B C) (V : Abv W) :
    Calls Try.prog 14 #[ndv x B b C c] V.1 fun e w' => e = .returned (.bool (nodeV x)) ∧ ∃ V' : Abv W, w' = V'.1 :=
  (rnode_any x B C b c V.1 (h.below V.2 (Nat.le_refl _))).mono fun _ w' ⟨he, hb⟩ => ⟨he, ⟨w', V.2.trans (hb.mono V.2.size)⟩, rfl⟩
theorem calm_eq {W : World} {f : FuncId} {args : Array Value} {v : Value} (h : ∀ U : World, Calls Try.prog f args U fun e w' => e = .returned v ∧ U = w') (V : Abv W) :
    Calls Try.prog f args V.1 fun e w' => e = .returned v ∧ ∃ V' : Abv W, w' = V'.1 := (h V.1).mono fun _ _ ⟨he, hb⟩ => ⟨he, V, hb.symm⟩
theorem asks_dec (k : Int) : decide (k = 3 ∨ k = 9 ∨ k = 11 ∨ k = 12) = decide (roleV k = 3) := decide_eq_decide.2 role_asks.symm
theorem told_dec (k : Int) : decide (k = 2 ∨ k = 8 ∨ k = 10 ∨ k = 13) = decide (roleV k = 4) := decide_eq_decide.2 role_told.symm
theorem control_dec (k : Int) : decide (k = 4 ∨ k = 5 ∨ k = 6) = decide (roleV k = 2) := decide_eq_decide.2 role_control.symm
set_option maxHeartbeats 16000000 in
theorem ruleAsks_law (x y : Nd) (Bx Cx : Option Addr) (bx cx : Nat) (By Cy : Option Addr) (by_ cy : Nat) (w : World) (hI : NdIn w AnyB x Bx Cx) (hJ : NdIn w AnyB y By Cy) :
    Calls Try.prog 6 #[ndv x Bx bx Cx cx, ndv y By by_ Cy cy] w fun e w' => e = .returned (.bool true) ∧ Below w.heap.size w w' := by
  obtain ⟨W, hW⟩ : ∃ W, W = ((w.alloc (.cells #[.int .i64 x.kind, .int .i64 x.level, .int .i64 x.n, .string x.name, .slice Bx x.alts.length (capN x.alts.length bx), .slice Cx x.to.length (capN x.to.length cx)] 25)).alloc (.cells #[.int .i64 y.kind, .int .i64 y.level, .int .i64 y.n, .string y.name, .slice By y.alts.length (capN y.alts.length by_), .slice Cy y.to.length (capN y.to.length cy)] 25)) := ⟨_, rfl⟩
  have hbW : Below w.heap.size w W := by rw [hW]; exact (((Below.refl _ w).alloc (Nat.le_refl _) _).alloc (by simp) _)
  have L0 : Lies W (w.heap.size) 25 #[.int .i64 x.kind, .int .i64 x.level, .int .i64 x.n, .string x.name, .slice Bx x.alts.length (capN x.alts.length bx), .slice Cx x.to.length (capN x.to.length cx)] := by
    rw [hW]
    refine Lies.old ?_ _
    exact Lies.new _ _ _
  have L1 : Lies W (w.heap.size + 1) 25 #[.int .i64 y.kind, .int .i64 y.level, .int .i64 y.n, .string y.name, .slice By y.alts.length (capN y.alts.length by_), .slice Cy y.to.length (capN y.to.length cy)] := by
    rw [hW]
    simpa using Lies.new (w.alloc (.cells #[.int .i64 x.kind, .int .i64 x.level, .int .i64 x.n, .string x.name, .slice Bx x.alts.length (capN x.alts.length bx), .slice Cx x.to.length (capN x.to.length cx)] 25)) 25 #[.int .i64 y.kind, .int .i64 y.level, .int .i64 y.n, .string y.name, .slice By y.alts.length (capN y.alts.length by_), .slice Cy y.to.length (capN y.to.length cy)]
  obtain ⟨x0, x1, x2, x3, x4, x5⟩ := six_cells L0
  replace x0 := Abv.cell x0
  replace x1 := Abv.cell x1
  replace x2 := Abv.cell x2
  replace x3 := Abv.cell x3
  replace x4 := Abv.cell x4
  replace x5 := Abv.cell x5
  obtain ⟨y0, y1, y2, y3, y4, y5⟩ := six_cells L1
  replace y0 := Abv.cell y0
  replace y1 := Abv.cell y1
  replace y2 := Abv.cell y2
  replace y3 := Abv.cell y3
  replace y4 := Abv.cell y4
  replace y5 := Abv.cell y5
  have HB := Lib.hid hbW
  clear L0 L1 hbW
  have HFX := Lib.hid (fun V : Abv W => calm_all (fun U => fixed14_any U) V)
  have HIW := Lib.hid (hI.below HB.out (Nat.le_refl _))
  have HJW := Lib.hid (hJ.below HB.out (Nat.le_refl _))
  have hnx := hI.1
  have hny := hJ.1
  clear hI hJ
  have HN1 := Lib.hid (fun V : Abv W => calm_node (b := bx) (c := cx) HIW.out V)
  have HN2 := Lib.hid (fun V : Abv W => calm_node (b := by_) (c := cy) HJW.out V)
  have HP1 := Lib.hid (fun V : Abv W => calm_all (fun U => rports_any x Bx Cx bx cx U hnx) V)
  have HP2 := Lib.hid (fun V : Abv W => calm_all (fun U => rports_any y By Cy by_ cy U hny) V)
  unfold ndv at HN1 HN2 HP1 HP2
  obtain ⟨P1, hP1⟩ : ∃ q, q = (ofN x y).1 := ⟨_, rfl⟩
  obtain ⟨E1, hE1⟩ : ∃ q, q = (ofN x y).2 := ⟨_, rfl⟩
  obtain ⟨N1, hN1⟩ : ∃ q, q = needV (ofN x y).1 x y := ⟨_, rfl⟩
  have HO1 : Hid (∀ V : Abv W, Calls Try.prog 11 #[.agg #[.int .i64 x.kind, .int .i64 x.level, .int .i64 x.n, .string x.name, .slice Bx x.alts.length (capN x.alts.length bx), .slice Cx x.to.length (capN x.to.length cx)], .agg #[.int .i64 y.kind, .int .i64 y.level, .int .i64 y.n, .string y.name, .slice By y.alts.length (capN y.alts.length by_), .slice Cy y.to.length (capN y.to.length cy)]] V.1 (GivesPl P1 E1 V.1)) := Lib.hid fun V => by
    rw [hP1, hE1]
    exact ruof_any x y Bx Cx bx cx By Cy by_ cy V.1 (HIW.out.below V.2 (Nat.le_refl _)) (HJW.out.below V.2 (Nat.le_refl _))
  obtain ⟨na, hna⟩ : ∃ q, q = nodeV x := ⟨_, rfl⟩
  obtain ⟨nb, hnb⟩ : ∃ q, q = nodeV y := ⟨_, rfl⟩
  obtain ⟨px, hpx⟩ : ∃ q, q = x.ports := ⟨_, rfl⟩
  obtain ⟨py, hpy⟩ : ∃ q, q = y.ports := ⟨_, rfl⟩
  have HAK : Hid (na = true → nb = true → x.to.length ≤ px → y.to.length ≤ py → roleV x.kind = 3 → roleV y.kind = 4 → (((x.kind = 3 ∧ y.kind = 2) ∨ (x.kind = 9 ∧ y.kind = 8)) ∧ x.level ≠ y.level → E1 = 140) ∧ (¬ (((x.kind = 3 ∧ y.kind = 2) ∨ (x.kind = 9 ∧ y.kind = 8)) ∧ x.level ≠ y.level) → E1 = 0 ∧ P1.swap = false ∧ 1 ≤ P1.kind ∧ P1.kind ≤ 5 ∧ 0 ≤ N1 ∧ N1 ≤ 17)) := Lib.hid (by
    rw [hE1, hP1, hN1, hna, hnb, hpx, hpy]
    exact fun h1 h2 h3 h4 h5 h6 => asks_ok h5 h6 h1 h2 h3 h4)
  have HPR : Hid ((roleV x.kind = 3 ∧ roleV y.kind = 3) ∨ (roleV x.kind = 4 ∧ roleV y.kind = 4) → E1 = 140 ∧ P1.kind = 0) := Lib.hid (by
    rw [hE1, hP1]
    exact fun h => by rw [of_pair h]; exact ⟨rfl, rfl⟩)
  have HN3 : Hid (N1 = needV P1 x y) := Lib.hid (by rw [hN1, hP1])
  rw [← hna] at HN1
  rw [← hnb] at HN2
  rw [← hpx] at HP1
  rw [← hpy] at HP2
  have HNX := Lib.hid hnx
  have HNY := Lib.hid hny
  clear hP1 hE1 hN1 hna hnb hpx hpy hnx hny
  unfold ndv
  cases na with
  | false =>
    go_enter Try.func6, Try.ntmps6
    go_upto_region 1 with fail
    rw [← hW]
    clear hW
    obtain ⟨V0, hV0⟩ := calm_in W
    rw [← hV0]
    clear hV0
    refine region_calm_in (by kernel_rfl) (by kernel_rfl) ?_
    go_big_quiet_step (exact HFX.out _)
    go_big_quiet_step (fail)
    go_big_quiet_step (fail)
    go_big_quiet_step (fail)
    go_big_quiet_step (exact HN1.out _)
    go_big_quiet_step (fail)
    go_big_quiet_step (fail)
    go_big_quiet_step (fail)
    go_big_quiet_step (fail)
    go_big_quiet_step (exact HN2.out _)
    go_big_quiet_step (fail)
    go_big_quiet_step (fail)
    go_big_quiet_step (fail)
    go_big_quiet_step (fail)
    go_big_quiet_step (fail)
    go_big_quiet_step (fail)
    go_big_quiet_step (fail)
    go_big_quiet_step (exact HP1.out _)
    go_big_quiet_step (fail)
    go_big_quiet_step (fail)
    go_big_quiet_step (fail)
    go_big_quiet_step (fail)
    go_big_quiet_step (fail)
    go_big_quiet_step (fail)
    go_big_quiet_step (fail)
    go_big_quiet_step (exact HP2.out _)
    go_big_quiet_step (fail)
    go_big_quiet_step (fail)
    refine wpQuiet_nil ?_
    rintro _ ⟨V9, rfl⟩
    go_wp2_with fail
    refine (HFX.out _).mono ?_
    rintro e _ ⟨rfl, V8, rfl⟩
    go_wp2_with fail
    go_ret
    exact ⟨rfl, HB.out.trans (V8.2.mono HB.out.size)⟩
  | true =>
    cases nb with
    | false =>
      go_enter Try.func6, Try.ntmps6
      go_upto_region 1 with fail
      rw [← hW]
      clear hW
      obtain ⟨V0, hV0⟩ := calm_in W
      rw [← hV0]
      clear hV0
      refine region_calm_in (by kernel_rfl) (by kernel_rfl) ?_
      go_big_quiet_step (exact HFX.out _)
      go_big_quiet_step (fail)
      go_big_quiet_step (fail)
      go_big_quiet_step (fail)
      go_big_quiet_step (exact HN1.out _)
      go_big_quiet_step (fail)
      go_big_quiet_step (fail)
      go_big_quiet_step (fail)
      go_big_quiet_step (fail)
      go_big_quiet_step (exact HN2.out _)
      go_big_quiet_step (fail)
      go_big_quiet_step (fail)
      go_big_quiet_step (fail)
      go_big_quiet_step (fail)
      go_big_quiet_step (fail)
      go_big_quiet_step (fail)
      go_big_quiet_step (fail)
      go_big_quiet_step (exact HP1.out _)
      go_big_quiet_step (fail)
      go_big_quiet_step (fail)
      go_big_quiet_step (fail)
      go_big_quiet_step (fail)
      go_big_quiet_step (fail)
      go_big_quiet_step (fail)
      go_big_quiet_step (fail)
      go_big_quiet_step (exact HP2.out _)
      go_big_quiet_step (fail)
      go_big_quiet_step (fail)
      refine wpQuiet_nil ?_
      rintro _ ⟨V9, rfl⟩
      go_wp2_with fail
      refine (HFX.out _).mono ?_
      rintro e _ ⟨rfl, V8, rfl⟩
      go_wp2_with fail
      go_ret
      exact ⟨rfl, HB.out.trans (V8.2.mono HB.out.size)⟩
    | true =>
      by_cases c1 : px < x.to.length
      · have dc1 : decide (px < x.to.length) = true := decide_eq_true c1
        go_enter Try.func6, Try.ntmps6
        go_upto_region 1 with fail
        rw [← hW]
        clear hW
        obtain ⟨V0, hV0⟩ := calm_in W
        rw [← hV0]
        clear hV0
        refine region_calm_in (by kernel_rfl) (by kernel_rfl) ?_
        go_big_quiet_step (exact HFX.out _)
        go_big_quiet_step (fail)
        go_big_quiet_step (fail)
        go_big_quiet_step (fail)
        go_big_quiet_step (exact HN1.out _)
        go_big_quiet_step (fail)
        go_big_quiet_step (fail)
        go_big_quiet_step (fail)
        go_big_quiet_step (fail)
        go_big_quiet_step (exact HN2.out _)
        go_big_quiet_step (fail)
        go_big_quiet_step (fail)
        go_big_quiet_step (fail)
        go_big_quiet_step (fail)
        go_big_quiet_step (fail)
        go_big_quiet_step (fail)
        go_big_quiet_step (fail)
        go_big_quiet_step (exact HP1.out _)
        go_big_quiet_step (fail)
        go_big_quiet_step (fail)
        go_big_quiet_step (fail)
        go_big_quiet_step (fail)
        go_big_quiet_step (fail)
        go_big_quiet_step (fail)
        go_big_quiet_step (fail)
        go_big_quiet_step (exact HP2.out _)
        go_big_quiet_step (fail)
        go_big_quiet_step (fail)
        refine wpQuiet_nil ?_
        rintro _ ⟨V9, rfl⟩
        go_wp2_with fail
        refine (HFX.out _).mono ?_
        rintro e _ ⟨rfl, V8, rfl⟩
        go_wp2_with fail
        go_ret
        exact ⟨rfl, HB.out.trans (V8.2.mono HB.out.size)⟩
      · have dc1 : decide (px < x.to.length) = false := decide_eq_false c1
        by_cases c2 : py < y.to.length
        · have dc2 : decide (py < y.to.length) = true := decide_eq_true c2
          go_enter Try.func6, Try.ntmps6
          go_upto_region 1 with fail
          rw [← hW]
          clear hW
          obtain ⟨V0, hV0⟩ := calm_in W
          rw [← hV0]
          clear hV0
          refine region_calm_in (by kernel_rfl) (by kernel_rfl) ?_
          go_big_quiet_step (exact HFX.out _)
          go_big_quiet_step (fail)
          go_big_quiet_step (fail)
          go_big_quiet_step (fail)
          go_big_quiet_step (exact HN1.out _)
          go_big_quiet_step (fail)
          go_big_quiet_step (fail)
          go_big_quiet_step (fail)
          go_big_quiet_step (fail)
          go_big_quiet_step (exact HN2.out _)
          go_big_quiet_step (fail)
          go_big_quiet_step (fail)
          go_big_quiet_step (fail)
          go_big_quiet_step (fail)
          go_big_quiet_step (fail)
          go_big_quiet_step (fail)
          go_big_quiet_step (fail)
          go_big_quiet_step (exact HP1.out _)
          go_big_quiet_step (fail)
          go_big_quiet_step (fail)
          go_big_quiet_step (fail)
          go_big_quiet_step (fail)
          go_big_quiet_step (fail)
          go_big_quiet_step (fail)
          go_big_quiet_step (fail)
          go_big_quiet_step (exact HP2.out _)
          go_big_quiet_step (fail)
          go_big_quiet_step (fail)
          refine wpQuiet_nil ?_
          rintro _ ⟨V9, rfl⟩
          go_wp2_with fail
          refine (HFX.out _).mono ?_
          rintro e _ ⟨rfl, V8, rfl⟩
          go_wp2_with fail
          go_ret
          exact ⟨rfl, HB.out.trans (V8.2.mono HB.out.size)⟩
        · have dc2 : decide (py < y.to.length) = false := decide_eq_false c2
          have HAK2 := Lib.hid (HAK.out rfl rfl (by omega) (by omega))
          clear HAK
          go_enter Try.func6, Try.ntmps6
          go_upto_region 1 with fail
          rw [← hW]
          clear hW
          obtain ⟨V0, hV0⟩ := calm_in W
          rw [← hV0]
          clear hV0
          refine region_calm_in (by kernel_rfl) (by kernel_rfl) ?_
          go_big_quiet_step (exact HFX.out _)
          go_big_quiet_step (fail)
          go_big_quiet_step (fail)
          go_big_quiet_step (fail)
          go_big_quiet_step (exact HN1.out _)
          go_big_quiet_step (fail)
          go_big_quiet_step (fail)
          go_big_quiet_step (fail)
          go_big_quiet_step (fail)
          go_big_quiet_step (exact HN2.out _)
          go_big_quiet_step (fail)
          go_big_quiet_step (fail)
          go_big_quiet_step (fail)
          go_big_quiet_step (fail)
          go_big_quiet_step (fail)
          go_big_quiet_step (fail)
          go_big_quiet_step (fail)
          go_big_quiet_step (exact HP1.out _)
          go_big_quiet_step (fail)
          go_big_quiet_step (fail)
          go_big_quiet_step (fail)
          go_big_quiet_step (fail)
          go_big_quiet_step (fail)
          go_big_quiet_step (fail)
          go_big_quiet_step (fail)
          go_big_quiet_step (exact HP2.out _)
          go_big_quiet_step (fail)
          go_big_quiet_step (fail)
          refine wpQuiet_nil ?_
          rintro _ ⟨V9, rfl⟩
          go_wp2_with fail
          refine (HO1.out V9).mono ?_
          rintro e w6 ⟨C6, c6, rfl, hP6, hb6⟩
          simp only [plv]
          go_upto_region 4 with fail
          obtain ⟨g6, hg6⟩ : ∃ g, g = w6.heap.size := ⟨_, rfl⟩
          obtain ⟨U6, hU6⟩ : ∃ V : Abv W, V.1 = w6.alloc (.cells #[.int .i64 P1.kind, .bool P1.swap, .int .i64 P1.level, .int .i64 P1.alt, .int .i64 P1.node.kind, .int .i64 P1.node.level, .int .i64 P1.node.n, .string P1.node.name, .slice none 0 0, .slice C6 P1.node.to.length (capN P1.node.to.length c6)] 29) := ⟨⟨_, (V9.2.trans (hb6.mono V9.2.size)).alloc (Nat.le_trans V9.2.size hb6.size) _⟩, rfl⟩
          have LP6 := Lib.hid (show Lies U6.1 g6 29 #[.int .i64 P1.kind, .bool P1.swap, .int .i64 P1.level, .int .i64 P1.alt, .int .i64 P1.node.kind, .int .i64 P1.node.level, .int .i64 P1.node.n, .string P1.node.name, .slice none 0 0, .slice C6 P1.node.to.length (capN P1.node.to.length c6)] by rw [hU6, hg6]; exact Lies.new _ _ _)
          have HP6 := Lib.hid (show PlOk U6.1 AnyB P1 C6 by rw [hU6]; exact (hP6.below ((Below.refl _ _).alloc (Nat.le_refl _) _) (Nat.le_refl _)).keep (keep_wide fun _ _ _ => trivial))
          rw [← hU6, ← hg6]
          clear hU6 hg6 hP6 hb6 w6
          clear c1 c2 dc1 dc2 HN1 HN2 HP1 HP2 HO1 HFX V9
          have lp6 := LP6.out
          have hp6 := HP6.out
          obtain ⟨p0, p1, p2, p3, p4, p5, p6, p7, p8, p9⟩ := ten_cells lp6
          have HQ6 := Lib.hid hp6
          clear lp6 hp6 LP6 HP6
          obtain ⟨W2, hW2⟩ : ∃ W2, W2 = U6.1 := ⟨_, rfl⟩
          have HB2 := Lib.hid (show Below w.heap.size w W2 by rw [hW2]; exact HB.out.trans (U6.2.mono HB.out.size))
          have HBW := Lib.hid (show Below W.heap.size W W2 by rw [hW2]; exact U6.2)
          replace x0 := x0 U6
          replace x1 := x1 U6
          replace x2 := x2 U6
          replace x3 := x3 U6
          replace x4 := x4 U6
          replace x5 := x5 U6
          replace y0 := y0 U6
          replace y1 := y1 U6
          replace y2 := y2 U6
          replace y3 := y3 U6
          replace y4 := y4 U6
          replace y5 := y5 U6
          rw [← hW2] at x0 x1 x2 x3 x4 x5 y0 y1 y2 y3 y4 y5 p0 p1 p2 p3 p4 p5 p6 p7 p8 p9 HQ6 ⊢
          clear hW2
          replace x0 := Abv.cell x0
          replace x1 := Abv.cell x1
          replace x2 := Abv.cell x2
          replace x3 := Abv.cell x3
          replace x4 := Abv.cell x4
          replace x5 := Abv.cell x5
          replace y0 := Abv.cell y0
          replace y1 := Abv.cell y1
          replace y2 := Abv.cell y2
          replace y3 := Abv.cell y3
          replace y4 := Abv.cell y4
          replace y5 := Abv.cell y5
          replace p0 := Abv.cell p0
          replace p1 := Abv.cell p1
          replace p2 := Abv.cell p2
          replace p3 := Abv.cell p3
          replace p4 := Abv.cell p4
          replace p5 := Abv.cell p5
          replace p6 := Abv.cell p6
          replace p7 := Abv.cell p7
          replace p8 := Abv.cell p8
          replace p9 := Abv.cell p9
          have HND : Hid (∀ V : Abv W2, Calls Try.prog 13 #[.agg #[.int .i64 P1.kind, .bool P1.swap, .int .i64 P1.level, .int .i64 P1.alt, .int .i64 P1.node.kind, .int .i64 P1.node.level, .int .i64 P1.node.n, .string P1.node.name, .slice none 0 0, .slice C6 P1.node.to.length (capN P1.node.to.length c6)], .agg #[.int .i64 x.kind, .int .i64 x.level, .int .i64 x.n, .string x.name, .slice Bx x.alts.length (capN x.alts.length bx), .slice Cx x.to.length (capN x.to.length cx)], .agg #[.int .i64 y.kind, .int .i64 y.level, .int .i64 y.n, .string y.name, .slice By y.alts.length (capN y.alts.length by_), .slice Cy y.to.length (capN y.to.length cy)]] V.1 fun e w' => e = .returned (.int .i64 N1) ∧ ∃ V' : Abv W2, w' = V'.1) := Lib.hid fun V => by
            rw [HN3.out]
            exact calm_need (p := P1) (C := C6) (c := c6) (HIW.out.below HBW.out (Nat.le_refl _)) (HJW.out.below HBW.out (Nat.le_refl _)) V
          obtain ⟨ax, hax⟩ : ∃ q, q = decide (roleV x.kind = 3) := ⟨_, rfl⟩
          have HAx : Hid (∀ V : Abv W2, Calls Try.prog 16 #[.int .i64 x.kind] V.1 fun e w' => e = .returned (.bool ax) ∧ ∃ V' : Abv W2, w' = V'.1) := Lib.hid fun V => by
            rw [hax, ← asks_dec]
            exact calm_eq (fun U => ruasks_any x.kind U) V
          replace hax := Lib.hid hax
          obtain ⟨ay, hay⟩ : ∃ q, q = decide (roleV y.kind = 3) := ⟨_, rfl⟩
          have HAy : Hid (∀ V : Abv W2, Calls Try.prog 16 #[.int .i64 y.kind] V.1 fun e w' => e = .returned (.bool ay) ∧ ∃ V' : Abv W2, w' = V'.1) := Lib.hid fun V => by
            rw [hay, ← asks_dec]
            exact calm_eq (fun U => ruasks_any y.kind U) V
          replace hay := Lib.hid hay
          obtain ⟨tx, htx⟩ : ∃ q, q = decide (roleV x.kind = 4) := ⟨_, rfl⟩
          have HTx : Hid (∀ V : Abv W2, Calls Try.prog 17 #[.int .i64 x.kind] V.1 fun e w' => e = .returned (.bool tx) ∧ ∃ V' : Abv W2, w' = V'.1) := Lib.hid fun V => by
            rw [htx, ← told_dec]
            exact calm_eq (fun U => rutold_any x.kind U) V
          replace htx := Lib.hid htx
          obtain ⟨ty, hty⟩ : ∃ q, q = decide (roleV y.kind = 4) := ⟨_, rfl⟩
          have HTy : Hid (∀ V : Abv W2, Calls Try.prog 17 #[.int .i64 y.kind] V.1 fun e w' => e = .returned (.bool ty) ∧ ∃ V' : Abv W2, w' = V'.1) := Lib.hid fun V => by
            rw [hty, ← told_dec]
            exact calm_eq (fun U => rutold_any y.kind U) V
          replace hty := Lib.hid hty
          obtain ⟨V0, hV0⟩ := calm_in W2
          rw [← hV0]
          clear hV0 HN3
          cases ax with
          | true =>
            have htx0 : tx = false := by rw [htx.out]; exact decide_eq_false (by have := (of_decide_eq_true hax.out.symm); omega)
            subst htx0
            cases ay with
            | true =>
              obtain ⟨e1, e2⟩ := HPR.out (.inl ⟨(of_decide_eq_true hax.out.symm), (of_decide_eq_true hay.out.symm)⟩)
              have q1 : (E1 == 140) = true := by simpa using e1
              have q2 : (P1.kind == 0) = true := by simpa using e2
              clear e1 e2
              go_wp2_with fail
              refine (HAx.out _).mono ?_
              rintro e _ ⟨rfl, V1, rfl⟩
              go_wp2_with fail
              refine (HAy.out _).mono ?_
              rintro e _ ⟨rfl, V2, rfl⟩
              go_wp2_with fail
              go_ret
              exact ⟨rfl, HB2.out.trans (V2.2.mono HB2.out.size)⟩
            | false =>
              cases ty with
              | false =>
                go_wp2_with fail
                refine (HAx.out _).mono ?_
                rintro e _ ⟨rfl, V1, rfl⟩
                go_wp2_with fail
                refine (HAy.out _).mono ?_
                rintro e _ ⟨rfl, V2, rfl⟩
                go_wp2_with fail
                refine (HTx.out _).mono ?_
                rintro e _ ⟨rfl, V3, rfl⟩
                go_wp2_with fail
                refine (HAx.out _).mono ?_
                rintro e _ ⟨rfl, V4, rfl⟩
                go_wp2_with fail
                refine (HTy.out _).mono ?_
                rintro e _ ⟨rfl, V5, rfl⟩
                go_wp2_with fail
                go_ret
                exact ⟨rfl, HB2.out.trans (V5.2.mono HB2.out.size)⟩
              | true =>
                obtain ⟨hA, hB⟩ := HAK2.out (of_decide_eq_true hax.out.symm) (of_decide_eq_true hty.out.symm)
                go_wp2_with fail
                refine (HAx.out _).mono ?_
                rintro e _ ⟨rfl, V1, rfl⟩
                go_wp2_with fail
                refine (HAy.out _).mono ?_
                rintro e _ ⟨rfl, V2, rfl⟩
                go_wp2_with fail
                refine (HTx.out _).mono ?_
                rintro e _ ⟨rfl, V3, rfl⟩
                go_wp2_with fail
                refine (HAx.out _).mono ?_
                rintro e _ ⟨rfl, V4, rfl⟩
                go_wp2_with fail
                refine (HTy.out _).mono ?_
                rintro e _ ⟨rfl, V5, rfl⟩
                go_upto_region 8 with fail
                clear HAx HAy HTx HTy hax hay htx hty HPR HAK2
                cases k3b : (x.kind == 3) with
                | true =>
                  cases k2b : (y.kind == 2) with
                  | true =>
                    cases hl : (x.level == y.level) with
                    | true =>
                      have hl2 : (x.level != y.level) = false := by simpa using hl
                      have hl3 : x.level = y.level := by simpa using hl
                      obtain ⟨e1, e2, e3, e4, e5, e6⟩ := hB (fun e => e.2 hl3)
                      clear hA hB hl3
                      have q1 : (E1 == 0) = true := by simpa using e1
                      have q3 : decide (1 ≤ P1.kind) = true := decide_eq_true e3
                      have q4 : decide (P1.kind ≤ 5) = true := decide_eq_true e4
                      have q5 : decide (0 ≤ N1) = true := decide_eq_true e5
                      have q6 : decide (N1 ≤ 17) = true := decide_eq_true e6
                      rw [e2] at HND p1
                      clear e1 e2 e3 e4 e5 e6
                      go_upto_region 11 with fail
                      try clear k3b
                      try clear k2b
                      try clear k9b
                      try clear k8b
                      try clear hl
                      try clear hl2
                      go_wp2_with fail
                      refine (HND.out _).mono ?_
                      rintro e _ ⟨rfl, V6, rfl⟩
                      go_wp2_with fail
                      refine (HND.out _).mono ?_
                      rintro e _ ⟨rfl, V7, rfl⟩
                      go_wp2_with fail
                      go_ret
                      exact ⟨rfl, HB2.out.trans (V7.2.mono HB2.out.size)⟩
                    | false =>
                      have hl2 : (x.level != y.level) = true := by simpa using hl
                      have hl3 : x.level ≠ y.level := by simpa using hl
                      have e1 := hA (⟨(.inl ⟨by simpa using k3b, by simpa using k2b⟩), hl3⟩)
                      clear hA hB hl3
                      have q1 : (E1 == 140) = true := by simpa using e1
                      clear e1
                      go_wp2_with fail
                      go_ret
                      exact ⟨rfl, HB2.out.trans (V5.2.mono HB2.out.size)⟩
                  | false =>
                    have k9b : (x.kind == 9) = false := by simp at k3b ⊢; omega
                    obtain ⟨e1, e2, e3, e4, e5, e6⟩ := hB (by simp at k3b k2b k9b; omega)
                    clear hA hB
                    have q1 : (E1 == 0) = true := by simpa using e1
                    have q3 : decide (1 ≤ P1.kind) = true := decide_eq_true e3
                    have q4 : decide (P1.kind ≤ 5) = true := decide_eq_true e4
                    have q5 : decide (0 ≤ N1) = true := decide_eq_true e5
                    have q6 : decide (N1 ≤ 17) = true := decide_eq_true e6
                    rw [e2] at HND p1
                    clear e1 e2 e3 e4 e5 e6
                    go_upto_region 11 with fail
                    try clear k3b
                    try clear k2b
                    try clear k9b
                    try clear k8b
                    try clear hl
                    try clear hl2
                    go_wp2_with fail
                    refine (HND.out _).mono ?_
                    rintro e _ ⟨rfl, V6, rfl⟩
                    go_wp2_with fail
                    refine (HND.out _).mono ?_
                    rintro e _ ⟨rfl, V7, rfl⟩
                    go_wp2_with fail
                    go_ret
                    exact ⟨rfl, HB2.out.trans (V7.2.mono HB2.out.size)⟩
                | false =>
                  cases k9b : (x.kind == 9) with
                  | true =>
                    cases k8b : (y.kind == 8) with
                    | true =>
                      cases hl : (x.level == y.level) with
                      | true =>
                        have hl2 : (x.level != y.level) = false := by simpa using hl
                        have hl3 : x.level = y.level := by simpa using hl
                        obtain ⟨e1, e2, e3, e4, e5, e6⟩ := hB (fun e => e.2 hl3)
                        clear hA hB hl3
                        have q1 : (E1 == 0) = true := by simpa using e1
                        have q3 : decide (1 ≤ P1.kind) = true := decide_eq_true e3
                        have q4 : decide (P1.kind ≤ 5) = true := decide_eq_true e4
                        have q5 : decide (0 ≤ N1) = true := decide_eq_true e5
                        have q6 : decide (N1 ≤ 17) = true := decide_eq_true e6
                        rw [e2] at HND p1
                        clear e1 e2 e3 e4 e5 e6
                        go_upto_region 11 with fail
                        try clear k3b
                        try clear k2b
                        try clear k9b
                        try clear k8b
                        try clear hl
                        try clear hl2
                        go_wp2_with fail
                        refine (HND.out _).mono ?_
                        rintro e _ ⟨rfl, V6, rfl⟩
                        go_wp2_with fail
                        refine (HND.out _).mono ?_
                        rintro e _ ⟨rfl, V7, rfl⟩
                        go_wp2_with fail
                        go_ret
                        exact ⟨rfl, HB2.out.trans (V7.2.mono HB2.out.size)⟩
                      | false =>
                        have hl2 : (x.level != y.level) = true := by simpa using hl
                        have hl3 : x.level ≠ y.level := by simpa using hl
                        have e1 := hA (⟨(.inr ⟨by simpa using k9b, by simpa using k8b⟩), hl3⟩)
                        clear hA hB hl3
                        have q1 : (E1 == 140) = true := by simpa using e1
                        clear e1
                        go_wp2_with fail
                        go_ret
                        exact ⟨rfl, HB2.out.trans (V5.2.mono HB2.out.size)⟩
                    | false =>
                      obtain ⟨e1, e2, e3, e4, e5, e6⟩ := hB (by simp at k3b k8b k9b; omega)
                      clear hA hB
                      have q1 : (E1 == 0) = true := by simpa using e1
                      have q3 : decide (1 ≤ P1.kind) = true := decide_eq_true e3
                      have q4 : decide (P1.kind ≤ 5) = true := decide_eq_true e4
                      have q5 : decide (0 ≤ N1) = true := decide_eq_true e5
                      have q6 : decide (N1 ≤ 17) = true := decide_eq_true e6
                      rw [e2] at HND p1
                      clear e1 e2 e3 e4 e5 e6
                      go_upto_region 11 with fail
                      try clear k3b
                      try clear k2b
                      try clear k9b
                      try clear k8b
                      try clear hl
                      try clear hl2
                      go_wp2_with fail
                      refine (HND.out _).mono ?_
                      rintro e _ ⟨rfl, V6, rfl⟩
                      go_wp2_with fail
                      refine (HND.out _).mono ?_
                      rintro e _ ⟨rfl, V7, rfl⟩
                      go_wp2_with fail
                      go_ret
                      exact ⟨rfl, HB2.out.trans (V7.2.mono HB2.out.size)⟩
                  | false =>
                    obtain ⟨e1, e2, e3, e4, e5, e6⟩ := hB (by simp at k3b k9b; omega)
                    clear hA hB
                    have q1 : (E1 == 0) = true := by simpa using e1
                    have q3 : decide (1 ≤ P1.kind) = true := decide_eq_true e3
                    have q4 : decide (P1.kind ≤ 5) = true := decide_eq_true e4
                    have q5 : decide (0 ≤ N1) = true := decide_eq_true e5
                    have q6 : decide (N1 ≤ 17) = true := decide_eq_true e6
                    rw [e2] at HND p1
                    clear e1 e2 e3 e4 e5 e6
                    go_upto_region 11 with fail
                    try clear k3b
                    try clear k2b
                    try clear k9b
                    try clear k8b
                    try clear hl
                    try clear hl2
                    go_wp2_with fail
                    refine (HND.out _).mono ?_
                    rintro e _ ⟨rfl, V6, rfl⟩
                    go_wp2_with fail
                    refine (HND.out _).mono ?_
                    rintro e _ ⟨rfl, V7, rfl⟩
                    go_wp2_with fail
                    go_ret
                    exact ⟨rfl, HB2.out.trans (V7.2.mono HB2.out.size)⟩
          | false =>
            cases tx with
            | false =>
              go_wp2_with fail
              refine (HAx.out _).mono ?_
              rintro e _ ⟨rfl, V1, rfl⟩
              go_wp2_with fail
              refine (HTx.out _).mono ?_
              rintro e _ ⟨rfl, V2, rfl⟩
              go_wp2_with fail
              refine (HAx.out _).mono ?_
              rintro e _ ⟨rfl, V3, rfl⟩
              go_wp2_with fail
              go_ret
              exact ⟨rfl, HB2.out.trans (V3.2.mono HB2.out.size)⟩
            | true =>
              cases ty with
              | false =>
                go_wp2_with fail
                refine (HAx.out _).mono ?_
                rintro e _ ⟨rfl, V1, rfl⟩
                go_wp2_with fail
                refine (HTx.out _).mono ?_
                rintro e _ ⟨rfl, V2, rfl⟩
                go_wp2_with fail
                refine (HTy.out _).mono ?_
                rintro e _ ⟨rfl, V3, rfl⟩
                go_wp2_with fail
                refine (HAx.out _).mono ?_
                rintro e _ ⟨rfl, V4, rfl⟩
                go_wp2_with fail
                go_ret
                exact ⟨rfl, HB2.out.trans (V4.2.mono HB2.out.size)⟩
              | true =>
                obtain ⟨e1, e2⟩ := HPR.out (.inr ⟨(of_decide_eq_true htx.out.symm), (of_decide_eq_true hty.out.symm)⟩)
                have q1 : (E1 == 140) = true := by simpa using e1
                have q2 : (P1.kind == 0) = true := by simpa using e2
                clear e1 e2
                go_wp2_with fail
                refine (HAx.out _).mono ?_
                rintro e _ ⟨rfl, V1, rfl⟩
                go_wp2_with fail
                refine (HTx.out _).mono ?_
                rintro e _ ⟨rfl, V2, rfl⟩
                go_wp2_with fail
                refine (HTy.out _).mono ?_
                rintro e _ ⟨rfl, V3, rfl⟩
                go_wp2_with fail
                go_ret
                exact ⟨rfl, HB2.out.trans (V3.2.mono HB2.out.size)⟩
end Lx
end Go.Proofs.Ytlamjjkcbadibaa
