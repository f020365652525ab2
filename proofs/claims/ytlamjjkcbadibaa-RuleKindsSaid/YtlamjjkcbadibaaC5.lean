/-
  Texts that lie one behind the other: RuJ RuK.
-/
import Derived.Test.YtlamjjkcbadibaaC4
namespace Go.Proofs.Ytlamjjkcbadibaa
open Go Go.RowKit
namespace Lx
set_option maxRecDepth 100000
theorem others_in (x : Nd) (h : x.to.length ≤ 140737488351232) : 0 ≤ othersV x ∧ othersV x ≤ 140737488351232 := by unfold othersV; omega
set_option maxHeartbeats 8000000 in
theorem runeed_any (p : Pl) (Cp : Option Addr) (cp : Nat) (x y : Nd) (Bx Cx : Option Addr) (bx cx : Nat) (By Cy : Option Addr) (by_ cy : Nat) (w : World) (hI : NdIn w AnyB x Bx Cx) (hJ : NdIn w AnyB y By Cy) :
    Calls Try.prog 13 #[plv p Cp cp, ndv x Bx bx Cx cx, ndv y By by_ Cy cy] w fun e w' => e = .returned (.int .i64 (needV p x y)) ∧ Below w.heap.size w w' := by
  have HE : Hid (needV p x y = let x' := xOf p.swap x y; let y' := xOf p.swap y x; if p.kind = 2 then needPick x'.alts p.alt else if p.kind = 3 ∨ p.kind = 4 then 1 else if p.kind = 5 then 1 + max (othersV x' - 1) 0 + othersV y'
    else if p.kind = 7 then branchV x'.kind + othersV y' else if p.kind = 8 then othersV y' else 0) := Lib.hid rfl
  obtain ⟨PP, hPP⟩ : ∃ q, q = needV p x y := ⟨_, rfl⟩
  rw [← hPP] at HE ⊢
  clear hPP
  obtain ⟨pk, ps, pl, pa, pn⟩ := p
  unfold plv ndv
  simp only at HE ⊢
  obtain ⟨W, hW⟩ : ∃ W, W = (((w.alloc (.cells #[.int .i64 pk, .bool ps, .int .i64 pl, .int .i64 pa, .int .i64 pn.kind, .int .i64 pn.level, .int .i64 pn.n, .string pn.name, .slice none 0 0, .slice Cp pn.to.length (capN pn.to.length cp)] 29)).alloc (.cells #[.int .i64 x.kind, .int .i64 x.level, .int .i64 x.n, .string x.name, .slice Bx x.alts.length (capN x.alts.length bx), .slice Cx x.to.length (capN x.to.length cx)] 25)).alloc (.cells #[.int .i64 y.kind, .int .i64 y.level, .int .i64 y.n, .string y.name, .slice By y.alts.length (capN y.alts.length by_), .slice Cy y.to.length (capN y.to.length cy)] 25)) := ⟨_, rfl⟩
  have hbW : Below w.heap.size w W := by rw [hW]; exact ((((Below.refl _ w).alloc (Nat.le_refl _) _).alloc (by simp) _).alloc (by simp; omega) _)
  have L0 : Lies W (w.heap.size) 29 #[.int .i64 pk, .bool ps, .int .i64 pl, .int .i64 pa, .int .i64 pn.kind, .int .i64 pn.level, .int .i64 pn.n, .string pn.name, .slice none 0 0, .slice Cp pn.to.length (capN pn.to.length cp)] := by
    rw [hW]
    refine Lies.old ?_ _
    refine Lies.old ?_ _
    exact Lies.new _ _ _
  have L1 : Lies W (w.heap.size + 1) 25 #[.int .i64 x.kind, .int .i64 x.level, .int .i64 x.n, .string x.name, .slice Bx x.alts.length (capN x.alts.length bx), .slice Cx x.to.length (capN x.to.length cx)] := by
    rw [hW]
    refine Lies.old ?_ _
    simpa using Lies.new (w.alloc (.cells #[.int .i64 pk, .bool ps, .int .i64 pl, .int .i64 pa, .int .i64 pn.kind, .int .i64 pn.level, .int .i64 pn.n, .string pn.name, .slice none 0 0, .slice Cp pn.to.length (capN pn.to.length cp)] 29)) 25 #[.int .i64 x.kind, .int .i64 x.level, .int .i64 x.n, .string x.name, .slice Bx x.alts.length (capN x.alts.length bx), .slice Cx x.to.length (capN x.to.length cx)]
  have L2 : Lies W (w.heap.size + 1 + 1) 25 #[.int .i64 y.kind, .int .i64 y.level, .int .i64 y.n, .string y.name, .slice By y.alts.length (capN y.alts.length by_), .slice Cy y.to.length (capN y.to.length cy)] := by
    rw [hW]
    simpa using Lies.new ((w.alloc (.cells #[.int .i64 pk, .bool ps, .int .i64 pl, .int .i64 pa, .int .i64 pn.kind, .int .i64 pn.level, .int .i64 pn.n, .string pn.name, .slice none 0 0, .slice Cp pn.to.length (capN pn.to.length cp)] 29)).alloc (.cells #[.int .i64 x.kind, .int .i64 x.level, .int .i64 x.n, .string x.name, .slice Bx x.alts.length (capN x.alts.length bx), .slice Cx x.to.length (capN x.to.length cx)] 25)) 25 #[.int .i64 y.kind, .int .i64 y.level, .int .i64 y.n, .string y.name, .slice By y.alts.length (capN y.alts.length by_), .slice Cy y.to.length (capN y.to.length cy)]
  obtain ⟨p0, p1, p2, p3, p4, p5, p6, p7, p8, p9⟩ := ten_cells L0
  replace p0 := Abv.cell p0
  replace p1 := Abv.cell p1
  replace p2 := Abv.cell p2
  replace p3 := Abv.cell p3
  replace p4 := Abv.cell p4
  replace p5 := Abv.cell p5
  replace p6 := Abv.cell p6
  replace p7 := Abv.cell p7
  replace p8 := Abv.cell p8
  replace p9 := Abv.cell p9
  obtain ⟨x0, x1, x2, x3, x4, x5⟩ := six_cells L1
  replace x0 := Abv.cell x0
  replace x1 := Abv.cell x1
  replace x2 := Abv.cell x2
  replace x3 := Abv.cell x3
  replace x4 := Abv.cell x4
  replace x5 := Abv.cell x5
  obtain ⟨y0, y1, y2, y3, y4, y5⟩ := six_cells L2
  replace y0 := Abv.cell y0
  replace y1 := Abv.cell y1
  replace y2 := Abv.cell y2
  replace y3 := Abv.cell y3
  replace y4 := Abv.cell y4
  replace y5 := Abv.cell y5
  have HB := Lib.hid hbW
  have HIW := Lib.hid (hI.below hbW (Nat.le_refl _))
  have HJW := Lib.hid (hJ.below hbW (Nat.le_refl _))
  clear L0 L1 L2 hbW
  have HN := fun (s : Bool) (V : Abv W) => calm_all (fun U => runamed_any s x.kind x.level x.n y.kind y.level y.n x.name y.name Bx Cx By Cy x.alts.length (capN x.alts.length bx) x.to.length (capN x.to.length cx) y.alts.length (capN y.alts.length by_) y.to.length (capN y.to.length cy) U) V
  unfold ndsel at HN
  have hnx := hI.1
  have hny := hJ.1
  clear hI hJ
  have HNX := Lib.hid hnx
  have HNY := Lib.hid hny
  have HP0 := Lib.hid (show W.cell? ⟨w.heap.size, 0, none⟩ = some (.int .i64 pk) from p0 ⟨W, Below.refl _ _⟩)
  have HP3 := Lib.hid (show W.cell? ⟨w.heap.size, 3, none⟩ = some (.int .i64 pa) from p3 ⟨W, Below.refl _ _⟩)
  clear hnx hny
  cases ps with
  | true =>
    have HNT := HN true
    simp only [if_true] at HNT
    replace HE : Hid (PP = if pk = 2 then needPick y.alts pa else if pk = 3 ∨ pk = 4 then 1 else if pk = 5 then 1 + max (othersV y - 1) 0 + othersV x else if pk = 7 then branchV y.kind + othersV x else if pk = 8 then othersV x else 0) := HE
    clear HN
    go_enter Try.func13, Try.ntmps13
    go_upto_region 1 with fail
    rw [← hW]
    clear hW
    obtain ⟨V0, hV0⟩ := calm_in W
    rw [← hV0]
    clear hV0
    go_wp2_with fail
    refine (HNT _).mono ?_
    rintro e _ ⟨rfl, V2, rfl⟩
    go_upto_region 2 with fail
    obtain ⟨W4, hW4⟩ : ∃ W4, W4 = ((V2.1.alloc (.cells #[.int .i64 y.kind, .int .i64 y.level, .int .i64 y.n, .string y.name, .slice By y.alts.length (capN y.alts.length by_), .slice Cy y.to.length (capN y.to.length cy)] 25)).alloc (.cells #[.int .i64 x.kind, .int .i64 x.level, .int .i64 x.n, .string x.name, .slice Bx x.alts.length (capN x.alts.length bx), .slice Cx x.to.length (capN x.to.length cx)] 25)) := ⟨_, rfl⟩
    have hb4 : Below W.heap.size W W4 := by rw [hW4]; exact (V2.2.alloc V2.2.size _).alloc (by have := V2.2.size; simp; omega) _
    have LA : Lies W4 V2.1.heap.size 25 #[.int .i64 y.kind, .int .i64 y.level, .int .i64 y.n, .string y.name, .slice By y.alts.length (capN y.alts.length by_), .slice Cy y.to.length (capN y.to.length cy)] := by rw [hW4]; exact (Lies.new _ _ _).old _
    have LB : Lies W4 (V2.1.heap.size + 1) 25 #[.int .i64 x.kind, .int .i64 x.level, .int .i64 x.n, .string x.name, .slice Bx x.alts.length (capN x.alts.length bx), .slice Cx x.to.length (capN x.to.length cx)] := by rw [hW4]; simpa using Lies.new (V2.1.alloc (.cells #[.int .i64 y.kind, .int .i64 y.level, .int .i64 y.n, .string y.name, .slice By y.alts.length (capN y.alts.length by_), .slice Cy y.to.length (capN y.to.length cy)] 25)) 25 #[.int .i64 x.kind, .int .i64 x.level, .int .i64 x.n, .string x.name, .slice Bx x.alts.length (capN x.alts.length bx), .slice Cx x.to.length (capN x.to.length cx)]
    obtain ⟨gb, hgb⟩ : ∃ g, g = V2.1.heap.size + 1 := ⟨_, rfl⟩
    obtain ⟨ga, hga⟩ : ∃ g, g = V2.1.heap.size := ⟨_, rfl⟩
    rw [← hga] at LA
    rw [← hgb] at LB
    rw [← hW4, ← hgb, ← hga]
    clear hW4 hgb hga
    obtain ⟨m0, m1, m2, m3, m4, m5⟩ := six_cells LA
    obtain ⟨n0, n1, n2, n3, n4, n5⟩ := six_cells LB
    replace m0 := Abv.cell m0
    replace m1 := Abv.cell m1
    replace m2 := Abv.cell m2
    replace m3 := Abv.cell m3
    replace m4 := Abv.cell m4
    replace m5 := Abv.cell m5
    replace n0 := Abv.cell n0
    replace n1 := Abv.cell n1
    replace n2 := Abv.cell n2
    replace n3 := Abv.cell n3
    replace n4 := Abv.cell n4
    replace n5 := Abv.cell n5
    have z0 := Abv.cell ((hb4.cell (p := ⟨w.heap.size, 0, none⟩) (ncell_lt HP0.out)).trans HP0.out)
    have z3 := Abv.cell ((hb4.cell (p := ⟨w.heap.size, 3, none⟩) (ncell_lt HP3.out)).trans HP3.out)
    clear LA LB V2 HNT x0 x1 x2 x3 x4 x5 y0 y1 y2 y3 y4 y5 p0 p1 p2 p3 p4 p5 p6 p7 p8 p9
    have HB4 := Lib.hid (HB.out.trans (hb4.mono HB.out.size))
    have HPK := runeedpick_any y.alts By y.alts.length (capN y.alts.length by_) pa W4 rfl HNY.out.2.1 (HJW.out.2.1.below hb4 (Nat.le_refl _))
    have HO1 := fun V : Abv W4 => calm_all (fun U => ruothers_any y By Cy by_ cy U HNY.out.2.2) V
    have HO2 := fun V : Abv W4 => calm_all (fun U => ruothers_any x Bx Cx bx cx U HNX.out.2.2) V
    have HBR := fun V : Abv W4 => calm_all (fun U => rubranches_any y By Cy by_ cy U) V
    unfold ndv at HO1 HO2 HBR
    have hox := others_in y HNY.out.2.2
    have hoy := others_in x HNX.out.2.2
    have hbr : 1 ≤ branchV y.kind ∧ branchV y.kind ≤ 2 := by unfold branchV; split <;> omega
    obtain ⟨ox, hoxE⟩ : ∃ q, q = othersV y := ⟨_, rfl⟩
    obtain ⟨oy, hoyE⟩ : ∃ q, q = othersV x := ⟨_, rfl⟩
    obtain ⟨br, hbrE⟩ : ∃ q, q = branchV y.kind := ⟨_, rfl⟩
    obtain ⟨np, hnpE⟩ : ∃ q, q = needPick y.alts pa := ⟨_, rfl⟩
    rw [← hoxE] at HO1 HE hox
    rw [← hoyE] at HO2 HE hoy
    rw [← hbrE] at HBR HE hbr
    rw [← hnpE] at HPK HE
    clear hoxE hoyE hbrE hnpE hb4
    have HPK := Lib.hid HPK
    have HO1 := Lib.hid HO1
    have HO2 := Lib.hid HO2
    have HBR := Lib.hid HBR
    obtain ⟨V5, hV5⟩ := calm_in W4
    by_cases h2 : pk = 2
    · subst h2
      replace HE : Hid (PP = np) := Lib.hid (by rw [HE.out]; simp)
      rw [← hV5] at HPK ⊢
      clear hV5
      go_wp2_with fail
      refine HPK.out.mono ?_
      rintro e _ ⟨rfl, rfl⟩
      go_wp2_with fail
      go_ret
      exact ⟨nret_int (by rw [HE.out]), HB4.out.trans (V5.2.mono HB4.out.size)⟩
    have g2 : (pk == 2) = false := by simpa using h2
    by_cases h3 : pk = 3
    · subst h3
      replace HE : Hid (PP = 1) := Lib.hid (by rw [HE.out]; simp)
      rw [← hV5]
      clear hV5
      go_wp2_with fail
      go_ret
      exact ⟨nret_int (by rw [HE.out]), HB4.out.trans (V5.2.mono HB4.out.size)⟩
    have g3 : (pk == 3) = false := by simpa using h3
    by_cases h4 : pk = 4
    · subst h4
      replace HE : Hid (PP = 1) := Lib.hid (by rw [HE.out]; simp)
      rw [← hV5]
      clear hV5
      go_wp2_with fail
      go_ret
      exact ⟨nret_int (by rw [HE.out]), HB4.out.trans (V5.2.mono HB4.out.size)⟩
    have g4 : (pk == 4) = false := by simpa using h4
    by_cases h5 : pk = 5
    · subst h5
      replace HE : Hid (PP = 1 + max (ox - 1) 0 + oy) := Lib.hid (by rw [HE.out]; simp)
      rw [← hV5]
      clear hV5
      go_upto_region 9 with fail
      refine region_calm_in (by kernel_rfl) (by kernel_rfl) ?_
      go_big_quiet_step (fail)
      go_big_quiet_step (exact HO1.out _)
      go_big_quiet_step (fail)
      go_big_quiet_step (fail)
      go_big_quiet_step (fail)
      go_big_quiet_step (fail)
      go_big_quiet_step (exact HO2.out _)
      go_big_quiet_step (fail)
      go_big_quiet_step (fail)
      refine wpQuiet_nil ?_
      rintro _ ⟨V9, rfl⟩
      go_wp2_with fail
      go_ret
      exact ⟨nret_int (by rw [HE.out]), HB4.out.trans (V9.2.mono HB4.out.size)⟩
    have g5 : (pk == 5) = false := by simpa using h5
    by_cases h7 : pk = 7
    · subst h7
      replace HE : Hid (PP = br + oy) := Lib.hid (by rw [HE.out]; simp)
      rw [← hV5]
      clear hV5
      go_upto_region 11 with fail
      refine region_calm_in (by kernel_rfl) (by kernel_rfl) ?_
      go_big_quiet_step (fail)
      go_big_quiet_step (exact HBR.out _)
      go_big_quiet_step (fail)
      go_big_quiet_step (exact HO2.out _)
      go_big_quiet_step (fail)
      go_big_quiet_step (fail)
      refine wpQuiet_nil ?_
      rintro _ ⟨V9, rfl⟩
      go_wp2_with fail
      go_ret
      exact ⟨nret_int (by rw [HE.out]), HB4.out.trans (V9.2.mono HB4.out.size)⟩
    have g7 : (pk == 7) = false := by simpa using h7
    by_cases h8 : pk = 8
    · subst h8
      replace HE : Hid (PP = oy) := Lib.hid (by rw [HE.out]; simp)
      rw [← hV5]
      clear hV5
      go_wp2_with fail
      refine (HO2.out _).mono ?_
      rintro e _ ⟨rfl, V6, rfl⟩
      go_wp2_with fail
      go_ret
      exact ⟨nret_int (by rw [HE.out]), HB4.out.trans (V6.2.mono HB4.out.size)⟩
    have g8 : (pk == 8) = false := by simpa using h8
    replace HE : Hid (PP = 0) := Lib.hid (by rw [HE.out, if_neg h2, if_neg (by omega), if_neg h5, if_neg h7, if_neg h8])
    clear h2 h3 h4 h5 h7 h8
    rw [← hV5]
    clear hV5
    go_wp2_with fail
    go_ret
    exact ⟨nret_int (by rw [HE.out]), HB4.out.trans (V5.2.mono HB4.out.size)⟩
  | false =>
    have HNT := HN false
    simp only [Bool.false_eq_true, if_false] at HNT
    replace HE : Hid (PP = if pk = 2 then needPick x.alts pa else if pk = 3 ∨ pk = 4 then 1 else if pk = 5 then 1 + max (othersV x - 1) 0 + othersV y else if pk = 7 then branchV x.kind + othersV y else if pk = 8 then othersV y else 0) := HE
    clear HN
    go_enter Try.func13, Try.ntmps13
    go_upto_region 1 with fail
    rw [← hW]
    clear hW
    obtain ⟨V0, hV0⟩ := calm_in W
    rw [← hV0]
    clear hV0
    go_wp2_with fail
    refine (HNT _).mono ?_
    rintro e _ ⟨rfl, V2, rfl⟩
    go_upto_region 2 with fail
    obtain ⟨W4, hW4⟩ : ∃ W4, W4 = ((V2.1.alloc (.cells #[.int .i64 x.kind, .int .i64 x.level, .int .i64 x.n, .string x.name, .slice Bx x.alts.length (capN x.alts.length bx), .slice Cx x.to.length (capN x.to.length cx)] 25)).alloc (.cells #[.int .i64 y.kind, .int .i64 y.level, .int .i64 y.n, .string y.name, .slice By y.alts.length (capN y.alts.length by_), .slice Cy y.to.length (capN y.to.length cy)] 25)) := ⟨_, rfl⟩
    have hb4 : Below W.heap.size W W4 := by rw [hW4]; exact (V2.2.alloc V2.2.size _).alloc (by have := V2.2.size; simp; omega) _
    have LA : Lies W4 V2.1.heap.size 25 #[.int .i64 x.kind, .int .i64 x.level, .int .i64 x.n, .string x.name, .slice Bx x.alts.length (capN x.alts.length bx), .slice Cx x.to.length (capN x.to.length cx)] := by rw [hW4]; exact (Lies.new _ _ _).old _
    have LB : Lies W4 (V2.1.heap.size + 1) 25 #[.int .i64 y.kind, .int .i64 y.level, .int .i64 y.n, .string y.name, .slice By y.alts.length (capN y.alts.length by_), .slice Cy y.to.length (capN y.to.length cy)] := by rw [hW4]; simpa using Lies.new (V2.1.alloc (.cells #[.int .i64 x.kind, .int .i64 x.level, .int .i64 x.n, .string x.name, .slice Bx x.alts.length (capN x.alts.length bx), .slice Cx x.to.length (capN x.to.length cx)] 25)) 25 #[.int .i64 y.kind, .int .i64 y.level, .int .i64 y.n, .string y.name, .slice By y.alts.length (capN y.alts.length by_), .slice Cy y.to.length (capN y.to.length cy)]
    obtain ⟨gb, hgb⟩ : ∃ g, g = V2.1.heap.size + 1 := ⟨_, rfl⟩
    obtain ⟨ga, hga⟩ : ∃ g, g = V2.1.heap.size := ⟨_, rfl⟩
    rw [← hga] at LA
    rw [← hgb] at LB
    rw [← hW4, ← hgb, ← hga]
    clear hW4 hgb hga
    obtain ⟨m0, m1, m2, m3, m4, m5⟩ := six_cells LA
    obtain ⟨n0, n1, n2, n3, n4, n5⟩ := six_cells LB
    replace m0 := Abv.cell m0
    replace m1 := Abv.cell m1
    replace m2 := Abv.cell m2
    replace m3 := Abv.cell m3
    replace m4 := Abv.cell m4
    replace m5 := Abv.cell m5
    replace n0 := Abv.cell n0
    replace n1 := Abv.cell n1
    replace n2 := Abv.cell n2
    replace n3 := Abv.cell n3
    replace n4 := Abv.cell n4
    replace n5 := Abv.cell n5
    have z0 := Abv.cell ((hb4.cell (p := ⟨w.heap.size, 0, none⟩) (ncell_lt HP0.out)).trans HP0.out)
    have z3 := Abv.cell ((hb4.cell (p := ⟨w.heap.size, 3, none⟩) (ncell_lt HP3.out)).trans HP3.out)
    clear LA LB V2 HNT x0 x1 x2 x3 x4 x5 y0 y1 y2 y3 y4 y5 p0 p1 p2 p3 p4 p5 p6 p7 p8 p9
    have HB4 := Lib.hid (HB.out.trans (hb4.mono HB.out.size))
    have HPK := runeedpick_any x.alts Bx x.alts.length (capN x.alts.length bx) pa W4 rfl HNX.out.2.1 (HIW.out.2.1.below hb4 (Nat.le_refl _))
    have HO1 := fun V : Abv W4 => calm_all (fun U => ruothers_any x Bx Cx bx cx U HNX.out.2.2) V
    have HO2 := fun V : Abv W4 => calm_all (fun U => ruothers_any y By Cy by_ cy U HNY.out.2.2) V
    have HBR := fun V : Abv W4 => calm_all (fun U => rubranches_any x Bx Cx bx cx U) V
    unfold ndv at HO1 HO2 HBR
    have hox := others_in x HNX.out.2.2
    have hoy := others_in y HNY.out.2.2
    have hbr : 1 ≤ branchV x.kind ∧ branchV x.kind ≤ 2 := by unfold branchV; split <;> omega
    obtain ⟨ox, hoxE⟩ : ∃ q, q = othersV x := ⟨_, rfl⟩
    obtain ⟨oy, hoyE⟩ : ∃ q, q = othersV y := ⟨_, rfl⟩
    obtain ⟨br, hbrE⟩ : ∃ q, q = branchV x.kind := ⟨_, rfl⟩
    obtain ⟨np, hnpE⟩ : ∃ q, q = needPick x.alts pa := ⟨_, rfl⟩
    rw [← hoxE] at HO1 HE hox
    rw [← hoyE] at HO2 HE hoy
    rw [← hbrE] at HBR HE hbr
    rw [← hnpE] at HPK HE
    clear hoxE hoyE hbrE hnpE hb4
    have HPK := Lib.hid HPK
    have HO1 := Lib.hid HO1
    have HO2 := Lib.hid HO2
    have HBR := Lib.hid HBR
    obtain ⟨V5, hV5⟩ := calm_in W4
    by_cases h2 : pk = 2
    · subst h2
      replace HE : Hid (PP = np) := Lib.hid (by rw [HE.out]; simp)
      rw [← hV5] at HPK ⊢
      clear hV5
      go_wp2_with fail
      refine HPK.out.mono ?_
      rintro e _ ⟨rfl, rfl⟩
      go_wp2_with fail
      go_ret
      exact ⟨nret_int (by rw [HE.out]), HB4.out.trans (V5.2.mono HB4.out.size)⟩
    have g2 : (pk == 2) = false := by simpa using h2
    by_cases h3 : pk = 3
    · subst h3
      replace HE : Hid (PP = 1) := Lib.hid (by rw [HE.out]; simp)
      rw [← hV5]
      clear hV5
      go_wp2_with fail
      go_ret
      exact ⟨nret_int (by rw [HE.out]), HB4.out.trans (V5.2.mono HB4.out.size)⟩
    have g3 : (pk == 3) = false := by simpa using h3
    by_cases h4 : pk = 4
    · subst h4
      replace HE : Hid (PP = 1) := Lib.hid (by rw [HE.out]; simp)
      rw [← hV5]
      clear hV5
      go_wp2_with fail
      go_ret
      exact ⟨nret_int (by rw [HE.out]), HB4.out.trans (V5.2.mono HB4.out.size)⟩
    have g4 : (pk == 4) = false := by simpa using h4
    by_cases h5 : pk = 5
    · subst h5
      replace HE : Hid (PP = 1 + max (ox - 1) 0 + oy) := Lib.hid (by rw [HE.out]; simp)
      rw [← hV5]
      clear hV5
      go_upto_region 9 with fail
      refine region_calm_in (by kernel_rfl) (by kernel_rfl) ?_
      go_big_quiet_step (fail)
      go_big_quiet_step (exact HO1.out _)
      go_big_quiet_step (fail)
      go_big_quiet_step (fail)
      go_big_quiet_step (fail)
      go_big_quiet_step (fail)
      go_big_quiet_step (exact HO2.out _)
      go_big_quiet_step (fail)
      go_big_quiet_step (fail)
      refine wpQuiet_nil ?_
      rintro _ ⟨V9, rfl⟩
      go_wp2_with fail
      go_ret
      exact ⟨nret_int (by rw [HE.out]), HB4.out.trans (V9.2.mono HB4.out.size)⟩
    have g5 : (pk == 5) = false := by simpa using h5
    by_cases h7 : pk = 7
    · subst h7
      replace HE : Hid (PP = br + oy) := Lib.hid (by rw [HE.out]; simp)
      rw [← hV5]
      clear hV5
      go_upto_region 11 with fail
      refine region_calm_in (by kernel_rfl) (by kernel_rfl) ?_
      go_big_quiet_step (fail)
      go_big_quiet_step (exact HBR.out _)
      go_big_quiet_step (fail)
      go_big_quiet_step (exact HO2.out _)
      go_big_quiet_step (fail)
      go_big_quiet_step (fail)
      refine wpQuiet_nil ?_
      rintro _ ⟨V9, rfl⟩
      go_wp2_with fail
      go_ret
      exact ⟨nret_int (by rw [HE.out]), HB4.out.trans (V9.2.mono HB4.out.size)⟩
    have g7 : (pk == 7) = false := by simpa using h7
    by_cases h8 : pk = 8
    · subst h8
      replace HE : Hid (PP = oy) := Lib.hid (by rw [HE.out]; simp)
      rw [← hV5]
      clear hV5
      go_wp2_with fail
      refine (HO2.out _).mono ?_
      rintro e _ ⟨rfl, V6, rfl⟩
      go_wp2_with fail
      go_ret
      exact ⟨nret_int (by rw [HE.out]), HB4.out.trans (V6.2.mono HB4.out.size)⟩
    have g8 : (pk == 8) = false := by simpa using h8
    replace HE : Hid (PP = 0) := Lib.hid (by rw [HE.out, if_neg h2, if_neg (by omega), if_neg h5, if_neg h7, if_neg h8])
    clear h2 h3 h4 h5 h7 h8
    rw [← hV5]
    clear hV5
    go_wp2_with fail
    go_ret
    exact ⟨nret_int (by rw [HE.out]), HB4.out.trans (V5.2.mono HB4.out.size)⟩
end Lx
end Go.Proofs.Ytlamjjkcbadibaa
namespace Go.Proofs.Ytlamjjkcbadibaa
open Go Go.RowKit
namespace Lx
set_option maxRecDepth 100000
theorem rucontrol_any (k : Int) (w : World) : Calls Try.prog 15 #[.int .i64 k] w fun e w' => e = .returned (.bool (decide (k = 4 ∨ k = 5 ∨ k = 6))) ∧ w = w' := by
  rcases (by omega : k = 4 ∨ k = 5 ∨ k = 6 ∨ (k ≠ 4 ∧ k ≠ 5 ∧ k ≠ 6)) with rfl | rfl | rfl | ⟨a4, a5, a6⟩
  rotate_right
  · have h4 : (k == 4) = false := by simpa using a4
    have h5 : (k == 5) = false := by simpa using a5
    have h6 : (k == 6) = false := by simpa using a6
    have HE : Hid (decide (k = 4 ∨ k = 5 ∨ k = 6) = false) := Lib.hid (decide_eq_false (by omega))
    clear a4 a5 a6
    go_enter Try.func15, Try.ntmps15
    go_wp2_with fail
    go_ret
    exact ⟨nret_bool HE.out.symm, rfl⟩
  all_goals
    go_enter Try.func15, Try.ntmps15
    go_wp2_with fail
    go_ret
    exact ⟨rfl, rfl⟩
theorem ruasks_any (k : Int) (w : World) : Calls Try.prog 16 #[.int .i64 k] w fun e w' => e = .returned (.bool (decide (k = 3 ∨ k = 9 ∨ k = 11 ∨ k = 12))) ∧ w = w' := by
  rcases (by omega : k = 3 ∨ k = 9 ∨ k = 11 ∨ k = 12 ∨ (k ≠ 3 ∧ k ≠ 9 ∧ k ≠ 11 ∧ k ≠ 12)) with rfl | rfl | rfl | rfl | ⟨a3, a9, a11, a12⟩
  rotate_right
  · have h3 : (k == 3) = false := by simpa using a3
    have h9 : (k == 9) = false := by simpa using a9
    have h11 : (k == 11) = false := by simpa using a11
    have h12 : (k == 12) = false := by simpa using a12
    have HE : Hid (decide (k = 3 ∨ k = 9 ∨ k = 11 ∨ k = 12) = false) := Lib.hid (decide_eq_false (by omega))
    clear a3 a9 a11 a12
    go_enter Try.func16, Try.ntmps16
    go_wp2_with fail
    go_ret
    exact ⟨nret_bool HE.out.symm, rfl⟩
  all_goals
    go_enter Try.func16, Try.ntmps16
    go_wp2_with fail
    go_ret
    exact ⟨rfl, rfl⟩
theorem rutold_any (k : Int) (w : World) : Calls Try.prog 17 #[.int .i64 k] w fun e w' => e = .returned (.bool (decide (k = 2 ∨ k = 8 ∨ k = 10 ∨ k = 13))) ∧ w = w' := by
  rcases (by omega : k = 2 ∨ k = 8 ∨ k = 10 ∨ k = 13 ∨ (k ≠ 2 ∧ k ≠ 8 ∧ k ≠ 10 ∧ k ≠ 13)) with rfl | rfl | rfl | rfl | ⟨a2, a8, a10, a13⟩
  rotate_right
  · have h2 : (k == 2) = false := by simpa using a2
    have h8 : (k == 8) = false := by simpa using a8
    have h10 : (k == 10) = false := by simpa using a10
    have h13 : (k == 13) = false := by simpa using a13
    have HE : Hid (decide (k = 2 ∨ k = 8 ∨ k = 10 ∨ k = 13) = false) := Lib.hid (decide_eq_false (by omega))
    clear a2 a8 a10 a13
    go_enter Try.func17, Try.ntmps17
    go_wp2_with fail
    go_ret
    exact ⟨nret_bool HE.out.symm, rfl⟩
  all_goals
    go_enter Try.func17, Try.ntmps17
    go_wp2_with fail
    go_ret
    exact ⟨rfl, rfl⟩
def smallR (x : Nd) : Bool := decide (x.to.length ≤ 20 ∧ x.alts.length ≤ 20 ∧ x.level ≤ 1000 ∧ -1000 ≤ x.level)
def tameV (l : List (ByteArray × Int)) : Bool := l.all fun a => decide (a.2 ≤ 1000 ∧ -1000 ≤ a.2)
set_option maxHeartbeats 8000000 in
theorem rusmall_any (x : Nd) (B C : Option Addr) (b c : Nat) (w : World) : Calls Try.prog 9 #[ndv x B b C c] w fun e w' => e = .returned (.bool (smallR x)) ∧ Below w.heap.size w w' := by
  obtain ⟨k, lv, n, s, al, tp⟩ := x
  have hb : Below w.heap.size w (w.alloc (.cells #[.int .i64 k, .int .i64 lv, .int .i64 n, .string s, .slice B al.length (capN al.length b), .slice C tp.length (capN tp.length c)] 25)) := (Below.refl _ w).alloc (Nat.le_refl _) _
  unfold ndv
  simp only
  have HE : Hid (smallR ⟨k, lv, n, s, al, tp⟩ = decide (tp.length ≤ 20 ∧ al.length ≤ 20 ∧ lv ≤ 1000 ∧ -1000 ≤ lv)) := Lib.hid rfl
  obtain ⟨q, hq⟩ : ∃ q, q = smallR ⟨k, lv, n, s, al, tp⟩ := ⟨_, rfl⟩
  rw [← hq] at HE ⊢
  obtain ⟨ma, hma⟩ : ∃ m, m = al.length := ⟨_, rfl⟩
  obtain ⟨mt, hmt⟩ : ∃ m, m = tp.length := ⟨_, rfl⟩
  rw [← hma, ← hmt] at HE hb ⊢
  clear hq hma hmt
  by_cases h1 : mt ≤ 20
  · have d1 : decide ((mt : Int) ≤ 20) = true := decide_eq_true (by omega)
    by_cases h2 : ma ≤ 20
    · have d2 : decide ((ma : Int) ≤ 20) = true := decide_eq_true (by omega)
      by_cases h3 : lv ≤ 1000
      · have d3 : decide (lv ≤ 1000) = true := decide_eq_true h3
        by_cases h4 : -1000 ≤ lv
        · have d4 : decide (-1000 ≤ lv) = true := decide_eq_true h4
          replace HE : Hid (q = true) := Lib.hid (by rw [HE.out]; exact decide_eq_true ⟨h1, h2, h3, h4⟩)
          go_enter Try.func9, Try.ntmps9
          go_wp2_with fail
          go_ret
          exact ⟨nret_bool (by rw [HE.out]), hb⟩
        · have d4 : decide (-1000 ≤ lv) = false := decide_eq_false h4
          replace HE : Hid (q = false) := Lib.hid (by rw [HE.out]; exact decide_eq_false (fun e => h4 e.2.2.2))
          go_enter Try.func9, Try.ntmps9
          go_wp2_with fail
          go_ret
          exact ⟨nret_bool (by rw [HE.out]), hb⟩
      · have d3 : decide (lv ≤ 1000) = false := decide_eq_false h3
        go_enter Try.func9, Try.ntmps9
        go_wp2_with fail
        go_ret
        exact ⟨nret_bool (by rw [HE.out]; exact (decide_eq_false (fun e => by omega)).symm), hb⟩
    · have d2 : decide ((ma : Int) ≤ 20) = false := decide_eq_false (by omega)
      have d2' : decide (ma ≤ 20) = false := decide_eq_false h2
      go_enter Try.func9, Try.ntmps9
      go_wp2_with fail
      go_ret
      exact ⟨nret_bool (by rw [HE.out]; exact (decide_eq_false (fun e => by omega)).symm), hb⟩
  · have d1 : decide ((mt : Int) ≤ 20) = false := decide_eq_false (by omega)
    have d1' : decide (mt ≤ 20) = false := decide_eq_false h1
    go_enter Try.func9, Try.ntmps9
    go_wp2_with fail
    go_ret
    exact ⟨nret_bool (by rw [HE.out]; exact (decide_eq_false (fun e => by omega)).symm), hb⟩
theorem tameV_no {l : List (ByteArray × Int)} {i : Nat} (h : i < l.length) (h2 : ¬ ((l[i]'h).2 ≤ 1000 ∧ -1000 ≤ (l[i]'h).2)) : tameV l = false := by
  rw [tameV, List.all_eq_false]
  exact ⟨l[i]'h, List.getElem_mem h, by simpa using h2⟩
theorem tameV_yes {l : List (ByteArray × Int)} (h : ∀ i (hi : i < l.length), (l[i]'hi).2 ≤ 1000 ∧ -1000 ≤ (l[i]'hi).2) : tameV l = true := by
  rw [tameV, List.all_eq_true]
  intro a ha
  obtain ⟨i, hi, rfl⟩ := List.mem_iff_getElem.1 ha
  simpa using h i hi
set_option maxHeartbeats 8000000 in
theorem rutame_any (x : Nd) (B C : Option Addr) (b c : Nat) (w : World) (hI : NdIn w AnyB x B C) (hs : x.alts.length ≤ 140737488351232) : Calls Try.prog 10 #[ndv x B b C c] w fun e w' => e = .returned (.bool (tameV x.alts)) ∧ Below w.heap.size w w' := by
  obtain ⟨k, lv, n, s, al, tp⟩ := x
  obtain ⟨_, hA, _⟩ := hI
  simp only at hA hs
  obtain ⟨w1, hw1⟩ : ∃ w1, w1 = w.alloc (.cells #[.int .i64 k, .int .i64 lv, .int .i64 n, .string s, .slice B al.length (capN al.length b), .slice C tp.length (capN tp.length c)] 25) := ⟨_, rfl⟩
  have hb : Below w.heap.size w w1 := by rw [hw1]; exact (Below.refl _ w).alloc (Nat.le_refl _) _
  have L : Lies w1 w.heap.size 25 #[.int .i64 k, .int .i64 lv, .int .i64 n, .string s, .slice B al.length (capN al.length b), .slice C tp.length (capN tp.length c)] := by rw [hw1]; exact Lies.new _ _ _
  have x4 := (six_cells L).2.2.2.2.1
  unfold ndv
  simp only
  obtain ⟨m, hm⟩ : ∃ m, m = al.length := ⟨_, rfl⟩
  rw [← hm] at hw1 x4 hs ⊢
  have HA := Lib.hid (hA.below hb (Nat.le_refl _))
  have HM := Lib.hid hm
  clear hA L hm
  go_enter Try.func10, Try.ntmps10
  go_upto_region 1 with fail
  rw [← hw1]
  clear hw1
  have hx4 := ncell_lt x4
  have HB := Lib.hid hb
  clear hb
  go_wp2_with fail
  go_loopw [3] (fun y wr => ∃ i : Nat, i ≤ m ∧ y = .int .i64 i ∧ Hid (∀ j (hj : j < al.length), j < i → (al[j]'hj).2 ≤ 1000 ∧ -1000 ≤ (al[j]'hj).2) ∧ w1 = wr) (fun y _ => m - (intOf y).toNat)
  case atStart => exact ⟨0, Nat.zero_le _, rfl, Lib.hid (fun j _ h => by omega), rfl⟩
  case round =>
    obtain ⟨i, hi, rfl, hT, rfl⟩ := hrel
    by_cases hlt : i < m
    · have hil : i < al.length := by have := HM.out; omega
      obtain ⟨g, o, ⟨rfl, _⟩, d0, d1, d2⟩ := HA.out i hil
      obtain ⟨v, hv⟩ : ∃ v, v = (al[i]'hil).2 := ⟨_, rfl⟩
      rw [← hv] at d1
      have HV := Lib.hid hv
      have hc := le_capN m b
      clear hv d0 d2
      by_cases h1 : v ≤ 1000
      · have e1 : decide (1000 < v) = false := decide_eq_false (by omega)
        by_cases h2 : -1000 ≤ v
        · have e2 : decide (v < -1000) = false := decide_eq_false (by omega)
          have H12 := Lib.hid (And.intro h1 h2)
          clear h1 h2
          go_wp2_with fail
          go_roundw
          case rel =>
            go_light
            refine ⟨i + 1, by omega, by go_num, Lib.hid (fun j hj hji => ?_), trivial⟩
            by_cases e : j = i
            · subst e; rw [← HV.out]; exact H12.out
            · exact hT.out j hj (by omega)
          case measure => simp [intOf]; omega
        · have e2 : decide (v < -1000) = true := decide_eq_true (by omega)
          have H12 := Lib.hid h2
          clear h1 h2
          go_wp2_with fail
          go_ret
          exact ⟨nret_bool (tameV_no hil (by rw [← HV.out]; exact fun e => by have := H12.out; omega)).symm, HB.out⟩
      · have e1 : decide (1000 < v) = true := decide_eq_true (by omega)
        have H12 := Lib.hid h1
        clear h1
        go_wp2_with fail
        go_ret
        exact ⟨nret_bool (tameV_no hil (by rw [← HV.out]; exact fun e => by have := H12.out; omega)).symm, HB.out⟩
    · go_wp2_with fail
      go_ret
      exact ⟨nret_bool (tameV_yes (fun j hj => hT.out j hj (by have := HM.out; omega))).symm, HB.out⟩
set_option maxHeartbeats 8000000 in
theorem rusame_any (p : Pl) (C C' : Option Addr) (c c' : Nat) (w : World) (h : PlOk w AnyB p C) (h' : PlOk w AnyB p C') :
    Calls Try.prog 12 #[plv p C c, plv p C' c'] w fun e w' => e = .returned (.bool true) ∧ Below w.heap.size w w' := by
  obtain ⟨pk, ps, pl, pa, nk, nl, nn, ns, na, nt⟩ := p
  obtain ⟨ha, hI⟩ := h
  obtain ⟨_, hJ⟩ := h'
  simp only at ha
  subst ha
  unfold plv
  simp only
  obtain ⟨W, hW⟩ : ∃ W, W = ((w.alloc (.cells #[.int .i64 pk, .bool ps, .int .i64 pl, .int .i64 pa, .int .i64 nk, .int .i64 nl, .int .i64 nn, .string ns, .slice none 0 0, .slice C nt.length (capN nt.length c)] 29)).alloc (.cells #[.int .i64 pk, .bool ps, .int .i64 pl, .int .i64 pa, .int .i64 nk, .int .i64 nl, .int .i64 nn, .string ns, .slice none 0 0, .slice C' nt.length (capN nt.length c')] 29)) := ⟨_, rfl⟩
  have hbW : Below w.heap.size w W := by rw [hW]; exact (((Below.refl _ w).alloc (Nat.le_refl _) _).alloc (by simp) _)
  have L0 : Lies W (w.heap.size) 29 #[.int .i64 pk, .bool ps, .int .i64 pl, .int .i64 pa, .int .i64 nk, .int .i64 nl, .int .i64 nn, .string ns, .slice none 0 0, .slice C nt.length (capN nt.length c)] := by
    rw [hW]
    refine Lies.old ?_ _
    exact Lies.new _ _ _
  have L1 : Lies W (w.heap.size + 1) 29 #[.int .i64 pk, .bool ps, .int .i64 pl, .int .i64 pa, .int .i64 nk, .int .i64 nl, .int .i64 nn, .string ns, .slice none 0 0, .slice C' nt.length (capN nt.length c')] := by
    rw [hW]
    simpa using Lies.new (w.alloc (.cells #[.int .i64 pk, .bool ps, .int .i64 pl, .int .i64 pa, .int .i64 nk, .int .i64 nl, .int .i64 nn, .string ns, .slice none 0 0, .slice C nt.length (capN nt.length c)] 29)) 29 #[.int .i64 pk, .bool ps, .int .i64 pl, .int .i64 pa, .int .i64 nk, .int .i64 nl, .int .i64 nn, .string ns, .slice none 0 0, .slice C' nt.length (capN nt.length c')]
  obtain ⟨p0, p1, p2, p3, p4, p5, p6, p7, p8, p9⟩ := ten_cells L0
  replace p0 := Abv.cell p0
  replace p1 := Abv.cell p1
  replace p2 := Abv.cell p2
  replace p3 := Abv.cell p3
  replace p4 := Abv.cell p4
  replace p5 := Abv.cell p5
  replace p6 := Abv.cell p6
  replace p7 := Abv.cell p7
  replace p8 := Abv.cell p8
  replace p9 := Abv.cell p9
  obtain ⟨q0, q1, q2, q3, q4, q5, q6, q7, q8, q9⟩ := ten_cells L1
  replace q0 := Abv.cell q0
  replace q1 := Abv.cell q1
  replace q2 := Abv.cell q2
  replace q3 := Abv.cell q3
  replace q4 := Abv.cell q4
  replace q5 := Abv.cell q5
  replace q6 := Abv.cell q6
  replace q7 := Abv.cell q7
  replace q8 := Abv.cell q8
  replace q9 := Abv.cell q9
  have HB := Lib.hid hbW
  clear L0 L1 hbW
  have HC : Hid (∀ V : Abv W, Calls Try.prog 24 #[.agg #[.int .i64 nk, .int .i64 nl, .int .i64 nn, .string ns, .slice none 0 0, .slice C nt.length (capN nt.length c)], .agg #[.int .i64 nk, .int .i64 nl, .int .i64 nn, .string ns, .slice none 0 0, .slice C' nt.length (capN nt.length c')]] V.1 fun e w' => e = .returned (.bool true) ∧ Below V.1.heap.size V.1 w') := Lib.hid fun V =>
    one_any ⟨nk, nl, nn, ns, [], nt⟩ none C none C' 0 c 0 c' V.1 ((hI.below HB.out (Nat.le_refl _)).below V.2 (Nat.le_refl _)) ((hJ.below HB.out (Nat.le_refl _)).below V.2 (Nat.le_refl _))
  clear hI hJ
  go_enter Try.func12, Try.ntmps12
  go_upto_region 1 with fail
  rw [← hW]
  clear hW
  obtain ⟨V0, hV0⟩ := calm_in W
  rw [← hV0]
  clear hV0
  go_wp2_with fail
  refine (HC.out _).mono ?_
  rintro e w2 ⟨rfl, hb2⟩
  go_wp2_with fail
  go_ret
  exact ⟨rfl, (HB.out.trans (V0.2.mono HB.out.size)).trans (hb2.mono (HB.out.trans (V0.2.mono HB.out.size)).size)⟩
def bareN (k l : Int) : Nd := ⟨k, l, 0, ⟨#[]⟩, [], []⟩
theorem bareN_in (k l : Int) (w : World) : NdIn w AnyB (bareN k l) none none := ⟨⟨by show (⟨#[]⟩ : ByteArray).size ≤ _; decide, by simp [bareN], by simp [bareN]⟩, AltIn.nil, ToIn.nil⟩
set_option maxHeartbeats 8000000 in
theorem ruplanL_any (a x b y : Int) (w : World) : Calls Try.prog 20 #[.int .i64 a, .int .i64 x, .int .i64 b, .int .i64 y] w (GivesPl (ofN (bareN a x) (bareN b y)).1 (ofN (bareN a x) (bareN b y)).2 w) := by
  have HC : Hid (∀ U, Below w.heap.size w U → Calls Try.prog 11 #[.agg #[.int .i64 a, .int .i64 x, .int .i64 0, .string ⟨#[]⟩, .slice none 0 0, .slice none 0 0], .agg #[.int .i64 b, .int .i64 y, .int .i64 0, .string ⟨#[]⟩, .slice none 0 0, .slice none 0 0]] U (GivesPl (ofN (bareN a x) (bareN b y)).1 (ofN (bareN a x) (bareN b y)).2 U)) := Lib.hid fun U _ => ruof_any (bareN a x) (bareN b y) none none 0 0 none none 0 0 U (bareN_in _ _ _) (bareN_in _ _ _)
  obtain ⟨Q, hQ⟩ : ∃ q, q = ofN (bareN a x) (bareN b y) := ⟨_, rfl⟩
  rw [← hQ] at HC ⊢
  clear hQ
  obtain ⟨W, hW⟩ : ∃ W, W = (w.alloc (.cells #[.int .i64 0, .bool false, .int .i64 0, .int .i64 0, .int .i64 0, .int .i64 0, .int .i64 0, .string ⟨#[]⟩, .slice none 0 0, .slice none 0 0] 29)) := ⟨_, rfl⟩
  have hbW : Below w.heap.size w W := by rw [hW]; exact ((Below.refl _ w).alloc (Nat.le_refl _) _)
  have L0 : Lies W (w.heap.size) 29 #[.int .i64 0, .bool false, .int .i64 0, .int .i64 0, .int .i64 0, .int .i64 0, .int .i64 0, .string ⟨#[]⟩, .slice none 0 0, .slice none 0 0] := by
    rw [hW]
    exact Lies.new _ _ _
  obtain ⟨r0, r1, r2, r3, r4, r5, r6, r7, r8, r9⟩ := ten_cells L0
  replace r0 := Abv.cell r0
  replace r1 := Abv.cell r1
  replace r2 := Abv.cell r2
  replace r3 := Abv.cell r3
  replace r4 := Abv.cell r4
  replace r5 := Abv.cell r5
  replace r6 := Abv.cell r6
  replace r7 := Abv.cell r7
  replace r8 := Abv.cell r8
  replace r9 := Abv.cell r9
  have HR := Lib.hid L0
  obtain ⟨f0, f1, f2, f3, f4, f5, f6, f7, f8, f9⟩ := ten_frozen L0
  replace f0 := Abv.unfrozen L0.lt f0
  replace f1 := Abv.unfrozen L0.lt f1
  replace f2 := Abv.unfrozen L0.lt f2
  replace f3 := Abv.unfrozen L0.lt f3
  replace f4 := Abv.unfrozen L0.lt f4
  replace f5 := Abv.unfrozen L0.lt f5
  replace f6 := Abv.unfrozen L0.lt f6
  replace f7 := Abv.unfrozen L0.lt f7
  replace f8 := Abv.unfrozen L0.lt f8
  replace f9 := Abv.unfrozen L0.lt f9
  have HB := Lib.hid hbW
  clear L0 hbW
  have HCW := fun V : Abv W => HC.out V.1 (HB.out.trans (V.2.mono HB.out.size))
  have HC2 := Lib.hid HCW
  clear HC HCW
  go_enter Try.func20, Try.ntmps20
  go_upto_region 1 with fail
  rw [← hW]
  clear hW
  obtain ⟨V0, hV0⟩ := calm_in W
  rw [← hV0]
  clear hV0
  go_wp2_with fail
  refine (HC2.out V0).mono ?_
  rintro e w5 ⟨C5, c5, rfl, hP5, hb5⟩
  have hr9 := Nat.lt_of_lt_of_le HR.out.lt V0.2.size
  have lr := ((HR.out.below V0.2 HR.out.lt).below hb5 hr9)
  clear r0 r1 r2 r3 r4 r5 r6 r7 r8 r9 f0 f1 f2 f3 f4 f5 f6 f7 f8 f9
  obtain ⟨r0, r1, r2, r3, r4, r5, r6, r7, r8, r9⟩ := ten_cells lr
  obtain ⟨f0, f1, f2, f3, f4, f5, f6, f7, f8, f9⟩ := ten_frozen lr
  have HL := Lib.hid lr
  have HP5 := Lib.hid hP5
  have HB5 := Lib.hid hb5
  have HR9 := Lib.hid hr9
  clear lr hP5 hb5 hr9
  simp only [plv]
  go_wp2_with fail
  refine bodyPost_ret (res_plan2 (p := 8) (q := 9) Try.results20 rfl (lies_put10 HL.out _ _ _ _ _ _ _ _ _ _)) rfl ?_
  exact givesPl_put HP5.out (by omega) HR9.out (HB.out.trans (V0.2.mono HB.out.size)) HB5.out _ _ _ _ _ _ _ _ _ _
end Lx
end Go.Proofs.Ytlamjjkcbadibaa
