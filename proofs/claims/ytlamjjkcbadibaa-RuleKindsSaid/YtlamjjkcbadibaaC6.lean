/-
  Texts that lie one behind the other: RuL RuM.
-/
import Derived.Test.YtlamjjkcbadibaaC5
import Derived.Test.YtlamjjkcbadibaaC1
namespace Go.Proofs.Ytlamjjkcbadibaa
open Go Go.RowKit
namespace Lx
set_option maxRecDepth 100000
def caseN : Nd := ⟨9, 0, 0, ⟨#[]⟩, [(⟨#[65]⟩, 0), (⟨#[66]⟩, 2)], []⟩
def consN : Nd := ⟨8, 0, 0, ⟨#[66]⟩, [], [(0, 0), (0, 0), (0, 0)]⟩
theorem rufx0 : ofN (bareN 3 2) (bareN 2 2) = (Pl.one 1, 0) := by kernel_rfl
theorem rufx1 : ofN (bareN 3 2) (bareN 2 1) = (Pl.zero, 140) := by kernel_rfl
theorem rufx2 : ofN (bareN 2 3) (bareN 5 1) = (⟨7, true, 2, 0, Nd.zero⟩, 0) := by kernel_rfl
theorem rufx3 : ofN (bareN 6 1) (bareN 2 60) = (Pl.zero, 141) := by kernel_rfl
theorem rufx4 : ofN (bareN 4 4) (bareN 4 4) = (Pl.one 6, 0) := by kernel_rfl
theorem rufx5 : ofN (bareN 4 4) (bareN 6 2) = (⟨7, true, 5, 0, Nd.zero⟩, 0) := by kernel_rfl
theorem rufx6 : ofN (bareN 4 4) (bareN 6 4) = (Pl.zero, 140) := by kernel_rfl
theorem rufx7 : ofN (bareN 10 0) (bareN 7 9) = (⟨8, true, 0, 0, Nd.zero⟩, 0) := by kernel_rfl
theorem rufx8 : ofN (⟨12, 1, 5, ⟨#[45]⟩, [], []⟩ : Nd) (⟨10, 0, 7, ⟨#[]⟩, [], []⟩ : Nd) = (⟨4, false, 0, 0, ⟨10, 1, -2, ⟨#[]⟩, [], [(0, 0)]⟩⟩, 0) := by kernel_rfl
theorem rufx9 : ofN (⟨12, 0, 5, ⟨#[47]⟩, [], []⟩ : Nd) (⟨10, 0, 0, ⟨#[]⟩, [], []⟩ : Nd) = (Pl.one 5, 0) := by kernel_rfl
theorem rufx10 : ofN consN caseN = (⟨2, true, 0, 1, Nd.zero⟩, 0) := by kernel_rfl
theorem rufx11 : ofN (bareN 1 0) (bareN 10 0) = (Pl.zero, 140) := by kernel_rfl
theorem rufx12 : ofN (bareN 2 0) (bareN 10 0) = (Pl.zero, 140) := by kernel_rfl
theorem rufxneed : needV ⟨2, true, 0, 1, Nd.zero⟩ consN caseN = 3 := by kernel_rfl
theorem leaf_in (k l n : Int) (s : ByteArray) (hs : s.size ≤ 140737488351232) (w : World) : NdIn w AnyB ⟨k, l, n, s, [], []⟩ none none := ⟨⟨hs, by simp, by simp⟩, AltIn.nil, ToIn.nil⟩
set_option maxHeartbeats 16000000 in
theorem fixed14_any (w : World) : Calls Try.prog 8 #[] w fun e w' => e = .returned (.bool true) ∧ Below w.heap.size w w' := by
  have HB := Lib.hid (Below.refl w.heap.size w)
  go_enter Try.func8, Try.ntmps8
  go_wp2_with fail
  have HC0 := Lib.hid (ruplanL_any 3 2 2 2 w)
  rw [rufx0] at HC0
  refine HC0.out.mono ?_
  clear HC0
  rintro e u0 ⟨C0, c0, rfl, hP0, hb0⟩
  simp only [plv, Pl.one, Nd.zero, List.length_nil]
  replace HB := Lib.hid (HB.out.trans (hb0.mono HB.out.size))
  go_upto_region 2 with fail
  obtain ⟨v0, hv0⟩ : ∃ v, v = u0.alloc (.cells #[.int .i64 1, .bool false, .int .i64 0, .int .i64 0, .int .i64 0, .int .i64 0, .int .i64 0, .string ⟨#[]⟩, .slice none 0 0, .slice C0 0 (capN 0 c0)] 29) := ⟨_, rfl⟩
  have hbv0 : Below u0.heap.size u0 v0 := by rw [hv0]; exact (Below.refl _ _).alloc (Nat.le_refl _) _
  have L0 : Lies v0 u0.heap.size 29 #[.int .i64 1, .bool false, .int .i64 0, .int .i64 0, .int .i64 0, .int .i64 0, .int .i64 0, .string ⟨#[]⟩, .slice none 0 0, .slice C0 0 (capN 0 c0)] := by rw [hv0]; exact Lies.new _ _ _
  replace HB := Lib.hid (HB.out.trans (hbv0.mono HB.out.size))
  obtain ⟨g0, hg0⟩ : ∃ g, g = u0.heap.size := ⟨_, rfl⟩
  rw [← hv0, ← hg0]
  have z0_0 : v0.cell? ⟨g0, 0, none⟩ = some (.int .i64 1) := by rw [hg0]; exact L0.cell 0
  clear hv0 hg0 hb0 hbv0 L0 hP0 u0
  go_wp2_with fail
  have HC1 := Lib.hid (ruplanL_any 3 2 2 1 v0)
  rw [rufx1] at HC1
  refine HC1.out.mono ?_
  clear HC1
  rintro e u1 ⟨C1, c1, rfl, hP1, hb1⟩
  simp only [plv, Pl.zero, Nd.zero, List.length_nil]
  replace z0_0 := (hb1.cell (p := ⟨g0, 0, none⟩) (ncell_lt z0_0)).trans z0_0
  replace HB := Lib.hid (HB.out.trans (hb1.mono HB.out.size))
  go_upto_region 3 with fail
  obtain ⟨v1, hv1⟩ : ∃ v, v = u1.alloc (.cells #[.int .i64 0, .bool false, .int .i64 0, .int .i64 0, .int .i64 0, .int .i64 0, .int .i64 0, .string ⟨#[]⟩, .slice none 0 0, .slice C1 0 (capN 0 c1)] 29) := ⟨_, rfl⟩
  have hbv1 : Below u1.heap.size u1 v1 := by rw [hv1]; exact (Below.refl _ _).alloc (Nat.le_refl _) _
  replace z0_0 := (hbv1.cell (p := ⟨g0, 0, none⟩) (ncell_lt z0_0)).trans z0_0
  replace HB := Lib.hid (HB.out.trans (hbv1.mono HB.out.size))
  obtain ⟨g1, hg1⟩ : ∃ g, g = u1.heap.size := ⟨_, rfl⟩
  rw [← hv1, ← hg1]
  clear hv1 hg1 hb1 hbv1  hP1 u1
  go_wp2_with fail
  have HC2 := Lib.hid (ruplanL_any 2 3 5 1 v1)
  rw [rufx2] at HC2
  refine HC2.out.mono ?_
  clear HC2
  rintro e u2 ⟨C2, c2, rfl, hP2, hb2⟩
  simp only [plv, Nd.zero, List.length_nil]
  replace z0_0 := (hb2.cell (p := ⟨g0, 0, none⟩) (ncell_lt z0_0)).trans z0_0
  replace HB := Lib.hid (HB.out.trans (hb2.mono HB.out.size))
  go_upto_region 4 with fail
  obtain ⟨v2, hv2⟩ : ∃ v, v = u2.alloc (.cells #[.int .i64 7, .bool true, .int .i64 2, .int .i64 0, .int .i64 0, .int .i64 0, .int .i64 0, .string ⟨#[]⟩, .slice none 0 0, .slice C2 0 (capN 0 c2)] 29) := ⟨_, rfl⟩
  have hbv2 : Below u2.heap.size u2 v2 := by rw [hv2]; exact (Below.refl _ _).alloc (Nat.le_refl _) _
  have L2 : Lies v2 u2.heap.size 29 #[.int .i64 7, .bool true, .int .i64 2, .int .i64 0, .int .i64 0, .int .i64 0, .int .i64 0, .string ⟨#[]⟩, .slice none 0 0, .slice C2 0 (capN 0 c2)] := by rw [hv2]; exact Lies.new _ _ _
  replace z0_0 := (hbv2.cell (p := ⟨g0, 0, none⟩) (ncell_lt z0_0)).trans z0_0
  replace HB := Lib.hid (HB.out.trans (hbv2.mono HB.out.size))
  obtain ⟨g2, hg2⟩ : ∃ g, g = u2.heap.size := ⟨_, rfl⟩
  rw [← hv2, ← hg2]
  have z2_0 : v2.cell? ⟨g2, 0, none⟩ = some (.int .i64 7) := by rw [hg2]; exact L2.cell 0
  have z2_1 : v2.cell? ⟨g2, 1, none⟩ = some (.bool true) := by rw [hg2]; exact L2.cell 1
  have z2_2 : v2.cell? ⟨g2, 2, none⟩ = some (.int .i64 2) := by rw [hg2]; exact L2.cell 2
  clear hv2 hg2 hb2 hbv2 L2 hP2 u2
  go_wp2_with fail
  have HC3 := Lib.hid (ruplanL_any 6 1 2 60 v2)
  rw [rufx3] at HC3
  refine HC3.out.mono ?_
  clear HC3
  rintro e u3 ⟨C3, c3, rfl, hP3, hb3⟩
  simp only [plv, Pl.zero, Nd.zero, List.length_nil]
  replace z0_0 := (hb3.cell (p := ⟨g0, 0, none⟩) (ncell_lt z0_0)).trans z0_0
  replace z2_0 := (hb3.cell (p := ⟨g2, 0, none⟩) (ncell_lt z2_0)).trans z2_0
  replace z2_1 := (hb3.cell (p := ⟨g2, 1, none⟩) (ncell_lt z2_1)).trans z2_1
  replace z2_2 := (hb3.cell (p := ⟨g2, 2, none⟩) (ncell_lt z2_2)).trans z2_2
  replace HB := Lib.hid (HB.out.trans (hb3.mono HB.out.size))
  go_upto_region 5 with fail
  obtain ⟨v3, hv3⟩ : ∃ v, v = u3.alloc (.cells #[.int .i64 0, .bool false, .int .i64 0, .int .i64 0, .int .i64 0, .int .i64 0, .int .i64 0, .string ⟨#[]⟩, .slice none 0 0, .slice C3 0 (capN 0 c3)] 29) := ⟨_, rfl⟩
  have hbv3 : Below u3.heap.size u3 v3 := by rw [hv3]; exact (Below.refl _ _).alloc (Nat.le_refl _) _
  have L3 : Lies v3 u3.heap.size 29 #[.int .i64 0, .bool false, .int .i64 0, .int .i64 0, .int .i64 0, .int .i64 0, .int .i64 0, .string ⟨#[]⟩, .slice none 0 0, .slice C3 0 (capN 0 c3)] := by rw [hv3]; exact Lies.new _ _ _
  replace z0_0 := (hbv3.cell (p := ⟨g0, 0, none⟩) (ncell_lt z0_0)).trans z0_0
  replace z2_0 := (hbv3.cell (p := ⟨g2, 0, none⟩) (ncell_lt z2_0)).trans z2_0
  replace z2_1 := (hbv3.cell (p := ⟨g2, 1, none⟩) (ncell_lt z2_1)).trans z2_1
  replace z2_2 := (hbv3.cell (p := ⟨g2, 2, none⟩) (ncell_lt z2_2)).trans z2_2
  replace HB := Lib.hid (HB.out.trans (hbv3.mono HB.out.size))
  obtain ⟨g3, hg3⟩ : ∃ g, g = u3.heap.size := ⟨_, rfl⟩
  rw [← hv3, ← hg3]
  have z3_0 : v3.cell? ⟨g3, 0, none⟩ = some (.int .i64 0) := by rw [hg3]; exact L3.cell 0
  clear hv3 hg3 hb3 hbv3 L3 hP3 u3
  go_wp2_with fail
  have HC4 := Lib.hid (ruplanL_any 4 4 4 4 v3)
  rw [rufx4] at HC4
  refine HC4.out.mono ?_
  clear HC4
  rintro e u4 ⟨C4, c4, rfl, hP4, hb4⟩
  simp only [plv, Pl.one, Nd.zero, List.length_nil]
  replace z0_0 := (hb4.cell (p := ⟨g0, 0, none⟩) (ncell_lt z0_0)).trans z0_0
  replace z2_0 := (hb4.cell (p := ⟨g2, 0, none⟩) (ncell_lt z2_0)).trans z2_0
  replace z2_1 := (hb4.cell (p := ⟨g2, 1, none⟩) (ncell_lt z2_1)).trans z2_1
  replace z2_2 := (hb4.cell (p := ⟨g2, 2, none⟩) (ncell_lt z2_2)).trans z2_2
  replace z3_0 := (hb4.cell (p := ⟨g3, 0, none⟩) (ncell_lt z3_0)).trans z3_0
  replace HB := Lib.hid (HB.out.trans (hb4.mono HB.out.size))
  go_upto_region 6 with fail
  obtain ⟨v4, hv4⟩ : ∃ v, v = u4.alloc (.cells #[.int .i64 6, .bool false, .int .i64 0, .int .i64 0, .int .i64 0, .int .i64 0, .int .i64 0, .string ⟨#[]⟩, .slice none 0 0, .slice C4 0 (capN 0 c4)] 29) := ⟨_, rfl⟩
  have hbv4 : Below u4.heap.size u4 v4 := by rw [hv4]; exact (Below.refl _ _).alloc (Nat.le_refl _) _
  have L4 : Lies v4 u4.heap.size 29 #[.int .i64 6, .bool false, .int .i64 0, .int .i64 0, .int .i64 0, .int .i64 0, .int .i64 0, .string ⟨#[]⟩, .slice none 0 0, .slice C4 0 (capN 0 c4)] := by rw [hv4]; exact Lies.new _ _ _
  replace z0_0 := (hbv4.cell (p := ⟨g0, 0, none⟩) (ncell_lt z0_0)).trans z0_0
  replace z2_0 := (hbv4.cell (p := ⟨g2, 0, none⟩) (ncell_lt z2_0)).trans z2_0
  replace z2_1 := (hbv4.cell (p := ⟨g2, 1, none⟩) (ncell_lt z2_1)).trans z2_1
  replace z2_2 := (hbv4.cell (p := ⟨g2, 2, none⟩) (ncell_lt z2_2)).trans z2_2
  replace z3_0 := (hbv4.cell (p := ⟨g3, 0, none⟩) (ncell_lt z3_0)).trans z3_0
  replace HB := Lib.hid (HB.out.trans (hbv4.mono HB.out.size))
  obtain ⟨g4, hg4⟩ : ∃ g, g = u4.heap.size := ⟨_, rfl⟩
  rw [← hv4, ← hg4]
  have z4_0 : v4.cell? ⟨g4, 0, none⟩ = some (.int .i64 6) := by rw [hg4]; exact L4.cell 0
  clear hv4 hg4 hb4 hbv4 L4 hP4 u4
  go_wp2_with fail
  have HC5 := Lib.hid (ruplanL_any 4 4 6 2 v4)
  rw [rufx5] at HC5
  refine HC5.out.mono ?_
  clear HC5
  rintro e u5 ⟨C5, c5, rfl, hP5, hb5⟩
  simp only [plv, Nd.zero, List.length_nil]
  replace z0_0 := (hb5.cell (p := ⟨g0, 0, none⟩) (ncell_lt z0_0)).trans z0_0
  replace z2_0 := (hb5.cell (p := ⟨g2, 0, none⟩) (ncell_lt z2_0)).trans z2_0
  replace z2_1 := (hb5.cell (p := ⟨g2, 1, none⟩) (ncell_lt z2_1)).trans z2_1
  replace z2_2 := (hb5.cell (p := ⟨g2, 2, none⟩) (ncell_lt z2_2)).trans z2_2
  replace z3_0 := (hb5.cell (p := ⟨g3, 0, none⟩) (ncell_lt z3_0)).trans z3_0
  replace z4_0 := (hb5.cell (p := ⟨g4, 0, none⟩) (ncell_lt z4_0)).trans z4_0
  replace HB := Lib.hid (HB.out.trans (hb5.mono HB.out.size))
  go_upto_region 7 with fail
  obtain ⟨v5, hv5⟩ : ∃ v, v = u5.alloc (.cells #[.int .i64 7, .bool true, .int .i64 5, .int .i64 0, .int .i64 0, .int .i64 0, .int .i64 0, .string ⟨#[]⟩, .slice none 0 0, .slice C5 0 (capN 0 c5)] 29) := ⟨_, rfl⟩
  have hbv5 : Below u5.heap.size u5 v5 := by rw [hv5]; exact (Below.refl _ _).alloc (Nat.le_refl _) _
  have L5 : Lies v5 u5.heap.size 29 #[.int .i64 7, .bool true, .int .i64 5, .int .i64 0, .int .i64 0, .int .i64 0, .int .i64 0, .string ⟨#[]⟩, .slice none 0 0, .slice C5 0 (capN 0 c5)] := by rw [hv5]; exact Lies.new _ _ _
  replace z0_0 := (hbv5.cell (p := ⟨g0, 0, none⟩) (ncell_lt z0_0)).trans z0_0
  replace z2_0 := (hbv5.cell (p := ⟨g2, 0, none⟩) (ncell_lt z2_0)).trans z2_0
  replace z2_1 := (hbv5.cell (p := ⟨g2, 1, none⟩) (ncell_lt z2_1)).trans z2_1
  replace z2_2 := (hbv5.cell (p := ⟨g2, 2, none⟩) (ncell_lt z2_2)).trans z2_2
  replace z3_0 := (hbv5.cell (p := ⟨g3, 0, none⟩) (ncell_lt z3_0)).trans z3_0
  replace z4_0 := (hbv5.cell (p := ⟨g4, 0, none⟩) (ncell_lt z4_0)).trans z4_0
  replace HB := Lib.hid (HB.out.trans (hbv5.mono HB.out.size))
  obtain ⟨g5, hg5⟩ : ∃ g, g = u5.heap.size := ⟨_, rfl⟩
  rw [← hv5, ← hg5]
  have z5_0 : v5.cell? ⟨g5, 0, none⟩ = some (.int .i64 7) := by rw [hg5]; exact L5.cell 0
  have z5_1 : v5.cell? ⟨g5, 1, none⟩ = some (.bool true) := by rw [hg5]; exact L5.cell 1
  have z5_2 : v5.cell? ⟨g5, 2, none⟩ = some (.int .i64 5) := by rw [hg5]; exact L5.cell 2
  clear hv5 hg5 hb5 hbv5 L5 hP5 u5
  go_wp2_with fail
  have HC6 := Lib.hid (ruplanL_any 4 4 6 4 v5)
  rw [rufx6] at HC6
  refine HC6.out.mono ?_
  clear HC6
  rintro e u6 ⟨C6, c6, rfl, hP6, hb6⟩
  simp only [plv, Pl.zero, Nd.zero, List.length_nil]
  replace z0_0 := (hb6.cell (p := ⟨g0, 0, none⟩) (ncell_lt z0_0)).trans z0_0
  replace z2_0 := (hb6.cell (p := ⟨g2, 0, none⟩) (ncell_lt z2_0)).trans z2_0
  replace z2_1 := (hb6.cell (p := ⟨g2, 1, none⟩) (ncell_lt z2_1)).trans z2_1
  replace z2_2 := (hb6.cell (p := ⟨g2, 2, none⟩) (ncell_lt z2_2)).trans z2_2
  replace z3_0 := (hb6.cell (p := ⟨g3, 0, none⟩) (ncell_lt z3_0)).trans z3_0
  replace z4_0 := (hb6.cell (p := ⟨g4, 0, none⟩) (ncell_lt z4_0)).trans z4_0
  replace z5_0 := (hb6.cell (p := ⟨g5, 0, none⟩) (ncell_lt z5_0)).trans z5_0
  replace z5_1 := (hb6.cell (p := ⟨g5, 1, none⟩) (ncell_lt z5_1)).trans z5_1
  replace z5_2 := (hb6.cell (p := ⟨g5, 2, none⟩) (ncell_lt z5_2)).trans z5_2
  replace HB := Lib.hid (HB.out.trans (hb6.mono HB.out.size))
  go_upto_region 8 with fail
  obtain ⟨v6, hv6⟩ : ∃ v, v = u6.alloc (.cells #[.int .i64 0, .bool false, .int .i64 0, .int .i64 0, .int .i64 0, .int .i64 0, .int .i64 0, .string ⟨#[]⟩, .slice none 0 0, .slice C6 0 (capN 0 c6)] 29) := ⟨_, rfl⟩
  have hbv6 : Below u6.heap.size u6 v6 := by rw [hv6]; exact (Below.refl _ _).alloc (Nat.le_refl _) _
  replace z0_0 := (hbv6.cell (p := ⟨g0, 0, none⟩) (ncell_lt z0_0)).trans z0_0
  replace z2_0 := (hbv6.cell (p := ⟨g2, 0, none⟩) (ncell_lt z2_0)).trans z2_0
  replace z2_1 := (hbv6.cell (p := ⟨g2, 1, none⟩) (ncell_lt z2_1)).trans z2_1
  replace z2_2 := (hbv6.cell (p := ⟨g2, 2, none⟩) (ncell_lt z2_2)).trans z2_2
  replace z3_0 := (hbv6.cell (p := ⟨g3, 0, none⟩) (ncell_lt z3_0)).trans z3_0
  replace z4_0 := (hbv6.cell (p := ⟨g4, 0, none⟩) (ncell_lt z4_0)).trans z4_0
  replace z5_0 := (hbv6.cell (p := ⟨g5, 0, none⟩) (ncell_lt z5_0)).trans z5_0
  replace z5_1 := (hbv6.cell (p := ⟨g5, 1, none⟩) (ncell_lt z5_1)).trans z5_1
  replace z5_2 := (hbv6.cell (p := ⟨g5, 2, none⟩) (ncell_lt z5_2)).trans z5_2
  replace HB := Lib.hid (HB.out.trans (hbv6.mono HB.out.size))
  obtain ⟨g6, hg6⟩ : ∃ g, g = u6.heap.size := ⟨_, rfl⟩
  rw [← hv6, ← hg6]
  clear hv6 hg6 hb6 hbv6  hP6 u6
  go_wp2_with fail
  have HC7 := Lib.hid (ruplanL_any 10 0 7 9 v6)
  rw [rufx7] at HC7
  refine HC7.out.mono ?_
  clear HC7
  rintro e u7 ⟨C7, c7, rfl, hP7, hb7⟩
  simp only [plv, Nd.zero, List.length_nil]
  replace z0_0 := (hb7.cell (p := ⟨g0, 0, none⟩) (ncell_lt z0_0)).trans z0_0
  replace z2_0 := (hb7.cell (p := ⟨g2, 0, none⟩) (ncell_lt z2_0)).trans z2_0
  replace z2_1 := (hb7.cell (p := ⟨g2, 1, none⟩) (ncell_lt z2_1)).trans z2_1
  replace z2_2 := (hb7.cell (p := ⟨g2, 2, none⟩) (ncell_lt z2_2)).trans z2_2
  replace z3_0 := (hb7.cell (p := ⟨g3, 0, none⟩) (ncell_lt z3_0)).trans z3_0
  replace z4_0 := (hb7.cell (p := ⟨g4, 0, none⟩) (ncell_lt z4_0)).trans z4_0
  replace z5_0 := (hb7.cell (p := ⟨g5, 0, none⟩) (ncell_lt z5_0)).trans z5_0
  replace z5_1 := (hb7.cell (p := ⟨g5, 1, none⟩) (ncell_lt z5_1)).trans z5_1
  replace z5_2 := (hb7.cell (p := ⟨g5, 2, none⟩) (ncell_lt z5_2)).trans z5_2
  replace HB := Lib.hid (HB.out.trans (hb7.mono HB.out.size))
  go_upto_region 9 with fail
  obtain ⟨v7, hv7⟩ : ∃ v, v = u7.alloc (.cells #[.int .i64 8, .bool true, .int .i64 0, .int .i64 0, .int .i64 0, .int .i64 0, .int .i64 0, .string ⟨#[]⟩, .slice none 0 0, .slice C7 0 (capN 0 c7)] 29) := ⟨_, rfl⟩
  have hbv7 : Below u7.heap.size u7 v7 := by rw [hv7]; exact (Below.refl _ _).alloc (Nat.le_refl _) _
  have L7 : Lies v7 u7.heap.size 29 #[.int .i64 8, .bool true, .int .i64 0, .int .i64 0, .int .i64 0, .int .i64 0, .int .i64 0, .string ⟨#[]⟩, .slice none 0 0, .slice C7 0 (capN 0 c7)] := by rw [hv7]; exact Lies.new _ _ _
  replace z0_0 := (hbv7.cell (p := ⟨g0, 0, none⟩) (ncell_lt z0_0)).trans z0_0
  replace z2_0 := (hbv7.cell (p := ⟨g2, 0, none⟩) (ncell_lt z2_0)).trans z2_0
  replace z2_1 := (hbv7.cell (p := ⟨g2, 1, none⟩) (ncell_lt z2_1)).trans z2_1
  replace z2_2 := (hbv7.cell (p := ⟨g2, 2, none⟩) (ncell_lt z2_2)).trans z2_2
  replace z3_0 := (hbv7.cell (p := ⟨g3, 0, none⟩) (ncell_lt z3_0)).trans z3_0
  replace z4_0 := (hbv7.cell (p := ⟨g4, 0, none⟩) (ncell_lt z4_0)).trans z4_0
  replace z5_0 := (hbv7.cell (p := ⟨g5, 0, none⟩) (ncell_lt z5_0)).trans z5_0
  replace z5_1 := (hbv7.cell (p := ⟨g5, 1, none⟩) (ncell_lt z5_1)).trans z5_1
  replace z5_2 := (hbv7.cell (p := ⟨g5, 2, none⟩) (ncell_lt z5_2)).trans z5_2
  replace HB := Lib.hid (HB.out.trans (hbv7.mono HB.out.size))
  obtain ⟨g7, hg7⟩ : ∃ g, g = u7.heap.size := ⟨_, rfl⟩
  rw [← hv7, ← hg7]
  have z7_0 : v7.cell? ⟨g7, 0, none⟩ = some (.int .i64 8) := by rw [hg7]; exact L7.cell 0
  have z7_1 : v7.cell? ⟨g7, 1, none⟩ = some (.bool true) := by rw [hg7]; exact L7.cell 1
  clear hv7 hg7 hb7 hbv7 L7 hP7 u7
  go_wp2_with fail
  have HC8 := Lib.hid (ruof_any (⟨12, 1, 5, ⟨#[45]⟩, [], []⟩ : Nd) (⟨10, 0, 7, ⟨#[]⟩, [], []⟩ : Nd) none none 0 0 none none 0 0 v7 (leaf_in _ _ _ _ (by decide) _) (leaf_in _ _ _ _ (by decide) _))
  rw [rufx8] at HC8
  refine HC8.out.mono ?_
  clear HC8
  rintro e u8 ⟨C8, c8, rfl, hP8, hb8⟩
  simp only [plv, List.length_singleton]
  replace z0_0 := (hb8.cell (p := ⟨g0, 0, none⟩) (ncell_lt z0_0)).trans z0_0
  replace z2_0 := (hb8.cell (p := ⟨g2, 0, none⟩) (ncell_lt z2_0)).trans z2_0
  replace z2_1 := (hb8.cell (p := ⟨g2, 1, none⟩) (ncell_lt z2_1)).trans z2_1
  replace z2_2 := (hb8.cell (p := ⟨g2, 2, none⟩) (ncell_lt z2_2)).trans z2_2
  replace z3_0 := (hb8.cell (p := ⟨g3, 0, none⟩) (ncell_lt z3_0)).trans z3_0
  replace z4_0 := (hb8.cell (p := ⟨g4, 0, none⟩) (ncell_lt z4_0)).trans z4_0
  replace z5_0 := (hb8.cell (p := ⟨g5, 0, none⟩) (ncell_lt z5_0)).trans z5_0
  replace z5_1 := (hb8.cell (p := ⟨g5, 1, none⟩) (ncell_lt z5_1)).trans z5_1
  replace z5_2 := (hb8.cell (p := ⟨g5, 2, none⟩) (ncell_lt z5_2)).trans z5_2
  replace z7_0 := (hb8.cell (p := ⟨g7, 0, none⟩) (ncell_lt z7_0)).trans z7_0
  replace z7_1 := (hb8.cell (p := ⟨g7, 1, none⟩) (ncell_lt z7_1)).trans z7_1
  replace HB := Lib.hid (HB.out.trans (hb8.mono HB.out.size))
  go_upto_region 10 with fail
  obtain ⟨v8, hv8⟩ : ∃ v, v = u8.alloc (.cells #[.int .i64 4, .bool false, .int .i64 0, .int .i64 0, .int .i64 10, .int .i64 1, .int .i64 (-2), .string ⟨#[]⟩, .slice none 0 0, .slice C8 1 (capN 1 c8)] 29) := ⟨_, rfl⟩
  have hbv8 : Below u8.heap.size u8 v8 := by rw [hv8]; exact (Below.refl _ _).alloc (Nat.le_refl _) _
  have L8 : Lies v8 u8.heap.size 29 #[.int .i64 4, .bool false, .int .i64 0, .int .i64 0, .int .i64 10, .int .i64 1, .int .i64 (-2), .string ⟨#[]⟩, .slice none 0 0, .slice C8 1 (capN 1 c8)] := by rw [hv8]; exact Lies.new _ _ _
  replace z0_0 := (hbv8.cell (p := ⟨g0, 0, none⟩) (ncell_lt z0_0)).trans z0_0
  replace z2_0 := (hbv8.cell (p := ⟨g2, 0, none⟩) (ncell_lt z2_0)).trans z2_0
  replace z2_1 := (hbv8.cell (p := ⟨g2, 1, none⟩) (ncell_lt z2_1)).trans z2_1
  replace z2_2 := (hbv8.cell (p := ⟨g2, 2, none⟩) (ncell_lt z2_2)).trans z2_2
  replace z3_0 := (hbv8.cell (p := ⟨g3, 0, none⟩) (ncell_lt z3_0)).trans z3_0
  replace z4_0 := (hbv8.cell (p := ⟨g4, 0, none⟩) (ncell_lt z4_0)).trans z4_0
  replace z5_0 := (hbv8.cell (p := ⟨g5, 0, none⟩) (ncell_lt z5_0)).trans z5_0
  replace z5_1 := (hbv8.cell (p := ⟨g5, 1, none⟩) (ncell_lt z5_1)).trans z5_1
  replace z5_2 := (hbv8.cell (p := ⟨g5, 2, none⟩) (ncell_lt z5_2)).trans z5_2
  replace z7_0 := (hbv8.cell (p := ⟨g7, 0, none⟩) (ncell_lt z7_0)).trans z7_0
  replace z7_1 := (hbv8.cell (p := ⟨g7, 1, none⟩) (ncell_lt z7_1)).trans z7_1
  replace HB := Lib.hid (HB.out.trans (hbv8.mono HB.out.size))
  obtain ⟨g8, hg8⟩ : ∃ g, g = u8.heap.size := ⟨_, rfl⟩
  rw [← hv8, ← hg8]
  have z8_0 : v8.cell? ⟨g8, 0, none⟩ = some (.int .i64 4) := by rw [hg8]; exact L8.cell 0
  have z8_5 : v8.cell? ⟨g8, 5, none⟩ = some (.int .i64 1) := by rw [hg8]; exact L8.cell 5
  have z8_6 : v8.cell? ⟨g8, 6, none⟩ = some (.int .i64 (-2)) := by rw [hg8]; exact L8.cell 6
  clear hv8 hg8 hb8 hbv8 L8 hP8 u8
  go_wp2_with fail
  have HC9 := Lib.hid (ruof_any (⟨12, 0, 5, ⟨#[47]⟩, [], []⟩ : Nd) (⟨10, 0, 0, ⟨#[]⟩, [], []⟩ : Nd) none none 0 0 none none 0 0 v8 (leaf_in _ _ _ _ (by decide) _) (leaf_in _ _ _ _ (by decide) _))
  rw [rufx9] at HC9
  refine HC9.out.mono ?_
  clear HC9
  rintro e u9 ⟨C9, c9, rfl, hP9, hb9⟩
  simp only [plv, Pl.one, Nd.zero, List.length_nil]
  replace z0_0 := (hb9.cell (p := ⟨g0, 0, none⟩) (ncell_lt z0_0)).trans z0_0
  replace z2_0 := (hb9.cell (p := ⟨g2, 0, none⟩) (ncell_lt z2_0)).trans z2_0
  replace z2_1 := (hb9.cell (p := ⟨g2, 1, none⟩) (ncell_lt z2_1)).trans z2_1
  replace z2_2 := (hb9.cell (p := ⟨g2, 2, none⟩) (ncell_lt z2_2)).trans z2_2
  replace z3_0 := (hb9.cell (p := ⟨g3, 0, none⟩) (ncell_lt z3_0)).trans z3_0
  replace z4_0 := (hb9.cell (p := ⟨g4, 0, none⟩) (ncell_lt z4_0)).trans z4_0
  replace z5_0 := (hb9.cell (p := ⟨g5, 0, none⟩) (ncell_lt z5_0)).trans z5_0
  replace z5_1 := (hb9.cell (p := ⟨g5, 1, none⟩) (ncell_lt z5_1)).trans z5_1
  replace z5_2 := (hb9.cell (p := ⟨g5, 2, none⟩) (ncell_lt z5_2)).trans z5_2
  replace z7_0 := (hb9.cell (p := ⟨g7, 0, none⟩) (ncell_lt z7_0)).trans z7_0
  replace z7_1 := (hb9.cell (p := ⟨g7, 1, none⟩) (ncell_lt z7_1)).trans z7_1
  replace z8_0 := (hb9.cell (p := ⟨g8, 0, none⟩) (ncell_lt z8_0)).trans z8_0
  replace z8_5 := (hb9.cell (p := ⟨g8, 5, none⟩) (ncell_lt z8_5)).trans z8_5
  replace z8_6 := (hb9.cell (p := ⟨g8, 6, none⟩) (ncell_lt z8_6)).trans z8_6
  replace HB := Lib.hid (HB.out.trans (hb9.mono HB.out.size))
  go_upto_region 11 with fail
  obtain ⟨v9, hv9⟩ : ∃ v, v = u9.alloc (.cells #[.int .i64 5, .bool false, .int .i64 0, .int .i64 0, .int .i64 0, .int .i64 0, .int .i64 0, .string ⟨#[]⟩, .slice none 0 0, .slice C9 0 (capN 0 c9)] 29) := ⟨_, rfl⟩
  have hbv9 : Below u9.heap.size u9 v9 := by rw [hv9]; exact (Below.refl _ _).alloc (Nat.le_refl _) _
  have L9 : Lies v9 u9.heap.size 29 #[.int .i64 5, .bool false, .int .i64 0, .int .i64 0, .int .i64 0, .int .i64 0, .int .i64 0, .string ⟨#[]⟩, .slice none 0 0, .slice C9 0 (capN 0 c9)] := by rw [hv9]; exact Lies.new _ _ _
  replace z0_0 := (hbv9.cell (p := ⟨g0, 0, none⟩) (ncell_lt z0_0)).trans z0_0
  replace z2_0 := (hbv9.cell (p := ⟨g2, 0, none⟩) (ncell_lt z2_0)).trans z2_0
  replace z2_1 := (hbv9.cell (p := ⟨g2, 1, none⟩) (ncell_lt z2_1)).trans z2_1
  replace z2_2 := (hbv9.cell (p := ⟨g2, 2, none⟩) (ncell_lt z2_2)).trans z2_2
  replace z3_0 := (hbv9.cell (p := ⟨g3, 0, none⟩) (ncell_lt z3_0)).trans z3_0
  replace z4_0 := (hbv9.cell (p := ⟨g4, 0, none⟩) (ncell_lt z4_0)).trans z4_0
  replace z5_0 := (hbv9.cell (p := ⟨g5, 0, none⟩) (ncell_lt z5_0)).trans z5_0
  replace z5_1 := (hbv9.cell (p := ⟨g5, 1, none⟩) (ncell_lt z5_1)).trans z5_1
  replace z5_2 := (hbv9.cell (p := ⟨g5, 2, none⟩) (ncell_lt z5_2)).trans z5_2
  replace z7_0 := (hbv9.cell (p := ⟨g7, 0, none⟩) (ncell_lt z7_0)).trans z7_0
  replace z7_1 := (hbv9.cell (p := ⟨g7, 1, none⟩) (ncell_lt z7_1)).trans z7_1
  replace z8_0 := (hbv9.cell (p := ⟨g8, 0, none⟩) (ncell_lt z8_0)).trans z8_0
  replace z8_5 := (hbv9.cell (p := ⟨g8, 5, none⟩) (ncell_lt z8_5)).trans z8_5
  replace z8_6 := (hbv9.cell (p := ⟨g8, 6, none⟩) (ncell_lt z8_6)).trans z8_6
  replace HB := Lib.hid (HB.out.trans (hbv9.mono HB.out.size))
  obtain ⟨g9, hg9⟩ : ∃ g, g = u9.heap.size := ⟨_, rfl⟩
  rw [← hv9, ← hg9]
  have z9_0 : v9.cell? ⟨g9, 0, none⟩ = some (.int .i64 5) := by rw [hg9]; exact L9.cell 0
  clear hv9 hg9 hb9 hbv9 L9 hP9 u9
  go_upto_region 12 with (at_builtin)
  obtain ⟨v10, hv10⟩ : ∃ v, v = (v9.alloc (.cells #[.string ⟨#[65]⟩, .int .i64 0, .string ⟨#[66]⟩, .int .i64 2] 49)).alloc (.cells #[.int .i64 9, .int .i64 0, .int .i64 0, .string ⟨#[]⟩, .slice (some ⟨v9.heap.size, 0, none⟩) 2 2, .slice none 0 0] 25) := ⟨_, rfl⟩
  have hbv10 : Below v9.heap.size v9 v10 := by rw [hv10]; exact ((Below.refl _ _).alloc (Nat.le_refl _) _).alloc (by simp) _
  have LA : Lies v10 v9.heap.size 49 #[.string ⟨#[65]⟩, .int .i64 0, .string ⟨#[66]⟩, .int .i64 2] := by rw [hv10]; exact (Lies.new _ _ _).old _
  have LX : Lies v10 (v9.heap.size + 1) 25 #[.int .i64 9, .int .i64 0, .int .i64 0, .string ⟨#[]⟩, .slice (some ⟨v9.heap.size, 0, none⟩) 2 2, .slice none 0 0] := by rw [hv10]; simpa using Lies.new (v9.alloc (.cells #[.string ⟨#[65]⟩, .int .i64 0, .string ⟨#[66]⟩, .int .i64 2] 49)) 25 #[.int .i64 9, .int .i64 0, .int .i64 0, .string ⟨#[]⟩, .slice (some ⟨v9.heap.size, 0, none⟩) 2 2, .slice none 0 0]
  replace z0_0 := (hbv10.cell (p := ⟨g0, 0, none⟩) (ncell_lt z0_0)).trans z0_0
  replace z2_0 := (hbv10.cell (p := ⟨g2, 0, none⟩) (ncell_lt z2_0)).trans z2_0
  replace z2_1 := (hbv10.cell (p := ⟨g2, 1, none⟩) (ncell_lt z2_1)).trans z2_1
  replace z2_2 := (hbv10.cell (p := ⟨g2, 2, none⟩) (ncell_lt z2_2)).trans z2_2
  replace z3_0 := (hbv10.cell (p := ⟨g3, 0, none⟩) (ncell_lt z3_0)).trans z3_0
  replace z4_0 := (hbv10.cell (p := ⟨g4, 0, none⟩) (ncell_lt z4_0)).trans z4_0
  replace z5_0 := (hbv10.cell (p := ⟨g5, 0, none⟩) (ncell_lt z5_0)).trans z5_0
  replace z5_1 := (hbv10.cell (p := ⟨g5, 1, none⟩) (ncell_lt z5_1)).trans z5_1
  replace z5_2 := (hbv10.cell (p := ⟨g5, 2, none⟩) (ncell_lt z5_2)).trans z5_2
  replace z7_0 := (hbv10.cell (p := ⟨g7, 0, none⟩) (ncell_lt z7_0)).trans z7_0
  replace z7_1 := (hbv10.cell (p := ⟨g7, 1, none⟩) (ncell_lt z7_1)).trans z7_1
  replace z8_0 := (hbv10.cell (p := ⟨g8, 0, none⟩) (ncell_lt z8_0)).trans z8_0
  replace z8_5 := (hbv10.cell (p := ⟨g8, 5, none⟩) (ncell_lt z8_5)).trans z8_5
  replace z8_6 := (hbv10.cell (p := ⟨g8, 6, none⟩) (ncell_lt z8_6)).trans z8_6
  replace z9_0 := (hbv10.cell (p := ⟨g9, 0, none⟩) (ncell_lt z9_0)).trans z9_0
  replace HB := Lib.hid (HB.out.trans (hbv10.mono HB.out.size))
  obtain ⟨gxb, hgxb⟩ : ∃ g, g = v9.heap.size + 1 := ⟨_, rfl⟩
  obtain ⟨gx, hgx⟩ : ∃ g, g = v9.heap.size := ⟨_, rfl⟩
  rw [← hgx] at LA
  rw [← hgxb, ← hgx] at LX
  rw [← hv10, ← hgxb, ← hgx]
  clear hv10 hbv10 hgx hgxb
  have HCA : Hid (NdIn v10 AnyB caseN (some ⟨gx, 0, none⟩) none) := Lib.hid ⟨⟨by decide, by decide, by decide⟩, fun j hj => by
    have hj2 : j = 0 ∨ j = 1 := by have : j < 2 := hj; omega
    rcases hj2 with rfl | rfl
    · exact ⟨gx, 0, ⟨rfl, trivial⟩, LA.cell 0, LA.cell 1, by show (⟨#[65]⟩ : ByteArray).size ≤ _; decide⟩
    · exact ⟨gx, 0, ⟨rfl, trivial⟩, LA.cell 2, LA.cell 3, by show (⟨#[66]⟩ : ByteArray).size ≤ _; decide⟩, ToIn.nil⟩
  obtain ⟨zx0, zx1, zx2, zx3, zx4, zx5⟩ := six_cells LX
  clear LA LX v9
  obtain ⟨i0, hi0, hz0, hz1, hz2⟩ := info_partsR infoPoR
  have hmk : ∀ U : World, (Instr.makeSlice 23 (.int .i64 3) (.int .i64 3)).run Try.prog U = .ok (.slice (some ⟨U.heap.size, 0, none⟩) 3 3) (U.alloc (.cells #[.int .i64 0, .int .i64 0, .int .i64 0, .int .i64 0, .int .i64 0, .int .i64 0] 55)) := fun U => by
    have h := run_make (P := Try.prog) U 23 55 i0 (.agg #[.int .i64 0, .int .i64 0]) Try.underlying23 hi0 hz0 .i64 .i64 ((3 : Nat) : Int) ((3 : Nat) : Int) (by omega) (by omega) (by rw [hz2]; omega) (by omega)
    rw [hz1, show (Value.agg #[.int .i64 0, .int .i64 0]).cells = #[.int .i64 0, .int .i64 0] from rfl] at h
    have h' : madeCells #[.int .i64 0, .int .i64 0] 6 = #[.int .i64 0, .int .i64 0, .int .i64 0, .int .i64 0, .int .i64 0, .int .i64 0] := by kernel_rfl
    simpa [h'] using h
  clear hi0 hz0 hz1 hz2
  go_upto_region 13 with (at_builtin)
  obtain ⟨v11, hv11⟩ : ∃ v, v = (v10.alloc (.cells #[.int .i64 0, .int .i64 0, .int .i64 0, .int .i64 0, .int .i64 0, .int .i64 0] 55)).alloc (.cells #[.int .i64 8, .int .i64 0, .int .i64 0, .string ⟨#[66]⟩, .slice none 0 0, .slice (some ⟨v10.heap.size, 0, none⟩) 3 3] 25) := ⟨_, rfl⟩
  have hbv11 : Below v10.heap.size v10 v11 := by rw [hv11]; exact ((Below.refl _ _).alloc (Nat.le_refl _) _).alloc (by simp) _
  have LA : Lies v11 v10.heap.size 55 #[.int .i64 0, .int .i64 0, .int .i64 0, .int .i64 0, .int .i64 0, .int .i64 0] := by rw [hv11]; exact (Lies.new _ _ _).old _
  have LY : Lies v11 (v10.heap.size + 1) 25 #[.int .i64 8, .int .i64 0, .int .i64 0, .string ⟨#[66]⟩, .slice none 0 0, .slice (some ⟨v10.heap.size, 0, none⟩) 3 3] := by rw [hv11]; simpa using Lies.new (v10.alloc (.cells #[.int .i64 0, .int .i64 0, .int .i64 0, .int .i64 0, .int .i64 0, .int .i64 0] 55)) 25 #[.int .i64 8, .int .i64 0, .int .i64 0, .string ⟨#[66]⟩, .slice none 0 0, .slice (some ⟨v10.heap.size, 0, none⟩) 3 3]
  replace z0_0 := (hbv11.cell (p := ⟨g0, 0, none⟩) (ncell_lt z0_0)).trans z0_0
  replace z2_0 := (hbv11.cell (p := ⟨g2, 0, none⟩) (ncell_lt z2_0)).trans z2_0
  replace z2_1 := (hbv11.cell (p := ⟨g2, 1, none⟩) (ncell_lt z2_1)).trans z2_1
  replace z2_2 := (hbv11.cell (p := ⟨g2, 2, none⟩) (ncell_lt z2_2)).trans z2_2
  replace z3_0 := (hbv11.cell (p := ⟨g3, 0, none⟩) (ncell_lt z3_0)).trans z3_0
  replace z4_0 := (hbv11.cell (p := ⟨g4, 0, none⟩) (ncell_lt z4_0)).trans z4_0
  replace z5_0 := (hbv11.cell (p := ⟨g5, 0, none⟩) (ncell_lt z5_0)).trans z5_0
  replace z5_1 := (hbv11.cell (p := ⟨g5, 1, none⟩) (ncell_lt z5_1)).trans z5_1
  replace z5_2 := (hbv11.cell (p := ⟨g5, 2, none⟩) (ncell_lt z5_2)).trans z5_2
  replace z7_0 := (hbv11.cell (p := ⟨g7, 0, none⟩) (ncell_lt z7_0)).trans z7_0
  replace z7_1 := (hbv11.cell (p := ⟨g7, 1, none⟩) (ncell_lt z7_1)).trans z7_1
  replace z8_0 := (hbv11.cell (p := ⟨g8, 0, none⟩) (ncell_lt z8_0)).trans z8_0
  replace z8_5 := (hbv11.cell (p := ⟨g8, 5, none⟩) (ncell_lt z8_5)).trans z8_5
  replace z8_6 := (hbv11.cell (p := ⟨g8, 6, none⟩) (ncell_lt z8_6)).trans z8_6
  replace z9_0 := (hbv11.cell (p := ⟨g9, 0, none⟩) (ncell_lt z9_0)).trans z9_0
  replace zx0 := (hbv11.cell (p := ⟨gxb, 0, none⟩) (ncell_lt zx0)).trans zx0
  replace zx1 := (hbv11.cell (p := ⟨gxb, 1, none⟩) (ncell_lt zx1)).trans zx1
  replace zx2 := (hbv11.cell (p := ⟨gxb, 2, none⟩) (ncell_lt zx2)).trans zx2
  replace zx3 := (hbv11.cell (p := ⟨gxb, 3, none⟩) (ncell_lt zx3)).trans zx3
  replace zx4 := (hbv11.cell (p := ⟨gxb, 4, none⟩) (ncell_lt zx4)).trans zx4
  replace zx5 := (hbv11.cell (p := ⟨gxb, 5, none⟩) (ncell_lt zx5)).trans zx5
  replace HCA := Lib.hid (HCA.out.below hbv11 (Nat.le_refl _))
  replace HB := Lib.hid (HB.out.trans (hbv11.mono HB.out.size))
  obtain ⟨gyb, hgyb⟩ : ∃ g, g = v10.heap.size + 1 := ⟨_, rfl⟩
  obtain ⟨gy, hgy⟩ : ∃ g, g = v10.heap.size := ⟨_, rfl⟩
  rw [← hgy] at LA
  rw [← hgyb, ← hgy] at LY
  rw [← hv11, ← hgyb, ← hgy]
  clear hv11 hbv11 hgy hgyb
  have HCO : Hid (NdIn v11 AnyB consN none (some ⟨gy, 0, none⟩)) := Lib.hid ⟨⟨by decide, by decide, by decide⟩, AltIn.nil, fun j hj => by
    have hj2 : j = 0 ∨ j = 1 ∨ j = 2 := by have : j < 3 := hj; omega
    rcases hj2 with rfl | rfl | rfl
    · exact ⟨gy, 0, ⟨rfl, trivial⟩, LA.cell 0, LA.cell 1⟩
    · exact ⟨gy, 0, ⟨rfl, trivial⟩, LA.cell 2, LA.cell 3⟩
    · exact ⟨gy, 0, ⟨rfl, trivial⟩, LA.cell 4, LA.cell 5⟩⟩
  obtain ⟨zy0, zy1, zy2, zy3, zy4, zy5⟩ := six_cells LY
  clear LA LY v10 hmk i0
  go_wp2_with fail
  have HC10 := Lib.hid (ruof_any consN caseN none (some ⟨gy, 0, none⟩) 0 3 (some ⟨gx, 0, none⟩) none 2 0 v11 HCO.out HCA.out)
  rw [rufx10] at HC10
  refine HC10.out.mono ?_
  clear HC10
  rintro e u10 ⟨C10, c10, rfl, hP10, hb10⟩
  simp only [plv, Nd.zero, List.length_nil]
  replace z0_0 := (hb10.cell (p := ⟨g0, 0, none⟩) (ncell_lt z0_0)).trans z0_0
  replace z2_0 := (hb10.cell (p := ⟨g2, 0, none⟩) (ncell_lt z2_0)).trans z2_0
  replace z2_1 := (hb10.cell (p := ⟨g2, 1, none⟩) (ncell_lt z2_1)).trans z2_1
  replace z2_2 := (hb10.cell (p := ⟨g2, 2, none⟩) (ncell_lt z2_2)).trans z2_2
  replace z3_0 := (hb10.cell (p := ⟨g3, 0, none⟩) (ncell_lt z3_0)).trans z3_0
  replace z4_0 := (hb10.cell (p := ⟨g4, 0, none⟩) (ncell_lt z4_0)).trans z4_0
  replace z5_0 := (hb10.cell (p := ⟨g5, 0, none⟩) (ncell_lt z5_0)).trans z5_0
  replace z5_1 := (hb10.cell (p := ⟨g5, 1, none⟩) (ncell_lt z5_1)).trans z5_1
  replace z5_2 := (hb10.cell (p := ⟨g5, 2, none⟩) (ncell_lt z5_2)).trans z5_2
  replace z7_0 := (hb10.cell (p := ⟨g7, 0, none⟩) (ncell_lt z7_0)).trans z7_0
  replace z7_1 := (hb10.cell (p := ⟨g7, 1, none⟩) (ncell_lt z7_1)).trans z7_1
  replace z8_0 := (hb10.cell (p := ⟨g8, 0, none⟩) (ncell_lt z8_0)).trans z8_0
  replace z8_5 := (hb10.cell (p := ⟨g8, 5, none⟩) (ncell_lt z8_5)).trans z8_5
  replace z8_6 := (hb10.cell (p := ⟨g8, 6, none⟩) (ncell_lt z8_6)).trans z8_6
  replace z9_0 := (hb10.cell (p := ⟨g9, 0, none⟩) (ncell_lt z9_0)).trans z9_0
  replace zx0 := (hb10.cell (p := ⟨gxb, 0, none⟩) (ncell_lt zx0)).trans zx0
  replace zx1 := (hb10.cell (p := ⟨gxb, 1, none⟩) (ncell_lt zx1)).trans zx1
  replace zx2 := (hb10.cell (p := ⟨gxb, 2, none⟩) (ncell_lt zx2)).trans zx2
  replace zx3 := (hb10.cell (p := ⟨gxb, 3, none⟩) (ncell_lt zx3)).trans zx3
  replace zx4 := (hb10.cell (p := ⟨gxb, 4, none⟩) (ncell_lt zx4)).trans zx4
  replace zx5 := (hb10.cell (p := ⟨gxb, 5, none⟩) (ncell_lt zx5)).trans zx5
  replace zy0 := (hb10.cell (p := ⟨gyb, 0, none⟩) (ncell_lt zy0)).trans zy0
  replace zy1 := (hb10.cell (p := ⟨gyb, 1, none⟩) (ncell_lt zy1)).trans zy1
  replace zy2 := (hb10.cell (p := ⟨gyb, 2, none⟩) (ncell_lt zy2)).trans zy2
  replace zy3 := (hb10.cell (p := ⟨gyb, 3, none⟩) (ncell_lt zy3)).trans zy3
  replace zy4 := (hb10.cell (p := ⟨gyb, 4, none⟩) (ncell_lt zy4)).trans zy4
  replace zy5 := (hb10.cell (p := ⟨gyb, 5, none⟩) (ncell_lt zy5)).trans zy5
  replace HCA := Lib.hid (HCA.out.below hb10 (Nat.le_refl _))
  replace HCO := Lib.hid (HCO.out.below hb10 (Nat.le_refl _))
  replace HB := Lib.hid (HB.out.trans (hb10.mono HB.out.size))
  go_upto_region 14 with fail
  obtain ⟨v10, hv10⟩ : ∃ v, v = u10.alloc (.cells #[.int .i64 2, .bool true, .int .i64 0, .int .i64 1, .int .i64 0, .int .i64 0, .int .i64 0, .string ⟨#[]⟩, .slice none 0 0, .slice C10 0 (capN 0 c10)] 29) := ⟨_, rfl⟩
  have hbv10 : Below u10.heap.size u10 v10 := by rw [hv10]; exact (Below.refl _ _).alloc (Nat.le_refl _) _
  have L10 : Lies v10 u10.heap.size 29 #[.int .i64 2, .bool true, .int .i64 0, .int .i64 1, .int .i64 0, .int .i64 0, .int .i64 0, .string ⟨#[]⟩, .slice none 0 0, .slice C10 0 (capN 0 c10)] := by rw [hv10]; exact Lies.new _ _ _
  replace z0_0 := (hbv10.cell (p := ⟨g0, 0, none⟩) (ncell_lt z0_0)).trans z0_0
  replace z2_0 := (hbv10.cell (p := ⟨g2, 0, none⟩) (ncell_lt z2_0)).trans z2_0
  replace z2_1 := (hbv10.cell (p := ⟨g2, 1, none⟩) (ncell_lt z2_1)).trans z2_1
  replace z2_2 := (hbv10.cell (p := ⟨g2, 2, none⟩) (ncell_lt z2_2)).trans z2_2
  replace z3_0 := (hbv10.cell (p := ⟨g3, 0, none⟩) (ncell_lt z3_0)).trans z3_0
  replace z4_0 := (hbv10.cell (p := ⟨g4, 0, none⟩) (ncell_lt z4_0)).trans z4_0
  replace z5_0 := (hbv10.cell (p := ⟨g5, 0, none⟩) (ncell_lt z5_0)).trans z5_0
  replace z5_1 := (hbv10.cell (p := ⟨g5, 1, none⟩) (ncell_lt z5_1)).trans z5_1
  replace z5_2 := (hbv10.cell (p := ⟨g5, 2, none⟩) (ncell_lt z5_2)).trans z5_2
  replace z7_0 := (hbv10.cell (p := ⟨g7, 0, none⟩) (ncell_lt z7_0)).trans z7_0
  replace z7_1 := (hbv10.cell (p := ⟨g7, 1, none⟩) (ncell_lt z7_1)).trans z7_1
  replace z8_0 := (hbv10.cell (p := ⟨g8, 0, none⟩) (ncell_lt z8_0)).trans z8_0
  replace z8_5 := (hbv10.cell (p := ⟨g8, 5, none⟩) (ncell_lt z8_5)).trans z8_5
  replace z8_6 := (hbv10.cell (p := ⟨g8, 6, none⟩) (ncell_lt z8_6)).trans z8_6
  replace z9_0 := (hbv10.cell (p := ⟨g9, 0, none⟩) (ncell_lt z9_0)).trans z9_0
  replace zx0 := (hbv10.cell (p := ⟨gxb, 0, none⟩) (ncell_lt zx0)).trans zx0
  replace zx1 := (hbv10.cell (p := ⟨gxb, 1, none⟩) (ncell_lt zx1)).trans zx1
  replace zx2 := (hbv10.cell (p := ⟨gxb, 2, none⟩) (ncell_lt zx2)).trans zx2
  replace zx3 := (hbv10.cell (p := ⟨gxb, 3, none⟩) (ncell_lt zx3)).trans zx3
  replace zx4 := (hbv10.cell (p := ⟨gxb, 4, none⟩) (ncell_lt zx4)).trans zx4
  replace zx5 := (hbv10.cell (p := ⟨gxb, 5, none⟩) (ncell_lt zx5)).trans zx5
  replace zy0 := (hbv10.cell (p := ⟨gyb, 0, none⟩) (ncell_lt zy0)).trans zy0
  replace zy1 := (hbv10.cell (p := ⟨gyb, 1, none⟩) (ncell_lt zy1)).trans zy1
  replace zy2 := (hbv10.cell (p := ⟨gyb, 2, none⟩) (ncell_lt zy2)).trans zy2
  replace zy3 := (hbv10.cell (p := ⟨gyb, 3, none⟩) (ncell_lt zy3)).trans zy3
  replace zy4 := (hbv10.cell (p := ⟨gyb, 4, none⟩) (ncell_lt zy4)).trans zy4
  replace zy5 := (hbv10.cell (p := ⟨gyb, 5, none⟩) (ncell_lt zy5)).trans zy5
  replace HCA := Lib.hid (HCA.out.below hbv10 (Nat.le_refl _))
  replace HCO := Lib.hid (HCO.out.below hbv10 (Nat.le_refl _))
  replace HB := Lib.hid (HB.out.trans (hbv10.mono HB.out.size))
  obtain ⟨g10, hg10⟩ : ∃ g, g = u10.heap.size := ⟨_, rfl⟩
  rw [← hv10, ← hg10]
  have z10_0 : v10.cell? ⟨g10, 0, none⟩ = some (.int .i64 2) := by rw [hg10]; exact L10.cell 0
  have z10_1 : v10.cell? ⟨g10, 1, none⟩ = some (.bool true) := by rw [hg10]; exact L10.cell 1
  have z10_2 : v10.cell? ⟨g10, 2, none⟩ = some (.int .i64 0) := by rw [hg10]; exact L10.cell 2
  have z10_3 : v10.cell? ⟨g10, 3, none⟩ = some (.int .i64 1) := by rw [hg10]; exact L10.cell 3
  have z10_4 : v10.cell? ⟨g10, 4, none⟩ = some (.int .i64 0) := by rw [hg10]; exact L10.cell 4
  have z10_5 : v10.cell? ⟨g10, 5, none⟩ = some (.int .i64 0) := by rw [hg10]; exact L10.cell 5
  have z10_6 : v10.cell? ⟨g10, 6, none⟩ = some (.int .i64 0) := by rw [hg10]; exact L10.cell 6
  have z10_7 : v10.cell? ⟨g10, 7, none⟩ = some (.string ⟨#[]⟩) := by rw [hg10]; exact L10.cell 7
  have z10_8 : v10.cell? ⟨g10, 8, none⟩ = some (.slice none 0 0) := by rw [hg10]; exact L10.cell 8
  have z10_9 : v10.cell? ⟨g10, 9, none⟩ = some (.slice C10 0 (capN 0 c10)) := by rw [hg10]; exact L10.cell 9
  clear hv10 hg10 hb10 hbv10 L10 hP10 u10
  go_wp2_with fail
  have HC11 := Lib.hid (ruplanL_any 1 0 10 0 v10)
  rw [rufx11] at HC11
  refine HC11.out.mono ?_
  clear HC11
  rintro e u11 ⟨C11, c11, rfl, hP11, hb11⟩
  simp only [plv, Pl.zero, Nd.zero, List.length_nil]
  replace z0_0 := (hb11.cell (p := ⟨g0, 0, none⟩) (ncell_lt z0_0)).trans z0_0
  replace z2_0 := (hb11.cell (p := ⟨g2, 0, none⟩) (ncell_lt z2_0)).trans z2_0
  replace z2_1 := (hb11.cell (p := ⟨g2, 1, none⟩) (ncell_lt z2_1)).trans z2_1
  replace z2_2 := (hb11.cell (p := ⟨g2, 2, none⟩) (ncell_lt z2_2)).trans z2_2
  replace z3_0 := (hb11.cell (p := ⟨g3, 0, none⟩) (ncell_lt z3_0)).trans z3_0
  replace z4_0 := (hb11.cell (p := ⟨g4, 0, none⟩) (ncell_lt z4_0)).trans z4_0
  replace z5_0 := (hb11.cell (p := ⟨g5, 0, none⟩) (ncell_lt z5_0)).trans z5_0
  replace z5_1 := (hb11.cell (p := ⟨g5, 1, none⟩) (ncell_lt z5_1)).trans z5_1
  replace z5_2 := (hb11.cell (p := ⟨g5, 2, none⟩) (ncell_lt z5_2)).trans z5_2
  replace z7_0 := (hb11.cell (p := ⟨g7, 0, none⟩) (ncell_lt z7_0)).trans z7_0
  replace z7_1 := (hb11.cell (p := ⟨g7, 1, none⟩) (ncell_lt z7_1)).trans z7_1
  replace z8_0 := (hb11.cell (p := ⟨g8, 0, none⟩) (ncell_lt z8_0)).trans z8_0
  replace z8_5 := (hb11.cell (p := ⟨g8, 5, none⟩) (ncell_lt z8_5)).trans z8_5
  replace z8_6 := (hb11.cell (p := ⟨g8, 6, none⟩) (ncell_lt z8_6)).trans z8_6
  replace z9_0 := (hb11.cell (p := ⟨g9, 0, none⟩) (ncell_lt z9_0)).trans z9_0
  replace zx0 := (hb11.cell (p := ⟨gxb, 0, none⟩) (ncell_lt zx0)).trans zx0
  replace zx1 := (hb11.cell (p := ⟨gxb, 1, none⟩) (ncell_lt zx1)).trans zx1
  replace zx2 := (hb11.cell (p := ⟨gxb, 2, none⟩) (ncell_lt zx2)).trans zx2
  replace zx3 := (hb11.cell (p := ⟨gxb, 3, none⟩) (ncell_lt zx3)).trans zx3
  replace zx4 := (hb11.cell (p := ⟨gxb, 4, none⟩) (ncell_lt zx4)).trans zx4
  replace zx5 := (hb11.cell (p := ⟨gxb, 5, none⟩) (ncell_lt zx5)).trans zx5
  replace zy0 := (hb11.cell (p := ⟨gyb, 0, none⟩) (ncell_lt zy0)).trans zy0
  replace zy1 := (hb11.cell (p := ⟨gyb, 1, none⟩) (ncell_lt zy1)).trans zy1
  replace zy2 := (hb11.cell (p := ⟨gyb, 2, none⟩) (ncell_lt zy2)).trans zy2
  replace zy3 := (hb11.cell (p := ⟨gyb, 3, none⟩) (ncell_lt zy3)).trans zy3
  replace zy4 := (hb11.cell (p := ⟨gyb, 4, none⟩) (ncell_lt zy4)).trans zy4
  replace zy5 := (hb11.cell (p := ⟨gyb, 5, none⟩) (ncell_lt zy5)).trans zy5
  replace z10_0 := (hb11.cell (p := ⟨g10, 0, none⟩) (ncell_lt z10_0)).trans z10_0
  replace z10_1 := (hb11.cell (p := ⟨g10, 1, none⟩) (ncell_lt z10_1)).trans z10_1
  replace z10_2 := (hb11.cell (p := ⟨g10, 2, none⟩) (ncell_lt z10_2)).trans z10_2
  replace z10_3 := (hb11.cell (p := ⟨g10, 3, none⟩) (ncell_lt z10_3)).trans z10_3
  replace z10_4 := (hb11.cell (p := ⟨g10, 4, none⟩) (ncell_lt z10_4)).trans z10_4
  replace z10_5 := (hb11.cell (p := ⟨g10, 5, none⟩) (ncell_lt z10_5)).trans z10_5
  replace z10_6 := (hb11.cell (p := ⟨g10, 6, none⟩) (ncell_lt z10_6)).trans z10_6
  replace z10_7 := (hb11.cell (p := ⟨g10, 7, none⟩) (ncell_lt z10_7)).trans z10_7
  replace z10_8 := (hb11.cell (p := ⟨g10, 8, none⟩) (ncell_lt z10_8)).trans z10_8
  replace z10_9 := (hb11.cell (p := ⟨g10, 9, none⟩) (ncell_lt z10_9)).trans z10_9
  replace HCA := Lib.hid (HCA.out.below hb11 (Nat.le_refl _))
  replace HCO := Lib.hid (HCO.out.below hb11 (Nat.le_refl _))
  replace HB := Lib.hid (HB.out.trans (hb11.mono HB.out.size))
  go_upto_region 15 with fail
  obtain ⟨v11, hv11⟩ : ∃ v, v = u11.alloc (.cells #[.int .i64 0, .bool false, .int .i64 0, .int .i64 0, .int .i64 0, .int .i64 0, .int .i64 0, .string ⟨#[]⟩, .slice none 0 0, .slice C11 0 (capN 0 c11)] 29) := ⟨_, rfl⟩
  have hbv11 : Below u11.heap.size u11 v11 := by rw [hv11]; exact (Below.refl _ _).alloc (Nat.le_refl _) _
  replace z0_0 := (hbv11.cell (p := ⟨g0, 0, none⟩) (ncell_lt z0_0)).trans z0_0
  replace z2_0 := (hbv11.cell (p := ⟨g2, 0, none⟩) (ncell_lt z2_0)).trans z2_0
  replace z2_1 := (hbv11.cell (p := ⟨g2, 1, none⟩) (ncell_lt z2_1)).trans z2_1
  replace z2_2 := (hbv11.cell (p := ⟨g2, 2, none⟩) (ncell_lt z2_2)).trans z2_2
  replace z3_0 := (hbv11.cell (p := ⟨g3, 0, none⟩) (ncell_lt z3_0)).trans z3_0
  replace z4_0 := (hbv11.cell (p := ⟨g4, 0, none⟩) (ncell_lt z4_0)).trans z4_0
  replace z5_0 := (hbv11.cell (p := ⟨g5, 0, none⟩) (ncell_lt z5_0)).trans z5_0
  replace z5_1 := (hbv11.cell (p := ⟨g5, 1, none⟩) (ncell_lt z5_1)).trans z5_1
  replace z5_2 := (hbv11.cell (p := ⟨g5, 2, none⟩) (ncell_lt z5_2)).trans z5_2
  replace z7_0 := (hbv11.cell (p := ⟨g7, 0, none⟩) (ncell_lt z7_0)).trans z7_0
  replace z7_1 := (hbv11.cell (p := ⟨g7, 1, none⟩) (ncell_lt z7_1)).trans z7_1
  replace z8_0 := (hbv11.cell (p := ⟨g8, 0, none⟩) (ncell_lt z8_0)).trans z8_0
  replace z8_5 := (hbv11.cell (p := ⟨g8, 5, none⟩) (ncell_lt z8_5)).trans z8_5
  replace z8_6 := (hbv11.cell (p := ⟨g8, 6, none⟩) (ncell_lt z8_6)).trans z8_6
  replace z9_0 := (hbv11.cell (p := ⟨g9, 0, none⟩) (ncell_lt z9_0)).trans z9_0
  replace zx0 := (hbv11.cell (p := ⟨gxb, 0, none⟩) (ncell_lt zx0)).trans zx0
  replace zx1 := (hbv11.cell (p := ⟨gxb, 1, none⟩) (ncell_lt zx1)).trans zx1
  replace zx2 := (hbv11.cell (p := ⟨gxb, 2, none⟩) (ncell_lt zx2)).trans zx2
  replace zx3 := (hbv11.cell (p := ⟨gxb, 3, none⟩) (ncell_lt zx3)).trans zx3
  replace zx4 := (hbv11.cell (p := ⟨gxb, 4, none⟩) (ncell_lt zx4)).trans zx4
  replace zx5 := (hbv11.cell (p := ⟨gxb, 5, none⟩) (ncell_lt zx5)).trans zx5
  replace zy0 := (hbv11.cell (p := ⟨gyb, 0, none⟩) (ncell_lt zy0)).trans zy0
  replace zy1 := (hbv11.cell (p := ⟨gyb, 1, none⟩) (ncell_lt zy1)).trans zy1
  replace zy2 := (hbv11.cell (p := ⟨gyb, 2, none⟩) (ncell_lt zy2)).trans zy2
  replace zy3 := (hbv11.cell (p := ⟨gyb, 3, none⟩) (ncell_lt zy3)).trans zy3
  replace zy4 := (hbv11.cell (p := ⟨gyb, 4, none⟩) (ncell_lt zy4)).trans zy4
  replace zy5 := (hbv11.cell (p := ⟨gyb, 5, none⟩) (ncell_lt zy5)).trans zy5
  replace z10_0 := (hbv11.cell (p := ⟨g10, 0, none⟩) (ncell_lt z10_0)).trans z10_0
  replace z10_1 := (hbv11.cell (p := ⟨g10, 1, none⟩) (ncell_lt z10_1)).trans z10_1
  replace z10_2 := (hbv11.cell (p := ⟨g10, 2, none⟩) (ncell_lt z10_2)).trans z10_2
  replace z10_3 := (hbv11.cell (p := ⟨g10, 3, none⟩) (ncell_lt z10_3)).trans z10_3
  replace z10_4 := (hbv11.cell (p := ⟨g10, 4, none⟩) (ncell_lt z10_4)).trans z10_4
  replace z10_5 := (hbv11.cell (p := ⟨g10, 5, none⟩) (ncell_lt z10_5)).trans z10_5
  replace z10_6 := (hbv11.cell (p := ⟨g10, 6, none⟩) (ncell_lt z10_6)).trans z10_6
  replace z10_7 := (hbv11.cell (p := ⟨g10, 7, none⟩) (ncell_lt z10_7)).trans z10_7
  replace z10_8 := (hbv11.cell (p := ⟨g10, 8, none⟩) (ncell_lt z10_8)).trans z10_8
  replace z10_9 := (hbv11.cell (p := ⟨g10, 9, none⟩) (ncell_lt z10_9)).trans z10_9
  replace HCA := Lib.hid (HCA.out.below hbv11 (Nat.le_refl _))
  replace HCO := Lib.hid (HCO.out.below hbv11 (Nat.le_refl _))
  replace HB := Lib.hid (HB.out.trans (hbv11.mono HB.out.size))
  obtain ⟨g11, hg11⟩ : ∃ g, g = u11.heap.size := ⟨_, rfl⟩
  rw [← hv11, ← hg11]
  clear hv11 hg11 hb11 hbv11  hP11 u11
  go_wp2_with fail
  have HC12 := Lib.hid (ruplanL_any 2 0 10 0 v11)
  rw [rufx12] at HC12
  refine HC12.out.mono ?_
  clear HC12
  rintro e u12 ⟨C12, c12, rfl, hP12, hb12⟩
  simp only [plv, Pl.zero, Nd.zero, List.length_nil]
  replace z0_0 := (hb12.cell (p := ⟨g0, 0, none⟩) (ncell_lt z0_0)).trans z0_0
  replace z2_0 := (hb12.cell (p := ⟨g2, 0, none⟩) (ncell_lt z2_0)).trans z2_0
  replace z2_1 := (hb12.cell (p := ⟨g2, 1, none⟩) (ncell_lt z2_1)).trans z2_1
  replace z2_2 := (hb12.cell (p := ⟨g2, 2, none⟩) (ncell_lt z2_2)).trans z2_2
  replace z3_0 := (hb12.cell (p := ⟨g3, 0, none⟩) (ncell_lt z3_0)).trans z3_0
  replace z4_0 := (hb12.cell (p := ⟨g4, 0, none⟩) (ncell_lt z4_0)).trans z4_0
  replace z5_0 := (hb12.cell (p := ⟨g5, 0, none⟩) (ncell_lt z5_0)).trans z5_0
  replace z5_1 := (hb12.cell (p := ⟨g5, 1, none⟩) (ncell_lt z5_1)).trans z5_1
  replace z5_2 := (hb12.cell (p := ⟨g5, 2, none⟩) (ncell_lt z5_2)).trans z5_2
  replace z7_0 := (hb12.cell (p := ⟨g7, 0, none⟩) (ncell_lt z7_0)).trans z7_0
  replace z7_1 := (hb12.cell (p := ⟨g7, 1, none⟩) (ncell_lt z7_1)).trans z7_1
  replace z8_0 := (hb12.cell (p := ⟨g8, 0, none⟩) (ncell_lt z8_0)).trans z8_0
  replace z8_5 := (hb12.cell (p := ⟨g8, 5, none⟩) (ncell_lt z8_5)).trans z8_5
  replace z8_6 := (hb12.cell (p := ⟨g8, 6, none⟩) (ncell_lt z8_6)).trans z8_6
  replace z9_0 := (hb12.cell (p := ⟨g9, 0, none⟩) (ncell_lt z9_0)).trans z9_0
  replace zx0 := (hb12.cell (p := ⟨gxb, 0, none⟩) (ncell_lt zx0)).trans zx0
  replace zx1 := (hb12.cell (p := ⟨gxb, 1, none⟩) (ncell_lt zx1)).trans zx1
  replace zx2 := (hb12.cell (p := ⟨gxb, 2, none⟩) (ncell_lt zx2)).trans zx2
  replace zx3 := (hb12.cell (p := ⟨gxb, 3, none⟩) (ncell_lt zx3)).trans zx3
  replace zx4 := (hb12.cell (p := ⟨gxb, 4, none⟩) (ncell_lt zx4)).trans zx4
  replace zx5 := (hb12.cell (p := ⟨gxb, 5, none⟩) (ncell_lt zx5)).trans zx5
  replace zy0 := (hb12.cell (p := ⟨gyb, 0, none⟩) (ncell_lt zy0)).trans zy0
  replace zy1 := (hb12.cell (p := ⟨gyb, 1, none⟩) (ncell_lt zy1)).trans zy1
  replace zy2 := (hb12.cell (p := ⟨gyb, 2, none⟩) (ncell_lt zy2)).trans zy2
  replace zy3 := (hb12.cell (p := ⟨gyb, 3, none⟩) (ncell_lt zy3)).trans zy3
  replace zy4 := (hb12.cell (p := ⟨gyb, 4, none⟩) (ncell_lt zy4)).trans zy4
  replace zy5 := (hb12.cell (p := ⟨gyb, 5, none⟩) (ncell_lt zy5)).trans zy5
  replace z10_0 := (hb12.cell (p := ⟨g10, 0, none⟩) (ncell_lt z10_0)).trans z10_0
  replace z10_1 := (hb12.cell (p := ⟨g10, 1, none⟩) (ncell_lt z10_1)).trans z10_1
  replace z10_2 := (hb12.cell (p := ⟨g10, 2, none⟩) (ncell_lt z10_2)).trans z10_2
  replace z10_3 := (hb12.cell (p := ⟨g10, 3, none⟩) (ncell_lt z10_3)).trans z10_3
  replace z10_4 := (hb12.cell (p := ⟨g10, 4, none⟩) (ncell_lt z10_4)).trans z10_4
  replace z10_5 := (hb12.cell (p := ⟨g10, 5, none⟩) (ncell_lt z10_5)).trans z10_5
  replace z10_6 := (hb12.cell (p := ⟨g10, 6, none⟩) (ncell_lt z10_6)).trans z10_6
  replace z10_7 := (hb12.cell (p := ⟨g10, 7, none⟩) (ncell_lt z10_7)).trans z10_7
  replace z10_8 := (hb12.cell (p := ⟨g10, 8, none⟩) (ncell_lt z10_8)).trans z10_8
  replace z10_9 := (hb12.cell (p := ⟨g10, 9, none⟩) (ncell_lt z10_9)).trans z10_9
  replace HCA := Lib.hid (HCA.out.below hb12 (Nat.le_refl _))
  replace HCO := Lib.hid (HCO.out.below hb12 (Nat.le_refl _))
  replace HB := Lib.hid (HB.out.trans (hb12.mono HB.out.size))
  go_upto_region 16 with fail
  obtain ⟨v12, hv12⟩ : ∃ v, v = u12.alloc (.cells #[.int .i64 0, .bool false, .int .i64 0, .int .i64 0, .int .i64 0, .int .i64 0, .int .i64 0, .string ⟨#[]⟩, .slice none 0 0, .slice C12 0 (capN 0 c12)] 29) := ⟨_, rfl⟩
  have hbv12 : Below u12.heap.size u12 v12 := by rw [hv12]; exact (Below.refl _ _).alloc (Nat.le_refl _) _
  replace z0_0 := (hbv12.cell (p := ⟨g0, 0, none⟩) (ncell_lt z0_0)).trans z0_0
  replace z2_0 := (hbv12.cell (p := ⟨g2, 0, none⟩) (ncell_lt z2_0)).trans z2_0
  replace z2_1 := (hbv12.cell (p := ⟨g2, 1, none⟩) (ncell_lt z2_1)).trans z2_1
  replace z2_2 := (hbv12.cell (p := ⟨g2, 2, none⟩) (ncell_lt z2_2)).trans z2_2
  replace z3_0 := (hbv12.cell (p := ⟨g3, 0, none⟩) (ncell_lt z3_0)).trans z3_0
  replace z4_0 := (hbv12.cell (p := ⟨g4, 0, none⟩) (ncell_lt z4_0)).trans z4_0
  replace z5_0 := (hbv12.cell (p := ⟨g5, 0, none⟩) (ncell_lt z5_0)).trans z5_0
  replace z5_1 := (hbv12.cell (p := ⟨g5, 1, none⟩) (ncell_lt z5_1)).trans z5_1
  replace z5_2 := (hbv12.cell (p := ⟨g5, 2, none⟩) (ncell_lt z5_2)).trans z5_2
  replace z7_0 := (hbv12.cell (p := ⟨g7, 0, none⟩) (ncell_lt z7_0)).trans z7_0
  replace z7_1 := (hbv12.cell (p := ⟨g7, 1, none⟩) (ncell_lt z7_1)).trans z7_1
  replace z8_0 := (hbv12.cell (p := ⟨g8, 0, none⟩) (ncell_lt z8_0)).trans z8_0
  replace z8_5 := (hbv12.cell (p := ⟨g8, 5, none⟩) (ncell_lt z8_5)).trans z8_5
  replace z8_6 := (hbv12.cell (p := ⟨g8, 6, none⟩) (ncell_lt z8_6)).trans z8_6
  replace z9_0 := (hbv12.cell (p := ⟨g9, 0, none⟩) (ncell_lt z9_0)).trans z9_0
  replace zx0 := (hbv12.cell (p := ⟨gxb, 0, none⟩) (ncell_lt zx0)).trans zx0
  replace zx1 := (hbv12.cell (p := ⟨gxb, 1, none⟩) (ncell_lt zx1)).trans zx1
  replace zx2 := (hbv12.cell (p := ⟨gxb, 2, none⟩) (ncell_lt zx2)).trans zx2
  replace zx3 := (hbv12.cell (p := ⟨gxb, 3, none⟩) (ncell_lt zx3)).trans zx3
  replace zx4 := (hbv12.cell (p := ⟨gxb, 4, none⟩) (ncell_lt zx4)).trans zx4
  replace zx5 := (hbv12.cell (p := ⟨gxb, 5, none⟩) (ncell_lt zx5)).trans zx5
  replace zy0 := (hbv12.cell (p := ⟨gyb, 0, none⟩) (ncell_lt zy0)).trans zy0
  replace zy1 := (hbv12.cell (p := ⟨gyb, 1, none⟩) (ncell_lt zy1)).trans zy1
  replace zy2 := (hbv12.cell (p := ⟨gyb, 2, none⟩) (ncell_lt zy2)).trans zy2
  replace zy3 := (hbv12.cell (p := ⟨gyb, 3, none⟩) (ncell_lt zy3)).trans zy3
  replace zy4 := (hbv12.cell (p := ⟨gyb, 4, none⟩) (ncell_lt zy4)).trans zy4
  replace zy5 := (hbv12.cell (p := ⟨gyb, 5, none⟩) (ncell_lt zy5)).trans zy5
  replace z10_0 := (hbv12.cell (p := ⟨g10, 0, none⟩) (ncell_lt z10_0)).trans z10_0
  replace z10_1 := (hbv12.cell (p := ⟨g10, 1, none⟩) (ncell_lt z10_1)).trans z10_1
  replace z10_2 := (hbv12.cell (p := ⟨g10, 2, none⟩) (ncell_lt z10_2)).trans z10_2
  replace z10_3 := (hbv12.cell (p := ⟨g10, 3, none⟩) (ncell_lt z10_3)).trans z10_3
  replace z10_4 := (hbv12.cell (p := ⟨g10, 4, none⟩) (ncell_lt z10_4)).trans z10_4
  replace z10_5 := (hbv12.cell (p := ⟨g10, 5, none⟩) (ncell_lt z10_5)).trans z10_5
  replace z10_6 := (hbv12.cell (p := ⟨g10, 6, none⟩) (ncell_lt z10_6)).trans z10_6
  replace z10_7 := (hbv12.cell (p := ⟨g10, 7, none⟩) (ncell_lt z10_7)).trans z10_7
  replace z10_8 := (hbv12.cell (p := ⟨g10, 8, none⟩) (ncell_lt z10_8)).trans z10_8
  replace z10_9 := (hbv12.cell (p := ⟨g10, 9, none⟩) (ncell_lt z10_9)).trans z10_9
  replace HCA := Lib.hid (HCA.out.below hbv12 (Nat.le_refl _))
  replace HCO := Lib.hid (HCO.out.below hbv12 (Nat.le_refl _))
  replace HB := Lib.hid (HB.out.trans (hbv12.mono HB.out.size))
  obtain ⟨g12, hg12⟩ : ∃ g, g = u12.heap.size := ⟨_, rfl⟩
  rw [← hv12, ← hg12]
  clear hv12 hg12 hb12 hbv12  hP12 u12
  have HNE := Lib.hid (runeed_any ⟨2, true, 0, 1, Nd.zero⟩ C10 c10 consN caseN none (some ⟨gy, 0, none⟩) 0 3 (some ⟨gx, 0, none⟩) none 2 0 v12 HCO.out HCA.out)
  rw [rufxneed] at HNE
  go_wp2_with fail
  refine HNE.out.mono ?_
  rintro e w9 ⟨rfl, hb9⟩
  have HF := Lib.hid (HB.out.trans (hb9.mono HB.out.size))
  clear hb9
  go_wp2_with fail
  go_ret
  exact ⟨rfl, HF.out⟩
end Lx
end Go.Proofs.Ytlamjjkcbadibaa
namespace Go.Proofs.Ytlamjjkcbadibaa
namespace Lx
set_option maxRecDepth 100000
theorem of_noswap {x y : Nd} (h : aheadV y x = false) : ofN x y = ({ (planV x y).1 with swap := false }, (planV x y).2) := by simp only [ofN, h, xOf]; rfl
theorem of_swap {x y : Nd} (h : aheadV y x = true) : ofN x y = ({ (planV y x).1 with swap := decide ((planV y x).2 = 0) }, (planV y x).2) := by simp only [ofN, h, xOf]; rfl
theorem ahead_role {x y : Nd} (h : roleV x.kind ≠ 2 ∨ roleV y.kind ≠ 2) : aheadV x y = decide (roleV x.kind < roleV y.kind) := by
  unfold aheadV
  rw [if_neg (by omega)]
/-- Two that ask, or are told, do nothing. -/
theorem of_pair {x y : Nd} (h : (roleV x.kind = 3 ∧ roleV y.kind = 3) ∨ (roleV x.kind = 4 ∧ roleV y.kind = 4)) : ofN x y = (Pl.zero, 140) := by
  rw [of_noswap (by rw [ahead_role (by omega)]; simp; omega)]
  unfold planV
  rw [if_neg (by omega), if_neg (by omega), if_neg (by omega), if_neg (by omega)]
  rfl
theorem of_asks {x y : Nd} (hx : roleV x.kind = 3) (hy : roleV y.kind = 4) : ofN x y = ({ (answerV x y).1 with swap := false }, (answerV x y).2) := by
  rw [of_noswap (by rw [ahead_role (by omega)]; simp; omega)]
  unfold planV
  rw [if_neg (by omega), if_neg (by omega), if_neg (by omega), if_pos ⟨hx, hy⟩]
theorem answer_kind (x y : Nd) (h : (answerV x y).2 = 0) : 1 ≤ (answerV x y).1.kind ∧ (answerV x y).1.kind ≤ 5 := by
  revert h
  unfold answerV pickV outV Pl.one Pl.zero
  repeat' split
  all_goals first | (intro h; exact absurd h (by decide)) | simp
theorem altAt_lt {s : ByteArray} {p : Int} : ∀ {l : List (ByteArray × Int)} {i : Nat}, altAt s p l = some i → ∃ h : i < l.length, (l[i]'h).2 = p
  | [], i, h => by simp [altAt] at h
  | a :: r, i, h => by
    rw [altAt] at h
    split at h
    · rename_i h1; cases h; exact ⟨by simp, h1.2⟩
    · cases hq : altAt s p r with
      | none => rw [hq] at h; cases h
      | some j => rw [hq] at h; cases h; obtain ⟨h1, h2⟩ := altAt_lt hq; exact ⟨by simpa using h1, by simpa using h2⟩
theorem node_facts {x : Nd} (h : nodeV x = true) : 0 ≤ x.level ∧ x.level ≤ 60 ∧ (x.kind = 8 → 1 ≤ x.to.length ∧ x.to.length ≤ 9) ∧ (x.kind ≠ 9 → x.alts.length = 0) ∧ x.alts.length ≤ 8 ∧ 0 ≤ x.kind ∧ x.kind ≤ 13 := by
  obtain ⟨k, l, n, s, al, tp⟩ := x
  rw [nodeV_eq] at h
  simp only [n1, n3, n5, Bool.and_eq_true, Bool.not_eq_true', decide_eq_false_iff_not] at h
  obtain ⟨h1, _, h5, _⟩ := h
  simp only
  omega
theorem ports_le {x : Nd} (h : nodeV x = true) : x.ports ≤ 10 ∧ (roleV x.kind = 4 → x.ports ≤ 9) := by
  have := node_facts h
  obtain ⟨k, l, n, s, al, tp⟩ := x
  simp only at this
  simp only [Nd.ports, portsN, roleV]
  repeat' split
  all_goals omega
/-- What comes of one that asks and one that is told. -/
theorem asks_ok {x y : Nd} (hx : roleV x.kind = 3) (hy : roleV y.kind = 4) (nx : nodeV x = true) (ny : nodeV y = true) (lx : x.to.length ≤ x.ports) (ly : y.to.length ≤ y.ports) :
    (((x.kind = 3 ∧ y.kind = 2) ∨ (x.kind = 9 ∧ y.kind = 8)) ∧ x.level ≠ y.level → (ofN x y).2 = 140) ∧
    (¬ (((x.kind = 3 ∧ y.kind = 2) ∨ (x.kind = 9 ∧ y.kind = 8)) ∧ x.level ≠ y.level) → (ofN x y).2 = 0 ∧ (ofN x y).1.swap = false ∧ 1 ≤ (ofN x y).1.kind ∧ (ofN x y).1.kind ≤ 5 ∧ 0 ≤ needV (ofN x y).1 x y ∧ needV (ofN x y).1 x y ≤ 17) := by
  rw [of_asks hx hy]
  refine ⟨fun h => by unfold answerV; rw [if_pos h], fun h => ?_⟩
  have h0 : (answerV x y).2 = 0 := by
    unfold answerV
    rw [if_neg h]
    repeat' split
    all_goals rfl
  have hk := answer_kind x y h0
  refine ⟨h0, rfl, hk.1, hk.2, ?_⟩
  have px := (ports_le nx).1
  have py := (ports_le ny).2 hy
  have fx := node_facts nx
  have h5 : 0 ≤ (1 : Int) + max (othersV x - 1) 0 + othersV y ∧ (1 : Int) + max (othersV x - 1) 0 + othersV y ≤ 17 := by
    unfold othersV
    omega
  have fy := node_facts ny
  have h2 : ∀ p : Pl, y.kind = 8 → p.kind = 2 → p.swap = false → (∃ i : Nat, p.alt = i ∧ altAt y.name ((y.to.length : Int) - 1) x.alts = some i) → 0 ≤ needV p x y ∧ needV p x y ≤ 17 := by
    rintro p hy8 hp hs ⟨i, hi, ha⟩
    obtain ⟨h1, h2⟩ := altAt_lt ha
    simp only [needV, hp, hs, xOf, if_true, Bool.false_eq_true, if_false, hi, needPick]
    rw [if_neg (by omega)]
    have e : x.alts.getD (Int.toNat (i : Int)) (⟨#[]⟩, 0) = x.alts[i]'h1 := by simp [List.getD, h1]
    rw [e, h2, wrapR_of (a := (y.to.length : Int) - 1 + _) (by omega), wrapR_of (by omega)]
    omega
  unfold answerV
  rw [if_neg h]
  by_cases b1 : x.kind = 3 ∧ y.kind = 2
  · rw [if_pos b1]; simp [needV, Pl.one]
  · rw [if_neg b1]
    by_cases b2 : x.kind = 9 ∧ y.kind = 8
    · rw [if_pos b2]
      cases ha : altAt y.name ((y.to.length : Int) - 1) x.alts with
      | none => simp only [pickV, ha, Pl.one, needV, xOf]; simpa using h5
      | some i => simp only [pickV, ha]; exact h2 _ b2.2 rfl rfl ⟨i, rfl, ha⟩
    · rw [if_neg b2]
      by_cases b3 : x.kind = 11 ∧ y.kind = 10
      · rw [if_pos b3]; simp [needV, Pl.one]
      · rw [if_neg b3]
        by_cases b4 : x.kind = 12 ∧ y.kind = 10
        · rw [if_pos b4]
          simp only [outV]
          split
          · simp [needV]
          · simp only [Pl.one, needV, xOf]; simpa using h5
        · rw [if_neg b4]; simp only [Pl.one, needV, xOf]; simpa using h5
end Lx
end Go.Proofs.Ytlamjjkcbadibaa
