/-
  Walk of the trees' law's fixed.
-/
import Derived.Test.YtnljlocogfacfaaDoorLit
import Derived.Test.YtnljlocogfacfaaDoorBare
import Derived.Test.YtnljlocogfacfaaDoorSame
import Derived.Deep.RegionHeld3
import Derived.Deep.DrawnRows
namespace Go.Proofs.YtnljlocogfacfaaDoor
open Go.RowKit
namespace Lx
set_option maxRecDepth 100000
def tNone : Tr := .node 0 ⟨#[]⟩ 0 0 []
def tLet : Tr := .node 1 ⟨#[108, 101, 116]⟩ 0 0 []
def tA : Tr := .node 6 ⟨#[65]⟩ 0 0 []
def tCase : Tr := .node 7 ⟨#[]⟩ 0 0 [T0, T8]
theorem f1 : mayV T0 = true := by kernel_rfl
theorem f2 : depthT T0 = 3 := by rfl
theorem f3 : sizeT T0 = 4 := by rfl
theorem f4 : sameT T0 (bareT T0) = true := by kernel_rfl
theorem f5 : sameT T0 T1 = false := by kernel_rfl
theorem f6 : mayV tNone = false := by kernel_rfl
theorem f7 : mayV tLet = false := by kernel_rfl
theorem f8 : mayV tA = true := by kernel_rfl
theorem f9 : mayV T8 = false := by kernel_rfl
theorem f10 : mayV tCase = true := by kernel_rfl
set_option maxHeartbeats 8000000 in
set_option maxRecDepth 100000 in
theorem fixT_any (w : World) (hg : Signs w) : Calls Tryd.prog 19 #[] w fun e w' => e = .returned (.bool true) ∧ Below w.heap.size w w' := by
  go_enter Tryd.func19, Tryd.ntmps19
  go_wp2_with fail
  refine (law_same _).mono ?_
  rintro e w1 ⟨rfl, hT, hlt, hb1⟩
  obtain ⟨g, hgg⟩ : ∃ g, g = w.heap.size + 1 + 1 := ⟨_, rfl⟩
  rw [← hgg] at hT hlt ⊢
  clear hgg
  unfold tv
  simp only [T0, Tr.kind, Tr.name, Tr.n, Tr.place, Tr.parts, List.length_cons, List.length_nil, Nat.zero_add, Nat.reduceAdd]
  go_wp2_with fail
  refine (bare_any 3 T0 (some ⟨g, 0, none⟩) 2 _ (by decide) (by decide) (TIn.below _ hT ((Below.refl _ w1).alloc (Nat.le_refl _) _) (Nat.le_refl _))).mono ?_
  rintro e w2 ⟨A2, c2, he, hB, hb2⟩
  rw [tv_bare] at he
  simp only [T0, Tr.kind, Tr.name, Tr.n, Tr.parts, List.length_cons, List.length_nil, Nat.zero_add, Nat.reduceAdd] at he
  subst he
  have hb12 : Below w.heap.size w w2 := (hb1.alloc hb1.size _).trans (hb2.mono (by have := hb1.size; simp; omega))
  have hF0 : Fx w (w2.alloc (.cells #[.int .i64 3, .string ⟨#[]⟩, .int .i64 0, .int .i64 0, .slice A2 2 c2] 33)) g w1.heap.size w2.heap.size A2 c2 :=
    ⟨((Lies.new w1 33 _).below hb2 (by simp)).old _, Lies.new w2 33 _,
     TIn.below _ (TIn.below _ (TIn.below _ hT ((Below.refl _ w1).alloc (Nat.le_refl _) (.cells #[.int .i64 3, .string ⟨#[]⟩, .int .i64 0, .int .i64 0, .slice (some ⟨g, 0, none⟩) 2 2] 33)) (Nat.le_refl _)) hb2 (Nat.le_refl _)) ((Below.refl _ w2).alloc (Nat.le_refl _) _) (Nat.le_refl _),
     TIn.any _ (TIn.below _ hB ((Below.refl _ w2).alloc (Nat.le_refl _) _) (Nat.le_refl _)), (hg.below hb12 hg.pos).below ((Below.refl _ w2).alloc (Nat.le_refl _) _) (hg.below hb12 hg.pos).pos, hb12.alloc hb12.size _⟩
  obtain ⟨G1, hG1⟩ : ∃ G, G = w1.heap.size := ⟨_, rfl⟩
  obtain ⟨G2, hG2⟩ : ∃ G, G = w2.heap.size := ⟨_, rfl⟩
  obtain ⟨W3, hW3⟩ : ∃ W, W = w2.alloc (.cells #[.int .i64 3, .string ⟨#[]⟩, .int .i64 0, .int .i64 0, .slice A2 2 c2] 33) := ⟨_, rfl⟩
  go_wp2_with fail
  rw [← hG1, ← hG2, ← hW3] at hF0 ⊢
  clear hG1 hG2 hW3 hT hB hb1 hb2 hb12 hlt
  obtain ⟨g', o', hA2, b3⟩ := hF0.bare
  subst hA2
  obtain ⟨A', c', p0, p1, p2, p3, p4, hT1⟩ := hF0.part
  obtain ⟨x0, x1, x2, x3, x4⟩ := hF0.lt.five.1
  obtain ⟨y0, y1, y2, y3, y4⟩ := hF0.lb.five.1
  have hS : ∀ V, Below W3.heap.size W3 V → V.cell? ⟨G1, 0, none⟩ = some (.int .i64 3) ∧ V.cell? ⟨G1, 1, none⟩ = some (.string ⟨#[]⟩) ∧ V.cell? ⟨G1, 2, none⟩ = some (.int .i64 0) ∧ V.cell? ⟨G1, 3, none⟩ = some (.int .i64 0) ∧ V.cell? ⟨G1, 4, none⟩ = some (.slice (some ⟨g, 0, none⟩) 2 2) ∧ V.cell? ⟨G2, 0, none⟩ = some (.int .i64 3) ∧ V.cell? ⟨G2, 1, none⟩ = some (.string ⟨#[]⟩) ∧ V.cell? ⟨G2, 2, none⟩ = some (.int .i64 0) ∧ V.cell? ⟨G2, 3, none⟩ = some (.int .i64 0) ∧ V.cell? ⟨G2, 4, none⟩ = some (.slice (some ⟨g', o', none⟩) 2 c2) ∧ V.cell? ⟨g', o' + 3, none⟩ = some (.int .i64 0) ∧ V.cell? ⟨g, 0, none⟩ = some (.int .i64 2) ∧ V.cell? ⟨g, 1, none⟩ = some (.string ⟨#[120]⟩) ∧ V.cell? ⟨g, 2, none⟩ = some (.int .i64 0) ∧ V.cell? ⟨g, 3, none⟩ = some (.int .i64 1) ∧ V.cell? ⟨g, 4, none⟩ = some (.slice A' 1 c') := fun V hb =>
    have hc : ∀ b j, b < W3.heap.size → V.cell? ⟨b, j, none⟩ = W3.cell? ⟨b, j, none⟩ := fun b j h => hb.cell (p := ⟨b, j, none⟩) h
    have k1 := hF0.lt.lt
    have k2 := hF0.lb.lt
    have k3 := cell_lt p0
    have k4 := cell_lt b3
    ⟨(hc _ _ k1).trans x0, (hc _ _ k1).trans x1, (hc _ _ k1).trans x2, (hc _ _ k1).trans x3, (hc _ _ k1).trans x4, (hc _ _ k2).trans y0, (hc _ _ k2).trans y1, (hc _ _ k2).trans y2, (hc _ _ k2).trans y3, (hc _ _ k2).trans y4, (hc _ _ k4).trans b3, (hc _ _ k3).trans p0, (hc _ _ k3).trans p1, (hc _ _ k3).trans p2, (hc _ _ k3).trans p3, (hc _ _ k3).trans p4⟩
  have HS := Lib.hid hS
  have hF3 : Fx w W3.drew g G1 G2 (some ⟨g', o', none⟩) c2 ∧ TIn W3.drew Any T1 A' := ⟨hF0.step (Below.refl _ W3).drew, TIn.below _ hT1 (Below.refl _ W3).drew (Nat.le_refl _)⟩
  have hd3 : Below W3.heap.size W3 W3.drew := (Below.refl _ W3).drew
  clear hS hF0 b3 p0 p1 p2 p3 p4 hT1 x0 x1 x2 x3 x4 y0 y1 y2 y3 y4 hg
  have M0 : ∀ W, Fx w W g G1 G2 (some ⟨g', o', none⟩) c2 ∧ TIn W Any T1 A' → Calls Tryd.prog 26 #[.agg #[.int .i64 3, .string ⟨#[]⟩, .int .i64 0, .int .i64 0, .slice (some ⟨g, 0, none⟩) 2 2]] W fun e w' => e = .returned (.bool true) ∧ Below W.heap.size W w' := fun W hF => by
    refine (tmay_any T0 (some ⟨g, 0, none⟩) 2 W hF.1.t0 hF.1.sg).mono ?_
    rintro e w' ⟨rfl, hb⟩
    exact ⟨by rw [f1], hb⟩
  have HM0 := Lib.hid M0
  clear M0
  have M1 : ∀ W, Fx w W g G1 G2 (some ⟨g', o', none⟩) c2 ∧ TIn W Any T1 A' → Calls Tryd.prog 24 #[.agg #[.int .i64 3, .string ⟨#[]⟩, .int .i64 0, .int .i64 0, .slice (some ⟨g, 0, none⟩) 2 2]] W fun e w' => e = .returned (.int .i64 3) ∧ Below W.heap.size W w' := fun W hF => by
    refine (depth_any 3 T0 (some ⟨g, 0, none⟩) 2 W (by decide) (by decide) hF.1.t0).mono ?_
    rintro e w' ⟨rfl, hb⟩
    exact ⟨by rw [f2]; rfl, hb⟩
  have HM1 := Lib.hid M1
  clear M1
  have M2 : ∀ W, Fx w W g G1 G2 (some ⟨g', o', none⟩) c2 ∧ TIn W Any T1 A' → Calls Tryd.prog 25 #[.agg #[.int .i64 3, .string ⟨#[]⟩, .int .i64 0, .int .i64 0, .slice (some ⟨g, 0, none⟩) 2 2]] W fun e w' => e = .returned (.int .i64 4) ∧ Below W.heap.size W w' := fun W hF => by
    refine (size_any 3 T0 (some ⟨g, 0, none⟩) 2 W (by decide) (by decide) hF.1.t0).mono ?_
    rintro e w' ⟨rfl, hb⟩
    exact ⟨by rw [f3]; rfl, hb⟩
  have HM2 := Lib.hid M2
  clear M2
  have M3 : ∀ W, Fx w W g G1 G2 (some ⟨g', o', none⟩) c2 ∧ TIn W Any T1 A' → Calls Tryd.prog 22 #[.agg #[.int .i64 3, .string ⟨#[]⟩, .int .i64 0, .int .i64 0, .slice (some ⟨g, 0, none⟩) 2 2], .agg #[.int .i64 3, .string ⟨#[]⟩, .int .i64 0, .int .i64 0, .slice (some ⟨g', o', none⟩) 2 c2]] W fun e w' => e = .returned (.bool true) ∧ Below W.heap.size W w' := fun W hF => by
    refine (same_tree 3 T0 (bareT T0) (some ⟨g, 0, none⟩) (some ⟨g', o', none⟩) 2 c2 W (by decide) hF.1.t0 hF.1.b0).mono ?_
    rintro e w' ⟨rfl, hb⟩
    exact ⟨by rw [f4], hb⟩
  have HM3 := Lib.hid M3
  clear M3
  have M4 : ∀ W, Fx w W g G1 G2 (some ⟨g', o', none⟩) c2 ∧ TIn W Any T1 A' → Calls Tryd.prog 22 #[.agg #[.int .i64 3, .string ⟨#[]⟩, .int .i64 0, .int .i64 0, .slice (some ⟨g, 0, none⟩) 2 2], .agg #[.int .i64 2, .string ⟨#[120]⟩, .int .i64 0, .int .i64 1, .slice A' 1 c']] W fun e w' => e = .returned (.bool false) ∧ Below W.heap.size W w' := fun W hF => by
    refine (same_tree 3 T0 T1 (some ⟨g, 0, none⟩) A' 2 c' W (by decide) hF.1.t0 hF.2).mono ?_
    rintro e w' ⟨rfl, hb⟩
    exact ⟨by rw [f5], hb⟩
  have HM4 := Lib.hid M4
  clear M4
  have M5 : ∀ W, Fx w W g G1 G2 (some ⟨g', o', none⟩) c2 ∧ TIn W Any T1 A' → Calls Tryd.prog 26 #[.agg #[.int .i64 0, .string ⟨#[]⟩, .int .i64 0, .int .i64 0, .slice none 0 0]] W fun e w' => e = .returned (.bool false) ∧ Below W.heap.size W w' := fun W hF => by
    refine (tmay_any tNone none 0 W (TIn.leaf (by decide)) hF.1.sg).mono ?_
    rintro e w' ⟨rfl, hb⟩
    exact ⟨by rw [f6], hb⟩
  have HM5 := Lib.hid M5
  clear M5
  have M6 : ∀ W, Fx w W g G1 G2 (some ⟨g', o', none⟩) c2 ∧ TIn W Any T1 A' → Calls Tryd.prog 26 #[.agg #[.int .i64 1, .string ⟨#[108, 101, 116]⟩, .int .i64 0, .int .i64 0, .slice none 0 0]] W fun e w' => e = .returned (.bool false) ∧ Below W.heap.size W w' := fun W hF => by
    refine (tmay_any tLet none 0 W (TIn.leaf (by decide)) hF.1.sg).mono ?_
    rintro e w' ⟨rfl, hb⟩
    exact ⟨by rw [f7], hb⟩
  have HM6 := Lib.hid M6
  clear M6
  have M7 : ∀ W, Fx w W g G1 G2 (some ⟨g', o', none⟩) c2 ∧ TIn W Any T1 A' → Calls Tryd.prog 26 #[.agg #[.int .i64 6, .string ⟨#[65]⟩, .int .i64 0, .int .i64 0, .slice none 0 0]] W fun e w' => e = .returned (.bool true) ∧ Below W.heap.size W w' := fun W hF => by
    refine (tmay_any tA none 0 W (TIn.leaf (by decide)) hF.1.sg).mono ?_
    rintro e w' ⟨rfl, hb⟩
    exact ⟨by rw [f8], hb⟩
  have HM7 := Lib.hid M7
  clear M7
  have M8 : ∀ W, Fx w W g G1 G2 (some ⟨g', o', none⟩) c2 ∧ TIn W Any T1 A' → Calls Tryd.prog 26 #[.agg #[.int .i64 8, .string ⟨#[65]⟩, .int .i64 0, .int .i64 0, .slice (some ⟨g, 5, none⟩) 1 1]] W fun e w' => e = .returned (.bool false) ∧ Below W.heap.size W w' := fun W hF => by
    refine (tmay_any T8 (some ⟨g, 5, none⟩) 1 W hF.1.alt hF.1.sg).mono ?_
    rintro e w' ⟨rfl, hb⟩
    exact ⟨by rw [f9], hb⟩
  have HM8 := Lib.hid M8
  clear M8
  have M9 : ∀ W, Fx w W g G1 G2 (some ⟨g', o', none⟩) c2 ∧ TIn W Any T1 A' → Calls Tryd.prog 26 #[.agg #[.int .i64 7, .string ⟨#[]⟩, .int .i64 0, .int .i64 0, .slice (some ⟨W.heap.size, 0, none⟩) 2 2]] (W.alloc (.cells #[.int .i64 3, .string ⟨#[]⟩, .int .i64 0, .int .i64 0, .slice (some ⟨g, 0, none⟩) 2 2, .int .i64 8, .string ⟨#[65]⟩, .int .i64 0, .int .i64 0, .slice (some ⟨g, 5, none⟩) 1 1] 33)) fun e w' => e = .returned (.bool true) ∧ Below (W.alloc (.cells #[.int .i64 3, .string ⟨#[]⟩, .int .i64 0, .int .i64 0, .slice (some ⟨g, 0, none⟩) 2 2, .int .i64 8, .string ⟨#[65]⟩, .int .i64 0, .int .i64 0, .slice (some ⟨g, 5, none⟩) 1 1] 33)).heap.size (W.alloc (.cells #[.int .i64 3, .string ⟨#[]⟩, .int .i64 0, .int .i64 0, .slice (some ⟨g, 0, none⟩) 2 2, .int .i64 8, .string ⟨#[65]⟩, .int .i64 0, .int .i64 0, .slice (some ⟨g, 5, none⟩) 1 1] 33)) w' := fun W hF => by
    have hF' := hF.1.step ((Below.refl _ W).alloc (Nat.le_refl _) (.cells #[.int .i64 3, .string ⟨#[]⟩, .int .i64 0, .int .i64 0, .slice (some ⟨g, 0, none⟩) 2 2, .int .i64 8, .string ⟨#[65]⟩, .int .i64 0, .int .i64 0, .slice (some ⟨g, 5, none⟩) 1 1] 33))
    refine (tmay_any tCase (some ⟨W.heap.size, 0, none⟩) 2 _ (TIn.mk (by decide) (by decide) (LIn.two (c1 := 2) (c2 := 1) (Lies.new W 33 _) rfl trivial hF'.t0 hF'.alt)) hF'.sg).mono ?_
    rintro e w' ⟨rfl, hb⟩
    exact ⟨by rw [f10], hb⟩
  have HM9 := Lib.hid M9
  clear M9
  dsimp only [List.append]
  go_region_held3 (fun V => V.cell? ⟨G1, 0, none⟩ = some (.int .i64 3) ∧ V.cell? ⟨G1, 1, none⟩ = some (.string ⟨#[]⟩) ∧ V.cell? ⟨G1, 2, none⟩ = some (.int .i64 0) ∧ V.cell? ⟨G1, 3, none⟩ = some (.int .i64 0) ∧ V.cell? ⟨G1, 4, none⟩ = some (.slice (some ⟨g, 0, none⟩) 2 2) ∧ V.cell? ⟨G2, 0, none⟩ = some (.int .i64 3) ∧ V.cell? ⟨G2, 1, none⟩ = some (.string ⟨#[]⟩) ∧ V.cell? ⟨G2, 2, none⟩ = some (.int .i64 0) ∧ V.cell? ⟨G2, 3, none⟩ = some (.int .i64 0) ∧ V.cell? ⟨G2, 4, none⟩ = some (.slice (some ⟨g', o', none⟩) 2 c2) ∧ V.cell? ⟨g', o' + 3, none⟩ = some (.int .i64 0) ∧ V.cell? ⟨g, 0, none⟩ = some (.int .i64 2) ∧ V.cell? ⟨g, 1, none⟩ = some (.string ⟨#[120]⟩) ∧ V.cell? ⟨g, 2, none⟩ = some (.int .i64 0) ∧ V.cell? ⟨g, 3, none⟩ = some (.int .i64 1) ∧ V.cell? ⟨g, 4, none⟩ = some (.slice A' 1 c'))
    (first | exact HS.out _ hd3 | exact HS.out _ hd4 | exact HS.out _ hd5 | exact HS.out _ hd6 | exact HS.out _ hd7 | exact HS.out _ hd8 | exact HS.out _ hd9 | exact HS.out _ hd10 | exact HS.out _ hd11 | exact HS.out _ hd12 | exact HS.out _ (hd12.alloc hd12.size _) | exact HS.out _ hd13)
    ((first
      | (go_at_call 26; (with_reducible refine (HM0.out _ ?_).mono ?_); exact hF3; rintro e w4 ⟨rfl, hb4⟩; have hF4 := And.intro (hF3.1.step hb4) (TIn.below _ hF3.2 hb4 (Nat.le_refl _)); have hd4 := hd3.trans (hb4.mono hd3.size))
      | (go_at_call 24; (with_reducible refine (HM1.out _ ?_).mono ?_); exact hF4; rintro e w5 ⟨rfl, hb5⟩; have hF5 := And.intro (hF4.1.step hb5) (TIn.below _ hF4.2 hb5 (Nat.le_refl _)); have hd5 := hd4.trans (hb5.mono hd4.size))
      | (go_at_call 25; (with_reducible refine (HM2.out _ ?_).mono ?_); exact hF5; rintro e w6 ⟨rfl, hb6⟩; have hF6 := And.intro (hF5.1.step hb6) (TIn.below _ hF5.2 hb6 (Nat.le_refl _)); have hd6 := hd5.trans (hb6.mono hd5.size))
      | (go_at_call 22; (with_reducible refine (HM3.out _ ?_).mono ?_); exact hF6; rintro e w7 ⟨rfl, hb7⟩; have hF7 := And.intro (hF6.1.step hb7) (TIn.below _ hF6.2 hb7 (Nat.le_refl _)); have hd7 := hd6.trans (hb7.mono hd6.size))
      | (go_at_call 22; (with_reducible refine (HM4.out _ ?_).mono ?_); exact hF7; rintro e w8 ⟨rfl, hb8⟩; have hF8 := And.intro (hF7.1.step hb8) (TIn.below _ hF7.2 hb8 (Nat.le_refl _)); have hd8 := hd7.trans (hb8.mono hd7.size))
      | (go_at_call 26; (with_reducible refine (HM5.out _ ?_).mono ?_); exact hF8; rintro e w9 ⟨rfl, hb9⟩; have hF9 := And.intro (hF8.1.step hb9) (TIn.below _ hF8.2 hb9 (Nat.le_refl _)); have hd9 := hd8.trans (hb9.mono hd8.size))
      | (go_at_call 26; (with_reducible refine (HM6.out _ ?_).mono ?_); exact hF9; rintro e w10 ⟨rfl, hb10⟩; have hF10 := And.intro (hF9.1.step hb10) (TIn.below _ hF9.2 hb10 (Nat.le_refl _)); have hd10 := hd9.trans (hb10.mono hd9.size))
      | (go_at_call 26; (with_reducible refine (HM7.out _ ?_).mono ?_); exact hF10; rintro e w11 ⟨rfl, hb11⟩; have hF11 := And.intro (hF10.1.step hb11) (TIn.below _ hF10.2 hb11 (Nat.le_refl _)); have hd11 := hd10.trans (hb11.mono hd10.size))
      | (go_at_call 26; (with_reducible refine (HM8.out _ ?_).mono ?_); exact hF11; rintro e w12 ⟨rfl, hb12⟩; have hF12 := And.intro (hF11.1.step hb12) (TIn.below _ hF11.2 hb12 (Nat.le_refl _)); have hd12 := hd11.trans (hb12.mono hd11.size))
      | (go_at_call 26; (with_reducible refine (HM9.out _ ?_).mono ?_); exact hF12; rintro e w13 ⟨rfl, hb13⟩; have hd13 := (hd12.alloc hd12.size (.cells #[.int .i64 3, .string ⟨#[]⟩, .int .i64 0, .int .i64 0, .slice (some ⟨g, 0, none⟩) 2 2, .int .i64 8, .string ⟨#[65]⟩, .int .i64 0, .int .i64 0, .slice (some ⟨g, 5, none⟩) 1 1] 33)).trans (hb13.mono (by have := hd12.size; simp; omega)))))
  go_wp2_with fail
  go_ret
  exact ⟨rfl, hF12.1.bw.trans ((((Below.refl _ w12).alloc (Nat.le_refl _) _).trans (hb13.mono (by simp))).mono hF12.1.bw.size)⟩
end Lx
end Go.Proofs.YtnljlocogfacfaaDoor
