/-
  Trees out of literals: the law's own tree.
-/
import Derived.Test.YtnljlocogfacfaaDoorRBare
import Derived.Test.YtnljlocogfacfaaDoorRefMayT
namespace Go.Proofs.YtnljlocogfacfaaDoor
open Go.RowKit
namespace Lx
set_option maxRecDepth 100000
theorem TIn.mk {w : World} {X : Nat → Prop} {k n a : Int} {s : ByteArray} {l : List Tr} {A : Option Addr} (hs : s.size ≤ 140737488351232) (hl : l.length ≤ 140737488351232) (h : LIn w X l A 0) : TIn w X (.node k s n a l) A := by
  rw [TIn]; exact ⟨hs, hl, h⟩
theorem TIn.leaf {w : World} {X : Nat → Prop} {k n a : Int} {s : ByteArray} {A : Option Addr} (hs : s.size ≤ 140737488351232) : TIn w X (.node k s n a []) A :=
  TIn.mk hs (by simp) (by rw [LIn]; trivial)
theorem LIn.of_lies {w : World} {X : Nat → Prop} {l : List Tr} {xs : List Value} {g : Nat} {cs : Array Value} {t : TypeId} (h : RowTr w X l xs) (L : Lies w g t cs) (hcs : cs.toList = xs) (hg : X g) : LIn w X l (some ⟨g, 0, none⟩) 0 := by
  refine h.parts hg (fun _ hb _ => hb) fun j u hu => ?_
  rw [Nat.zero_add, L.cell j, ← hu, ← hcs, Array.getElem?_toList]
theorem LIn.one {w : World} {X : Nat → Prop} {t1 : Tr} {A1 : Option Addr} {c1 : Nat} {g : Nat} {cs : Array Value} {t : TypeId} (L : Lies w g t cs) (hcs : cs.toList = cellsT t1 A1 c1) (hg : X g) (h1 : TIn w X t1 A1) : LIn w X [t1] (some ⟨g, 0, none⟩) 0 :=
  LIn.of_lies ((RowTr.nil w X).snoc (c := c1) h1) L (by simpa using hcs) hg
theorem LIn.two {w : World} {X : Nat → Prop} {t1 t2 : Tr} {A1 A2 : Option Addr} {c1 c2 : Nat} {g : Nat} {cs : Array Value} {t : TypeId} (L : Lies w g t cs) (hcs : cs.toList = cellsT t1 A1 c1 ++ cellsT t2 A2 c2) (hg : X g) (h1 : TIn w X t1 A1) (h2 : TIn w X t2 A2) : LIn w X [t1, t2] (some ⟨g, 0, none⟩) 0 :=
  LIn.of_lies (((RowTr.nil w X).snoc (c := c1) h1).snoc (c := c2) h2) L (by simpa using hcs) hg
theorem rMay_any (t : Tr) (A : Option Addr) (c : Nat) (w : World) (hI : TIn w Any t A) :
    Calls Tryd.prog 27 #[tv t A c] w fun e w' => e = .returned (.bool (mayV t)) ∧ Below w.heap.size w w' := by
  have hE : mayRT t false = mayV t := by
    rw [may_eq]
    unfold mayV
    by_cases h : t.kind = 8 <;> simp [h]
  obtain ⟨k, s, n, a, l⟩ := t
  have HM := Lib.hid (rmay_any (depthT (.node k s n a l)) (.node k s n a l) A c false (w.alloc (.cells #[.int .i64 k, .string s, .int .i64 n, .int .i64 a, .slice A l.length c] 33)) (Nat.le_refl _) (TIn.below _ hI ((Below.refl _ w).alloc (Nat.le_refl _) _) (Nat.le_refl _)))
  rw [hE] at HM
  clear hE hI
  show Calls Tryd.prog 27 #[.agg #[.int .i64 k, .string s, .int .i64 n, .int .i64 a, .slice A l.length c]] w _
  go_enter Tryd.func27, Tryd.ntmps27
  go_wp2_with fail
  refine HM.out.mono ?_
  rintro e w2 ⟨rfl, hb2⟩
  go_wp2_with fail
  go_ret
  exact ⟨rfl, below_ac hb2⟩

def bx : ByteArray := ⟨#[120]⟩
def T1 : Tr := .node 2 bx 0 1 [.node 1 bx 0 3 []]
def T2 : Tr := .node 9 ⟨#[]⟩ 7 6 []
/-- A function that tells what it is told, applied to a number. -/
def T0 : Tr := .node 3 ⟨#[]⟩ 0 0 [T1, T2]
set_option maxHeartbeats 1000000 in
theorem law_same (w : World) : Calls Tryd.prog 41 #[] w fun e w' => e = .returned (tv T0 (some ⟨w.heap.size + 1 + 1, 0, none⟩) 2) ∧ TIn w' Any T0 (some ⟨w.heap.size + 1 + 1, 0, none⟩) ∧ w.heap.size + 1 + 1 < w'.heap.size ∧ Below w.heap.size w w' := by
  have L1 := (Lies.new (w.alloc (.cells #[.int .i64 3, .string ⟨#[]⟩, .int .i64 0, .int .i64 0, .slice (some ⟨w.heap.size + 1 + 1, 0, none⟩) 2 2] 33)) 33 #[.int .i64 1, .string ⟨#[120]⟩, .int .i64 0, .int .i64 3, .slice none 0 0]).old (.cells #[.int .i64 2, .string ⟨#[120]⟩, .int .i64 0, .int .i64 1, .slice (some ⟨w.heap.size + 1, 0, none⟩) 1 1, .int .i64 9, .string ⟨#[]⟩, .int .i64 7, .int .i64 6, .slice none 0 0] 33)
  have L2 := Lies.new ((w.alloc (.cells #[.int .i64 3, .string ⟨#[]⟩, .int .i64 0, .int .i64 0, .slice (some ⟨w.heap.size + 1 + 1, 0, none⟩) 2 2] 33)).alloc (.cells #[.int .i64 1, .string ⟨#[120]⟩, .int .i64 0, .int .i64 3, .slice none 0 0] 33)) 33 #[.int .i64 2, .string ⟨#[120]⟩, .int .i64 0, .int .i64 1, .slice (some ⟨w.heap.size + 1, 0, none⟩) 1 1, .int .i64 9, .string ⟨#[]⟩, .int .i64 7, .int .i64 6, .slice none 0 0]
  rw [show (w.alloc (.cells #[.int .i64 3, .string ⟨#[]⟩, .int .i64 0, .int .i64 0, .slice (some ⟨w.heap.size + 1 + 1, 0, none⟩) 2 2] 33)).heap.size = w.heap.size + 1 by simp] at L1
  rw [show ((w.alloc (.cells #[.int .i64 3, .string ⟨#[]⟩, .int .i64 0, .int .i64 0, .slice (some ⟨w.heap.size + 1 + 1, 0, none⟩) 2 2] 33)).alloc (.cells #[.int .i64 1, .string ⟨#[120]⟩, .int .i64 0, .int .i64 3, .slice none 0 0] 33)).heap.size = w.heap.size + 1 + 1 by simp] at L2
  have hx : bx.size ≤ 140737488351232 := by decide
  have h0 : (⟨#[]⟩ : ByteArray).size ≤ 140737488351232 := by decide
  have ht1 := TIn.mk (k := 2) (n := 0) (a := 1) (X := Any) hx (by simp) (LIn.one (t1 := .node 1 bx 0 3 []) (A1 := none) (c1 := 0) L1 rfl trivial (TIn.leaf hx))
  have ht := TIn.mk (k := 3) (n := 0) (a := 0) (X := Any) h0 (by simp) (LIn.two (t1 := T1) (t2 := T2) (A1 := some ⟨w.heap.size + 1, 0, none⟩) (c1 := 1) (A2 := none) (c2 := 0) L2 rfl trivial ht1 (TIn.leaf h0))
  go_enter Tryd.func41, Tryd.ntmps41
  go_wp2_with fail
  exact bodyPost_ret (res_tree (p := 0) Tryd.results41 rfl (((Lies.new w _ _).old _).old _)) rfl ⟨rfl, ht, by simp, (((Below.refl _ w).alloc (Nat.le_refl _) _).alloc (by simp) _).alloc (by simp; omega) _⟩

theorem LIn.shift : ∀ (l : List Tr) {w : World} {X : Nat → Prop} {g o j : Nat}, LIn w X l (some ⟨g, o, none⟩) (j + 1) → LIn w X l (some ⟨g, o + 5, none⟩) j
  | [], w, X, g, o, j, _ => by rw [LIn]; trivial
  | t :: r, w, X, g, o, j, h => by
    rw [LIn] at h ⊢
    obtain ⟨⟨g', o', A', c, ⟨e, hX⟩, h0, h1, h2, h3, h4, ht⟩, hr⟩ := h
    injection e with e
    injection e with e1 e2
    subst e1 e2
    have ho : o + 5 + j * 5 = o + (j + 1) * 5 := by omega
    exact ⟨⟨g, o + 5, A', c, ⟨rfl, hX⟩, by rw [ho]; exact h0, by rw [ho]; exact h1, by rw [ho]; exact h2, by rw [ho]; exact h3, by rw [ho]; exact h4, ht⟩, LIn.shift r hr⟩

/-- What stands all along: the law's tree, its bare one, and the table of signs. -/
structure Fx (w W : World) (g G1 G2 : Nat) (A2 : Option Addr) (c2 : Nat) : Prop where
  lt : Lies W G1 33 #[.int .i64 3, .string ⟨#[]⟩, .int .i64 0, .int .i64 0, .slice (some ⟨g, 0, none⟩) 2 2]
  lb : Lies W G2 33 #[.int .i64 3, .string ⟨#[]⟩, .int .i64 0, .int .i64 0, .slice A2 2 c2]
  t0 : TIn W Any T0 (some ⟨g, 0, none⟩)
  b0 : TIn W Any (bareT T0) A2
  sg : Signs W
  bw : Below w.heap.size w W
theorem Fx.step {w W W' : World} {g G1 G2 : Nat} {A2 : Option Addr} {c2 : Nat} (h : Fx w W g G1 G2 A2 c2) (hb : Below W.heap.size W W') : Fx w W' g G1 G2 A2 c2 :=
  ⟨h.lt.below hb h.lt.lt, h.lb.below hb h.lb.lt, TIn.below _ h.t0 hb (Nat.le_refl _), TIn.below _ h.b0 hb (Nat.le_refl _), h.sg.below hb h.sg.pos, h.bw.trans (hb.mono h.bw.size)⟩
theorem Fx.part {w W : World} {g G1 G2 : Nat} {A2 : Option Addr} {c2 : Nat} (h : Fx w W g G1 G2 A2 c2) : ∃ A' c', W.cell? ⟨g, 0, none⟩ = some (.int .i64 2) ∧ W.cell? ⟨g, 1, none⟩ = some (.string bx) ∧ W.cell? ⟨g, 2, none⟩ = some (.int .i64 0) ∧ W.cell? ⟨g, 3, none⟩ = some (.int .i64 1) ∧ W.cell? ⟨g, 4, none⟩ = some (.slice A' 1 c') ∧ TIn W Any T1 A' := by
  obtain ⟨g', o', A', c', ⟨e, _⟩, h0, h1, h2, h3, h4, ht⟩ := h.t0.part 0 (by decide)
  injection e with e
  injection e with e1 e2
  subst e1 e2
  exact ⟨A', c', h0, h1, h2, h3, h4, ht⟩
theorem Fx.bare {w W : World} {g G1 G2 : Nat} {A2 : Option Addr} {c2 : Nat} (h : Fx w W g G1 G2 A2 c2) : ∃ g' o', A2 = some ⟨g', o', none⟩ ∧ W.cell? ⟨g', o' + 3, none⟩ = some (.int .i64 0) := by
  obtain ⟨g', o', A', c', ⟨e, _⟩, h0, h1, h2, h3, h4, ht⟩ := h.b0.part 0 (by decide)
  refine ⟨g', o', e, ?_⟩
  rw [Nat.zero_mul, Nat.add_zero] at h3
  exact h3
/-- The alternative of the second part. -/
def T8 : Tr := .node 8 ⟨#[65]⟩ 0 0 [T2]
theorem Fx.alt {w W : World} {g G1 G2 : Nat} {A2 : Option Addr} {c2 : Nat} (h : Fx w W g G1 G2 A2 c2) : TIn W Any T8 (some ⟨g, 5, none⟩) := by
  have h0 := h.t0
  unfold T0 at h0
  rw [TIn, LIn] at h0
  have h1 := LIn.shift _ h0.2.2.2
  rw [Nat.zero_add] at h1
  exact TIn.mk (by decide) (by decide) h1
end Lx
end Go.Proofs.YtnljlocogfacfaaDoor
