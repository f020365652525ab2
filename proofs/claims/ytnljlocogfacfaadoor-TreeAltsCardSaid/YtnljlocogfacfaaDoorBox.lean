/-
  A tree in a box of the call's own: what each callee answers of it.
-/
import Derived.Test.YtnljlocogfacfaaDoorFixT
import Derived.Test.YtnljlocogfacfaaDoorFew
namespace Go.Proofs.YtnljlocogfacfaaDoor
open Go.RowKit
namespace Lx
set_option maxRecDepth 100000
/-- The tree stands in the box g. -/
structure Bx (w W : World) (g : Nat) (k : Int) (s : ByteArray) (n a : Int) (l : List Tr) (A : Option Addr) (c : Nat) : Prop where
  box : Lies W g 33 #[.int .i64 k, .string s, .int .i64 n, .int .i64 a, .slice A l.length c]
  tin : TIn W Any (.node k s n a l) A
  sg : Signs W
  bw : Below w.heap.size w W
theorem Bx.step {w W W' : World} {g : Nat} {k : Int} {s : ByteArray} {n a : Int} {l : List Tr} {A : Option Addr} {c : Nat} (h : Bx w W g k s n a l A c) (hb : Below W.heap.size W W') : Bx w W' g k s n a l A c :=
  ⟨h.box.below hb h.box.lt, TIn.below _ h.tin hb (Nat.le_refl _), h.sg.below hb h.sg.pos, h.bw.trans (hb.mono h.bw.size)⟩
theorem Bx.new {w : World} {k : Int} {s : ByteArray} {n a : Int} {l : List Tr} {A : Option Addr} {c : Nat} (hI : TIn w Any (.node k s n a l) A) (hg : Signs w) :
    Bx w (w.alloc (.cells #[.int .i64 k, .string s, .int .i64 n, .int .i64 a, .slice A l.length c] 33)) w.heap.size k s n a l A c :=
  have hb : Below w.heap.size w (w.alloc (.cells #[.int .i64 k, .string s, .int .i64 n, .int .i64 a, .slice A l.length c] 33)) := (Below.refl _ w).alloc (Nat.le_refl _) _
  ⟨Lies.new w _ _, TIn.below _ hI hb (Nat.le_refl _), hg.below hb hg.pos, hb⟩
/-- Its five cells. -/
def Bx5 (g : Nat) (k : Int) (s : ByteArray) (n a : Int) (m : Nat) (A : Option Addr) (c : Nat) (V : World) : Prop :=
  V.cell? ⟨g, 0, none⟩ = some (.int .i64 k) ∧ V.cell? ⟨g, 1, none⟩ = some (.string s) ∧ V.cell? ⟨g, 2, none⟩ = some (.int .i64 n) ∧ V.cell? ⟨g, 3, none⟩ = some (.int .i64 a) ∧ V.cell? ⟨g, 4, none⟩ = some (.slice A m c)
theorem Bx.five {w W : World} {g : Nat} {k : Int} {s : ByteArray} {n a : Int} {l : List Tr} {A : Option Addr} {c : Nat} (h : Bx w W g k s n a l A c) : Bx5 g k s n a l.length A c W := h.box.five.1
section
variable {w W : World} {g : Nat} {k : Int} {s : ByteArray} {n a : Int} {l : List Tr} {A : Option Addr} {c : Nat}
theorem Bx.small (h : Bx w W g k s n a l A c) (L : Int) (h0 : 0 ≤ L) (h1 : L ≤ 100000) : Calls Tryd.prog 20 #[.agg #[.int .i64 k, .string s, .int .i64 n, .int .i64 a, .slice A l.length c], .int .i64 L] W fun e w' => e = .returned (.bool (decide (0 ≤ fewT (.node k s n a l) L 200))) ∧ Below W.heap.size W w' :=
  tsmall_any (.node k s n a l) A c L W h.tin h0 h1
theorem Bx.may (h : Bx w W g k s n a l A c) : Calls Tryd.prog 26 #[.agg #[.int .i64 k, .string s, .int .i64 n, .int .i64 a, .slice A l.length c]] W fun e w' => e = .returned (.bool (mayV (.node k s n a l))) ∧ Below W.heap.size W w' :=
  tmay_any (.node k s n a l) A c W h.tin h.sg
theorem Bx.rmay (h : Bx w W g k s n a l A c) : Calls Tryd.prog 27 #[.agg #[.int .i64 k, .string s, .int .i64 n, .int .i64 a, .slice A l.length c]] W fun e w' => e = .returned (.bool (mayV (.node k s n a l))) ∧ Below W.heap.size W w' :=
  rMay_any (.node k s n a l) A c W h.tin
theorem Bx.depth (h : Bx w W g k s n a l A c) (hs : sizeT (.node k s n a l) ≤ 100000) : Calls Tryd.prog 24 #[.agg #[.int .i64 k, .string s, .int .i64 n, .int .i64 a, .slice A l.length c]] W fun e w' => e = .returned (.int .i64 (depthT (.node k s n a l))) ∧ Below W.heap.size W w' :=
  depth_any _ (.node k s n a l) A c W (Nat.le_refl _) hs h.tin
theorem Bx.rdepth (h : Bx w W g k s n a l A c) (hs : sizeT (.node k s n a l) ≤ 100000) : Calls Tryd.prog 30 #[.agg #[.int .i64 k, .string s, .int .i64 n, .int .i64 a, .slice A l.length c]] W fun e w' => e = .returned (.int .i64 (depthT (.node k s n a l))) ∧ Below W.heap.size W w' :=
  rdepth_any _ (.node k s n a l) A c W (Nat.le_refl _) hs h.tin
theorem Bx.size (h : Bx w W g k s n a l A c) (hs : sizeT (.node k s n a l) ≤ 100000) : Calls Tryd.prog 25 #[.agg #[.int .i64 k, .string s, .int .i64 n, .int .i64 a, .slice A l.length c]] W fun e w' => e = .returned (.int .i64 (sizeT (.node k s n a l))) ∧ Below W.heap.size W w' :=
  size_any _ (.node k s n a l) A c W (Nat.le_refl _) hs h.tin
theorem Bx.bare (h : Bx w W g k s n a l A c) (hs : sizeT (.node k s n a l) ≤ 100000) : Calls Tryd.prog 21 #[.agg #[.int .i64 k, .string s, .int .i64 n, .int .i64 a, .slice A l.length c]] W fun e w' =>
    ∃ A' c', e = .returned (.agg #[.int .i64 k, .string s, .int .i64 n, .int .i64 0, .slice A' l.length c']) ∧ TIn w' Any (bareT (.node k s n a l)) A' ∧ Below W.heap.size W w' :=
  (bare_any _ (.node k s n a l) A c W (Nat.le_refl _) hs h.tin).mono fun e w' ⟨A', c', he, hT, hb⟩ => ⟨A', c', by rw [he, tv_bare]; rfl, TIn.any _ hT, hb⟩
end
theorem small_size {t : Tr} {L : Int} (h : decide (0 ≤ fewT t L 200) = true) (hL : L ≤ 1000) : sizeT t ≤ 1000 ∧ depthT t ≤ 200 := by
  have := few_size t L 200 (of_decide_eq_true h)
  have := of_decide_eq_true h
  omega
mutual
theorem one_refl : ∀ t : Tr, oneT t t = true
  | .node k s n a l => by rw [oneT]; simp [one_reflL l]
theorem one_reflL : ∀ l : List Tr, oneL l l = true
  | [] => by rw [oneL]
  | t :: r => by rw [oneL, one_refl t, one_reflL r]; rfl
end
/-- Two bare ones of one tree are one. -/
theorem one_bare {k n a : Int} {s : ByteArray} {l : List Tr} {A1 A2 : Option Addr} {c1 c2 : Nat} {W1 W2 : World} (h1 : TIn W1 Any (bareT (.node k s n a l)) A1) (h2 : TIn W2 Any (bareT (.node k s n a l)) A2) (hb : Below W1.heap.size W1 W2) :
    Calls Tryd.prog 23 #[.agg #[.int .i64 k, .string s, .int .i64 n, .int .i64 0, .slice A1 l.length c1], .agg #[.int .i64 k, .string s, .int .i64 n, .int .i64 0, .slice A2 l.length c2]] W2 fun e w' => e = .returned (.bool true) ∧ Below W2.heap.size W2 w' := by
  have h := one_tree _ (bareT (.node k s n a l)) (bareT (.node k s n a l)) A1 A2 c1 c2 W2 (Nat.le_refl _) (TIn.below _ h1 hb (Nat.le_refl _)) h2
  rw [tv_bare, tv_bare, one_refl] at h
  exact h
end Lx
end Go.Proofs.YtnljlocogfacfaaDoor
