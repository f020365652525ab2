/-
  The six trees that the law TreeBuilt makes of two: what may be said of them, and how they lie in memory.
-/
import Derived.Test.YtnljlocogfacfaaDoorBox
namespace Go.Proofs.YtnljlocogfacfaaDoor
open Go.RowKit
namespace Lx
set_option maxRecDepth 100000
def bl (a b : Tr) (s : ByteArray) : List Tr :=
  [.node 2 s 0 0 [a], .node 3 ⟨#[]⟩ 0 0 [a, b], .node 4 s 0 0 [a, b], .node 5 s 0 0 [a, b], .node 6 ⟨#[65, 98]⟩ 0 0 [a, b], .node 10 ⟨#[42]⟩ 0 0 [a, b]]
theorem bl_length (a b : Tr) (s : ByteArray) : (bl a b s).length = 6 := rfl
theorem stands_no (t : Tr) : standsV 2 0 0 t.kind = decide (t.kind ≠ 8) := by simp [standsV]
theorem conAb : conV [65, 98] = true := by decide
theorem opStar : opV [42] = true := by decide
/-- Whether it may be. -/
theorem bl_may (a b : Tr) (s : ByteArray) (i : Nat) (hi : i < (bl a b s).length) :
    mayV ((bl a b s)[i]'hi) = ((mayV a && (((bl a b s)[i]'hi).parts.length == 1 || mayV b)) && (nameV s.data.toList || (decide (i = 1) || decide (3 < i)))) := by
  have h := bl_length a b s
  rw [h] at hi
  have e : ∀ x : List UInt8, (decide (x = x)) = true := fun x => by simp
  match i, hi with
  | 0, _ => simp [bl, mayV, Tr.kind, Tr.parts, mayT, shapeV, fitsV, whatV, mayL, standsV]; cases nameV s.data.toList <;> simp
  | 1, _ => simp [bl, mayV, Tr.kind, Tr.parts, mayT, shapeV, fitsV, whatV, mayL, standsV, Bool.and_assoc]
  | 2, _ => simp [bl, mayV, Tr.kind, Tr.parts, mayT, shapeV, fitsV, whatV, mayL, standsV, Bool.and_assoc]; cases nameV s.data.toList <;> simp
  | 3, _ => simp [bl, mayV, Tr.kind, Tr.parts, mayT, shapeV, fitsV, whatV, mayL, standsV, Bool.and_assoc]; cases nameV s.data.toList <;> simp
  | 4, _ => simp [bl, mayV, Tr.kind, Tr.parts, mayT, shapeV, fitsV, whatV, mayL, standsV, Bool.and_assoc, conAb]
  | 5, _ => simp [bl, mayV, Tr.kind, Tr.parts, mayT, shapeV, fitsV, whatV, mayL, standsV, Bool.and_assoc, opStar]
theorem bl_size (a b : Tr) (s : ByteArray) (i : Nat) (hi : i < (bl a b s).length) : sizeT a < sizeT ((bl a b s)[i]'hi) ∧ sizeT ((bl a b s)[i]'hi) ≤ sizeT a + sizeT b + 1 := by
  have h := bl_length a b s
  rw [h] at hi
  match i, hi with
  | 0, _ => simp [bl, sizeT, sizeL] <;> omega
  | 1, _ => simp [bl, sizeT, sizeL] <;> omega
  | 2, _ => simp [bl, sizeT, sizeL] <;> omega
  | 3, _ => simp [bl, sizeT, sizeL] <;> omega
  | 4, _ => simp [bl, sizeT, sizeL] <;> omega
  | 5, _ => simp [bl, sizeT, sizeL] <;> omega
theorem bl_depth (a b : Tr) (s : ByteArray) (i : Nat) (hi : i < (bl a b s).length) : depthT a < depthT ((bl a b s)[i]'hi) := by
  have h := bl_length a b s
  rw [h] at hi
  match i, hi with
  | 0, _ => simp [bl, depthT, depthL] <;> omega
  | 1, _ => simp [bl, depthT, depthL] <;> omega
  | 2, _ => simp [bl, depthT, depthL] <;> omega
  | 3, _ => simp [bl, depthT, depthL] <;> omega
  | 4, _ => simp [bl, depthT, depthL] <;> omega
  | 5, _ => simp [bl, depthT, depthL] <;> omega
theorem bl_parts (a b : Tr) (s : ByteArray) (i : Nat) (hi : i < (bl a b s).length) : ((bl a b s)[i]'hi).parts.length ≤ 2 := by
  have h := bl_length a b s
  rw [h] at hi
  match i, hi with
  | 0, _ => simp [bl, Tr.parts]
  | 1, _ => simp [bl, Tr.parts]
  | 2, _ => simp [bl, Tr.parts]
  | 3, _ => simp [bl, Tr.parts]
  | 4, _ => simp [bl, Tr.parts]
  | 5, _ => simp [bl, Tr.parts]
/-- The cells of one part, and of two. -/
def o1 (a : Tr) (A : Option Addr) (c : Nat) : Obj := .cells (cellsT a A c).toArray 33
def o2 (a : Tr) (A : Option Addr) (c : Nat) (b : Tr) (B : Option Addr) (d : Nat) : Obj := .cells (cellsT a A c ++ cellsT b B d).toArray 33
/-- The six trees' own cells; their parts lie from block g on. -/
def oL (s : ByteArray) (g : Nat) : Array Value := #[.int .i64 2, .string s, .int .i64 0, .int .i64 0, .slice (some ⟨g, 0, none⟩) 1 1,
  .int .i64 3, .string ⟨#[]⟩, .int .i64 0, .int .i64 0, .slice (some ⟨g + 1, 0, none⟩) 2 2,
  .int .i64 4, .string s, .int .i64 0, .int .i64 0, .slice (some ⟨g + 1 + 1, 0, none⟩) 2 2,
  .int .i64 5, .string s, .int .i64 0, .int .i64 0, .slice (some ⟨g + 1 + 1 + 1, 0, none⟩) 2 2,
  .int .i64 6, .string ⟨#[65, 98]⟩, .int .i64 0, .int .i64 0, .slice (some ⟨g + 1 + 1 + 1 + 1, 0, none⟩) 2 2,
  .int .i64 10, .string ⟨#[42]⟩, .int .i64 0, .int .i64 0, .slice (some ⟨g + 1 + 1 + 1 + 1 + 1, 0, none⟩) 2 2]
theorem lies_two {w : World} {g : Nat} {a b : Tr} {A B : Option Addr} {c d : Nat} (hL : w.heap[g]? = some (o2 a A c b B d)) (hA : TIn w Any a A) (hB : TIn w Any b B) : LIn w Any [a, b] (some ⟨g, 0, none⟩) 0 :=
  LIn.two (t := 33) (cs := (cellsT a A c ++ cellsT b B d).toArray) (c1 := c) (c2 := d) hL (by simp) trivial hA hB
/-- As they lie when all is made. -/
theorem bl_lies {W : World} {g : Nat} {a b : Tr} {A B : Option Addr} {c d : Nat} {s : ByteArray} (hs : s.size ≤ 50) (hA : TIn W Any a A) (hB : TIn W Any b B)
    (h0 : W.heap[g]? = some (o1 a A c)) (h1 : W.heap[g + 1]? = some (o2 a A c b B d)) (h2 : W.heap[g + 1 + 1]? = some (o2 a A c b B d)) (h3 : W.heap[g + 1 + 1 + 1]? = some (o2 a A c b B d))
    (h4 : W.heap[g + 1 + 1 + 1 + 1]? = some (o2 a A c b B d)) (h5 : W.heap[g + 1 + 1 + 1 + 1 + 1]? = some (o2 a A c b B d)) {G : Nat} (hG : Lies W G 33 (oL s g)) :
    TIn W Any (.node 0 ⟨#[]⟩ 0 0 (bl a b s)) (some ⟨G, 0, none⟩) := by
  have hs' : s.size ≤ 140737488351232 := by omega
  have z : (⟨#[]⟩ : ByteArray).size ≤ 140737488351232 := by decide
  have z1 : (⟨#[65, 98]⟩ : ByteArray).size ≤ 140737488351232 := by decide
  have z2 : (⟨#[42]⟩ : ByteArray).size ≤ 140737488351232 := by decide
  refine TIn.mk z (by simp [bl]) (LIn.of_lies (xs := (oL s g).toList) ?_ hG rfl trivial)
  have p0 : TIn W Any (.node 2 s 0 0 [a]) (some ⟨g, 0, none⟩) := TIn.mk hs' (by simp) (LIn.one (t := 33) (cs := (cellsT a A c).toArray) (c1 := c) h0 (by simp) trivial hA)
  have p1 : TIn W Any (.node 3 ⟨#[]⟩ 0 0 [a, b]) (some ⟨g + 1, 0, none⟩) := TIn.mk z (by simp) (lies_two h1 hA hB)
  have p2 : TIn W Any (.node 4 s 0 0 [a, b]) (some ⟨g + 1 + 1, 0, none⟩) := TIn.mk hs' (by simp) (lies_two h2 hA hB)
  have p3 : TIn W Any (.node 5 s 0 0 [a, b]) (some ⟨g + 1 + 1 + 1, 0, none⟩) := TIn.mk hs' (by simp) (lies_two h3 hA hB)
  have p4 : TIn W Any (.node 6 ⟨#[65, 98]⟩ 0 0 [a, b]) (some ⟨g + 1 + 1 + 1 + 1, 0, none⟩) := TIn.mk z1 (by simp) (lies_two h4 hA hB)
  have p5 : TIn W Any (.node 10 ⟨#[42]⟩ 0 0 [a, b]) (some ⟨g + 1 + 1 + 1 + 1 + 1, 0, none⟩) := TIn.mk z2 (by simp) (lies_two h5 hA hB)
  exact ((((((RowTr.nil W Any).snoc (c := 1) p0).snoc (c := 2) p1).snoc (c := 2) p2).snoc (c := 2) p3).snoc (c := 2) p4).snoc (c := 2) p5
/-- The world when all is made. -/
def wl (w : World) (a : Tr) (A : Option Addr) (c : Nat) (b : Tr) (B : Option Addr) (d : Nat) (s : ByteArray) : World :=
  ((((((w.alloc (o1 a A c)).alloc (o2 a A c b B d)).alloc (o2 a A c b B d)).alloc (o2 a A c b B d)).alloc (o2 a A c b B d)).alloc (o2 a A c b B d)).alloc (.cells (oL s w.heap.size) 33)
theorem wl_below (w : World) (a : Tr) (A : Option Addr) (c : Nat) (b : Tr) (B : Option Addr) (d : Nat) (s : ByteArray) : Below w.heap.size w (wl w a A c b B d s) :=
  ((((((((Below.refl _ w).alloc (Nat.le_refl _) _).alloc (by simp) _).alloc (by simp; omega) _).alloc (by simp; omega) _).alloc (by simp; omega) _).alloc (by simp; omega) _).alloc (by simp; omega) _)
theorem heap_alloc (w : World) (o : Obj) : (w.alloc o).heap = w.heap.push o := rfl
theorem wl_lies (w : World) {a b : Tr} {A B : Option Addr} {c d : Nat} {s : ByteArray} (hs : s.size ≤ 50) (hA : TIn w Any a A) (hB : TIn w Any b B) :
    TIn (wl w a A c b B d s) Any (.node 0 ⟨#[]⟩ 0 0 (bl a b s)) (some ⟨w.heap.size + 1 + 1 + 1 + 1 + 1 + 1, 0, none⟩) := by
  have hb := wl_below w a A c b B d s
  refine bl_lies (g := w.heap.size) (c := c) (d := d) hs (TIn.below _ hA hb (Nat.le_refl _)) (TIn.below _ hB hb (Nat.le_refl _)) ?_ ?_ ?_ ?_ ?_ ?_ ?_
  all_goals simp only [wl, Lies, heap_alloc, Array.getElem?_push, Array.size_push]
  all_goals (repeat' split)
  all_goals first | rfl | (exfalso; omega) | (exfalso; have ht : True := trivial; contradiction)
end Lx
end Go.Proofs.YtnljlocogfacfaaDoor
