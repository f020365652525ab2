/-
  Walk of the reference's Bare.
-/
import Derived.Test.YtnljlocogfacfaaDoorRowTr
import Derived.Test.YtnljlocogfacfaaDoorDepth
import Derived.Maps.AppendAt
import Derived.Deep.RegionHeld3
import Derived.Deep.AppendLies
import Derived.Deep.DrawnRows
import Derived.Test.YtnljlocogfacfaaDoorHeldK
namespace Go.Proofs.YtnljlocogfacfaaDoor
open Go.RowKit
namespace Lx
set_option maxRecDepth 100000
/-- The answer is a tree as a value, its parts in new memory. -/
def GivesT (t : Tr) (w : World) (e : Ending) (w' : World) : Prop :=
  ∃ A c, e = .returned (tv t A c) ∧ TIn w' (fun g => w.heap.size ≤ g) t A ∧ Below w.heap.size w w'
theorem bareT_kind (t : Tr) : (bareT t).kind = t.kind := by cases t; simp [bareT, Tr.kind]
theorem bareT_name (t : Tr) : (bareT t).name = t.name := by cases t; simp [bareT, Tr.name]
theorem bareT_n (t : Tr) : (bareT t).n = t.n := by cases t; simp [bareT, Tr.n]
theorem bareT_place (t : Tr) : (bareT t).place = 0 := by cases t; simp [bareT, Tr.place]
theorem bareL_length (l : List Tr) : (bareL l).length = l.length := by rw [bareL_map]; simp
theorem bareT_parts (t : Tr) : (bareT t).parts.length = t.parts.length := by cases t; simp [bareT, Tr.parts, bareL_length]
theorem tv_bare (t : Tr) (A : Option Addr) (c : Nat) : tv (bareT t) A c = .agg #[.int .i64 t.kind, .string t.name, .int .i64 t.n, .int .i64 0, .slice A t.parts.length c] := by
  rw [tv, bareT_kind, bareT_name, bareT_n, bareT_place, bareT_parts]
theorem take_snoc_map {α β : Type} (f : α → β) (l : List α) (i : Nat) (h : i < l.length) : (l.take (i + 1)).map f = (l.take i).map f ++ [f (l[i]'h)] := by
  rw [List.take_succ_eq_append_getElem h, List.map_append]; rfl

end Lx
end Go.Proofs.YtnljlocogfacfaaDoor
