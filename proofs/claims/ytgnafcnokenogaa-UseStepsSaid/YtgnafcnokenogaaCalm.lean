/-
  A region that draws its order, whose own operations only read, and whose callees leave what there was as it was: walked once, in the order of the text, over whatever world lies above the one at its start.
-/
import Derived.Test.YtgnafcnokenogaaProg
import Derived.Below
import Derived.WalkKit
import Derived.BigCall
import Derived.Deep.QuietTactic
import Derived.BigQuiet
namespace Go.Proofs.Ytgnafcnokenogaa
open Go.RowKit
namespace Lx
set_option maxRecDepth 100000
/-- A world in which all is as it was in w. -/
def Abv (w : World) : Type := { V : World // Below w.heap.size w V }
instance abv_nonempty (w : World) : Nonempty (Abv w) := ⟨⟨w, Below.refl _ w⟩⟩
theorem region_calm {P : Program} {id : Nat} {Q : Exit → Act → World → Prop} {a : Act} {w : World} {l : List Oper} (hm : P.follows .mixedOrders = true) (hB : Region.lexB .any l.toArray = true)
    (h : wpQuiet P l.toArray (fun w' => ∃ V : Abv w, w' = V.1) (fun a' => ∀ w', (∃ V : Abv w, w' = V.1) → Q .normal a' w') l a) : (Code.region id l.toArray true).wp P Q a w :=
  wp_region_quiet (C := fun w' => ∃ V : Abv w, w' = V.1) hm hB ⟨⟨w.drew, (Below.refl _ w).drew⟩, rfl⟩ (by simpa using h)
/-- What a callee leaves is such a world again. -/
theorem calm_of {P : Program} {f : FuncId} {args : Array Value} {w : World} {V : Abv w} {v : Value} (h : Calls P f args V.1 fun e w' => e = .returned v ∧ Below V.1.heap.size V.1 w') :
    Calls P f args V.1 fun e w'' => e = .returned v ∧ ∃ V' : Abv w, w'' = V'.1 :=
  h.mono fun _ w' ⟨he, hb⟩ => ⟨he, ⟨w', V.2.trans (hb.mono V.2.size)⟩, rfl⟩
theorem calm_same {P : Program} {f : FuncId} {args : Array Value} {w : World} {V : Abv w} {v : Value} (h : Calls P f args V.1 fun e w' => e = .returned v ∧ V.1 = w') :
    Calls P f args V.1 fun e w'' => e = .returned v ∧ ∃ V' : Abv w, w'' = V'.1 :=
  h.mono fun _ _ ⟨he, hb⟩ => ⟨he, V, hb.symm⟩
theorem Abv.cell {w : World} {g i : Nat} {u : Value} (h : w.cell? ⟨g, i, none⟩ = some u) (V : Abv w) : V.1.cell? ⟨g, i, none⟩ = some u := by
  have hg : g < w.heap.size := by
    by_cases hlt : g < w.heap.size
    · exact hlt
    · simp [World.cell?, Array.getElem?_eq_none (Nat.le_of_not_lt hlt)] at h
  exact (V.2.cell (p := ⟨g, i, none⟩) hg).trans h
end Lx
end Go.Proofs.Ytgnafcnokenogaa
