/-
  Every term is like itself.
-/
import Derived.Test.YtiocmiikghcoaaaGreatDoorC6
namespace Go.Proofs.YtiocmiikghcoaaaGreatDoor
namespace Lx
mutual
theorem sameE_refl : ∀ t : Te, sameE t t = true
  | .node k n s l => by rw [sameE]; simp [sameEL_refl l]
theorem sameEL_refl : ∀ l : List Te, sameEL l l = true
  | [] => by rw [sameEL]
  | t :: r => by rw [sameEL, sameE_refl t, sameEL_refl r]; rfl
end
end Lx
end Go.Proofs.YtiocmiikghcoaaaGreatDoor
