/-
  Texts that lie one behind the other: LawBack.
-/
import Derived.Test.YteabbkhlgnoliaaGreatDoorKD
import Derived.Test.YteabbkhlgnoliaaGreatDoorKP
import Derived.Test.YteabbkhlgnoliaaGreatDoorK3
namespace Go.Proofs.YteabbkhlgnoliaaGreatDoor
open Go.RowKit Go.Sort
namespace Lx
set_option maxRecDepth 100000
/-- The end where the law asks the fixed calls alone. -/
theorem few_ok {t : Tr} (h : decide (0 ≤ fewT t 300 200) = true) : sizeT t ≤ 300 ∧ depthT t ≤ 200 := by
  have h1 := few_size t 300 200 (by simpa using h)
  have h2 : 0 ≤ fewT t 300 200 := by simpa using h
  omega
theorem may_len {t : Tr} (hm : mayV t = true) (hs : sizeT t ≤ 300) : (showT t).length ≤ 15000 ∧ textT t = showT t ∧ textT t ≠ [] := by
  have he : textT t = showT t := by unfold textT; rw [hm]; rfl
  simp only [mayV, Bool.and_eq_true] at hm
  have := show_len t hm.2
  exact ⟨by omega, he, by rw [he]; exact show_ne hm.2⟩
end Lx
end Go.Proofs.YteabbkhlgnoliaaGreatDoor
