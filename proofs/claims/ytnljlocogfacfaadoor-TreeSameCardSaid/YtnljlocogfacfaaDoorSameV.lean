/-
  Plain facts of sameness: same is one, bare; same trees are as deep, as large.
-/
import Derived.Test.YtnljlocogfacfaaDoorBox
namespace Go.Proofs.YtnljlocogfacfaaDoor
namespace Lx
set_option maxRecDepth 100000
mutual
theorem one_bareT : ∀ t t' : Tr, oneT (bareT t) (bareT t') = sameT t t'
  | .node k s n a l, .node k' s' n' a' l' => by
    rw [bareT, bareT, oneT, sameT, one_bareL l l']
    simp
theorem one_bareL : ∀ l l' : List Tr, oneL (bareL l) (bareL l') = sameL l l'
  | [], [] => by rw [bareL, oneL, sameL]
  | [], _ :: _ => by simp [bareL, oneL, sameL]
  | _ :: _, [] => by simp [bareL, oneL, sameL]
  | t :: r, t' :: r' => by rw [bareL, bareL, oneL, sameL, one_bareT t t', one_bareL r r']
end
mutual
theorem bare_bare : ∀ t : Tr, bareT (bareT t) = bareT t
  | .node k s n a l => by rw [bareT, bareT, bare_bareL l]
theorem bare_bareL : ∀ l : List Tr, bareL (bareL l) = bareL l
  | [] => by rw [bareL, bareL]
  | t :: r => by rw [bareL, bareL, bare_bare t, bare_bareL r]
end
mutual
theorem one_eq : ∀ t t' : Tr, oneT t t' = true → t = t'
  | .node k s n a l, .node k' s' n' a' l', h => by
    rw [oneT] at h
    simp only [Bool.and_eq_true, decide_eq_true_eq] at h
    obtain ⟨rfl, rfl, rfl, rfl, h⟩ := h
    rw [one_eqL l l' h]
theorem one_eqL : ∀ l l' : List Tr, oneL l l' = true → l = l'
  | [], [], _ => rfl
  | [], _ :: _, h => by simp [oneL] at h
  | _ :: _, [], h => by simp [oneL] at h
  | t :: r, t' :: r', h => by
    rw [oneL, Bool.and_eq_true] at h
    rw [one_eq t t' h.1, one_eqL r r' h.2]
end
theorem same_bare (t : Tr) : sameT t (bareT t) = true := by rw [← one_bareT, bare_bare, one_refl]
theorem one_iff (t t' : Tr) : (oneT t t' = true) ↔ t = t' := ⟨one_eq t t', fun h => by rw [h, one_refl]⟩
theorem same_iff (t t' : Tr) : (sameT t t' = true) ↔ bareT t = bareT t' := by rw [← one_bareT]; exact one_iff _ _
theorem same_comm (t t' : Tr) : sameT t t' = sameT t' t := by
  rw [Bool.eq_iff_iff, same_iff, same_iff]
  exact ⟨Eq.symm, Eq.symm⟩
mutual
theorem depth_bare : ∀ t : Tr, depthT (bareT t) = depthT t
  | .node k s n a l => by rw [bareT, depthT, depthT, depth_bareL l]
theorem depth_bareL : ∀ l : List Tr, depthL (bareL l) = depthL l
  | [] => by rw [bareL]
  | t :: r => by rw [bareL, depthL, depthL, depth_bare t, depth_bareL r]
end
mutual
theorem size_bare : ∀ t : Tr, sizeT (bareT t) = sizeT t
  | .node k s n a l => by rw [bareT, sizeT, sizeT, size_bareL l]
theorem size_bareL : ∀ l : List Tr, sizeL (bareL l) = sizeL l
  | [] => by rw [bareL]
  | t :: r => by rw [bareL, sizeL, sizeL, size_bare t, size_bareL r]
end
theorem same_depth {t t' : Tr} (h : sameT t t' = true) : depthT t = depthT t' := by rw [← depth_bare t, ← depth_bare t', (same_iff t t').1 h]
theorem same_size {t t' : Tr} (h : sameT t t' = true) : sizeT t = sizeT t' := by rw [← size_bare t, ← size_bare t', (same_iff t t').1 h]
end Lx
end Go.Proofs.YtnljlocogfacfaaDoor
