/-
  The document's answer for layer 11: Of.
-/
import Derived.Test.YtikchgigakbeiaaC10
import Derived.Test.YtikchgigakbeiaaC6
import Derived.Deep.RegionHeld3
import Derived.Deep.DrawnRows
namespace Go.Proofs.Ytikchgigakbeiaa
open Go Go.RowKit
namespace Lx
set_option maxRecDepth 100000
theorem own_some {W : World} {b n s : Nat} {e : TypeId} {v : Value} {xs : List Value} (h : W.ownsRow b e s v n xs) (hv : v ≠ .slice none 0 0) : ∃ g c, v = .slice (some ⟨g, 0, none⟩) n c := by
  rcases h.2 with ⟨rfl, _⟩ | ⟨g, cap, cur, rfl, _⟩
  · exact absurd rfl hv
  · exact ⟨g, cap, rfl⟩
theorem vI_app (xs ys : List Int) : vI (xs ++ ys) = vI xs ++ vI ys := by simp [vI]
theorem ofEL_take (l : List Te) (i : Nat) (h : i < l.length) : ofEL (l.take (i + 1)) = ofEL (l.take i) ++ ofE (l[i]'h) := by
  rw [List.take_succ_eq_append_getElem h]
  generalize l.take i = r
  induction r with
  | nil => simp [ofEL]
  | cons t r ih => simp only [List.cons_append, ofEL, ih, List.append_assoc]
theorem own_take (k n : Int) (l : List Te) (hl : 0 < l.length) (i : Nat) (h : i < toldN k n) : (ownE k n l).take (i + 1) = (ownE k n l).take i ++ [(usesE (l[0]'hl) (moreE k n - 1 - (i : Int)) : Int)] := by
  obtain ⟨t0, r, rfl⟩ := List.exists_cons_of_length_pos hl
  have hi : i < (ownE k n (t0 :: r)).length := by rw [ownE_len]; exact h
  rw [List.take_succ_eq_append_getElem hi]
  simp [ownE]
theorem own_none (k n : Int) (l : List Te) (h : k ≠ 2) (h6 : k ≠ 6) : ownE k n l = [] := by
  cases l with
  | nil => rfl
  | cons t r => rw [ownE, toldN, moreE, if_neg h, if_neg h6]; rfl
def GivesO (xs : List Int) (w : World) (e : Ending) (w' : World) : Prop :=
  ∃ g c, e = .returned (.slice (some ⟨g, 0, none⟩) xs.length c) ∧ w'.ownsRow w.heap.size 3 1 (.slice (some ⟨g, 0, none⟩) xs.length c) xs.length (vI xs) ∧ Below w.heap.size w w'
end Lx
end Go.Proofs.Ytikchgigakbeiaa
