/-
  A region of two calls, one behind the other, and of two new variables, made ahead of them, between them or behind them, whose two stores come last: by a state that is told for each of the orders' places.
-/
import Derived.Deep.RegionHeld
import Derived.Test.YtnljlocogfacfaaDoorProg
namespace Go.Proofs.YtnljlocogfacfaaDoor
open Go
namespace Lx
set_option maxRecDepth 100000
section
variable {P : Program} {ops : Array Oper} {Q : Exit → Act → World → Prop} {md : Region.Mode} {S : World → Prop}
/-- What has come up: the loads (0, 2), the calls (1, 3), the variables (4, 5), not the stores. -/
def L6 (pa pb x y : Bool) : Array Bool := #[true, pa, true, pb, x, y, false, false]
def rd6 (pa pb x y : Bool) : List Nat := (if pa then (if pb then [] else [3]) else [1]) ++ ((if x then [] else [4]) ++ (if y then [] else [5]))
def n6 (pa pb x y : Bool) : Nat := (if pa then 0 else 1) + (if pb then 0 else 1) + (if x then 0 else 1) + (if y then 0 else 1)
theorem six {St : Bool → Bool → Bool → Bool → Act → World → Prop}
    (hr : ∀ pa pb x y, (pb = true → pa = true) → n6 pa pb x y ≠ 0 → Region.ready md ops (L6 pa pb x y) = rd6 pa pb x y)
    (hS : ∀ pa pb x y a w, St pa pb x y a w → S w)
    (hA : ∀ x y a w, St false false x y a w → wpOp P ops Q 1 (St true false x y) a w)
    (hB : ∀ x y a w, St true false x y a w → wpOp P ops Q 3 (St true true x y) a w)
    (hX : ∀ pa pb y a w, St pa pb false y a w → wpOp P ops Q 4 (St pa pb true y) a w)
    (hY : ∀ pa pb x a w, St pa pb x false a w → wpOp P ops Q 5 (St pa pb x true) a w)
    (hE : ∀ a w, St true true true true a w → wpAnyH P md ops Q S 2 #[true, true, true, true, true, true, false, false] a w) :
    ∀ (n : Nat) (pa pb x y : Bool) (a : Act) (w : World), n6 pa pb x y = n → (pb = true → pa = true) → St pa pb x y a w → wpAnyH P md ops Q S (2 + n) (L6 pa pb x y) a w := by
  intro n
  induction n with
  | zero =>
    intro pa pb x y a w hn hp h
    cases pa <;> cases pb <;> cases x <;> cases y <;> simp [n6] at hn
    exact hE a w h
  | succ n ih =>
    intro pa pb x y a w hn hp h
    have hr' := hr pa pb x y hp (by omega)
    refine ⟨fun h0 => ?_, fun i hi => ?_⟩
    · rw [hr'] at h0
      cases pa <;> cases pb <;> cases x <;> cases y <;> simp [n6, rd6] at hn h0
    · rw [hr'] at hi
      have hset : ∀ pa' pb' x' y' a' w', (L6 pa pb x y).setIfInBounds i true = L6 pa' pb' x' y' → n6 pa' pb' x' y' = n → (pb' = true → pa' = true) → St pa' pb' x' y' a' w' → S w' ∧ wpAnyH P md ops Q S (2 + n) ((L6 pa pb x y).setIfInBounds i true) a' w' :=
        fun pa' pb' x' y' a' w' he hn' hp' h' => ⟨hS _ _ _ _ _ _ h', by rw [he]; exact ih pa' pb' x' y' a' w' hn' hp' h'⟩
      have hi' : (i = 1 ∧ pa = false) ∨ (i = 3 ∧ pa = true ∧ pb = false) ∨ (i = 4 ∧ x = false) ∨ (i = 5 ∧ y = false) := by
        cases pa <;> cases pb <;> cases x <;> cases y <;> simp [rd6] at hi ⊢ <;> omega
      rcases hi' with ⟨rfl, rfl⟩ | ⟨rfl, rfl, rfl⟩ | ⟨rfl, rfl⟩ | ⟨rfl, rfl⟩
      · have hpb : pb = false := by cases pb; rfl; simp at hp
        subst hpb
        exact wpOp_mono (fun a' w' h' => hset true false x y a' w' (by simp [L6]) (by simp [n6] at hn ⊢; omega) (by simp) h') (hA x y a w h)
      · exact wpOp_mono (fun a' w' h' => hset true true x y a' w' (by simp [L6]) (by simp [n6] at hn ⊢; omega) (by simp) h') (hB x y a w h)
      · exact wpOp_mono (fun a' w' h' => hset pa pb true y a' w' (by simp [L6]) (by simp [n6] at hn ⊢; omega) hp h') (hX pa pb y a w h)
      · exact wpOp_mono (fun a' w' h' => hset pa pb x true a' w' (by simp [L6]) (by simp [n6] at hn ⊢; omega) hp h') (hY pa pb x a w h)
end
end Lx
end Go.Proofs.YtnljlocogfacfaaDoor
