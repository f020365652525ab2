/-
  What may be said of the trees that the law TreeAlts makes.
-/
import Derived.Test.YtnljlocogfacfaaDoorBox
namespace Go.Proofs.YtnljlocogfacfaaDoor
open Go.RowKit
namespace Lx
set_option maxRecDepth 100000
def vx : Tr := .node 1 ⟨#[120]⟩ 0 0 []
def altT (i : Nat) (l : List Tr) : Tr := .node 8 ⟨#[65]⟩ i 0 l
theorem may_vx : mayT vx = true := by decide
theorem con_A : conV [65] = true := by decide
theorem mayL_vars (n : Nat) (b : Tr) : ∀ (m q : Nat), q + m = n → mayL 8 n q (List.replicate m vx ++ [b]) = (decide (b.kind ≠ 8) && mayT b)
  | 0, q, h => by
    have hq : ¬ ((q : Int) < (n : Int)) := by omega
    simp [mayL, standsV, hq]
  | m + 1, q, h => by
    have hq : (q : Int) < (n : Int) := by omega
    rw [List.replicate_succ, List.cons_append, mayL, mayL_vars n b m (q + 1) (by omega), may_vx]
    simp [standsV, vx, Tr.kind, hq]
theorem may_alt (i : Nat) (b : Tr) (hb : mayV b = true) : mayT (altT i (List.replicate i vx ++ [b])) = decide (i ≤ 8) := by
  unfold mayV at hb
  rw [altT, mayT]
  have h := mayL_vars i b i 0 (by omega)
  rw [h, hb]
  have h8 : shapeV 8 = some (2, 8, 1, 9) := rfl
  rw [h8]
  simp only [Bool.and_true]
  by_cases h3 : i ≤ 8
  · have e1 : ¬ ((i : Int) < 0) := by omega
    have e2 : ¬ ((8 : Int) < i) := by omega
    have e3 : ¬ ((i : Int) + 1 < 1) := by omega
    have e4 : ¬ ((9 : Int) < (i : Int) + 1) := by omega
    simp [fitsV, whatV, con_A, h3, e1, e2, e3, e4]
  · have e2 : (8 : Int) < i := by omega
    simp [fitsV, h3, e2]
theorem mayL_alts (b : Tr) (i : Nat) (hb : mayV b = true) : ∀ (m q : Nat), 0 < q → mayL 7 0 q (List.replicate m (altT i (List.replicate i vx ++ [b]))) = (decide (m = 0) || decide (i ≤ 8))
  | 0, q, _ => by simp [mayL]
  | m + 1, q, h => by
    rw [List.replicate_succ, mayL, mayL_alts b i hb m (q + 1) (by omega), may_alt i b hb]
    have hs : standsV 7 0 q (altT i (List.replicate i vx ++ [b])).kind = true := by simp [standsV, altT, Tr.kind, h]
    rw [hs]
    cases hd : decide (i ≤ 8) <;> simp [hd]
theorem may_c (i m : Nat) (b : Tr) (hb : mayV b = true) :
    mayV (.node 7 ⟨#[]⟩ 0 0 (b :: List.replicate m (altT i (List.replicate i vx ++ [b])))) = (decide (1 ≤ m) && (decide (m ≤ 8) && decide (i ≤ 8))) := by
  have hb' := hb
  unfold mayV at hb'
  simp only [Bool.and_eq_true] at hb'
  unfold mayV
  rw [mayT, mayL, mayL_alts b i hb m (0 + 1) (by omega), hb'.2]
  have hs : standsV 7 0 0 b.kind = true := by simpa [standsV] using hb'.1
  rw [hs]
  simp only [shapeV, Tr.kind, fitsV, whatV]
  by_cases h1 : 1 ≤ m <;> by_cases h2 : m ≤ 8 <;> by_cases h3 : i ≤ 8 <;> simp [h1, h2, h3] <;> omega
theorem may_less (i : Nat) (b : Tr) : mayV (.node 7 ⟨#[]⟩ 0 0 [b, altT i (List.replicate i vx)]) = false := by
  unfold mayV
  have h : mayT (altT i (List.replicate i vx)) = false := by
    rw [altT, mayT]
    simp [shapeV, fitsV]
    intro _ _ _ h
    omega
  rw [mayT, mayL, mayL, h]
  simp [shapeV]
theorem may_alone (i : Nat) (l : List Tr) : mayV (altT i l) = false := by simp [mayV, altT, Tr.kind]
theorem may_lam (i : Nat) (l : List Tr) : mayV (.node 2 ⟨#[120]⟩ 0 0 [altT i l]) = false := by
  unfold mayV
  rw [mayT, mayL]
  simp [shapeV, standsV, altT, Tr.kind]
/-- The cells of n like trees. -/
def ysX (cs : List Value) : Nat → List Value
  | 0 => []
  | i + 1 => ysX cs i ++ cs
theorem rowY {w : World} {X : Nat → Prop} {b t : Tr} {A B : Option Addr} {c d : Nat} (hb : TIn w X b A) (ht : TIn w X t B) : ∀ j, RowTr w X (b :: List.replicate j t) (cellsT b A c ++ ysX (cellsT t B d) j)
  | 0 => by
    have := (RowTr.nil w X).snoc (c := c) hb
    simpa [ysX] using this
  | j + 1 => by
    have := (rowY (c := c) (d := d) hb ht j).snoc (c := d) ht
    rw [List.replicate_succ', ysX]
    simpa [List.append_assoc] using this
end Lx
end Go.Proofs.YtnljlocogfacfaaDoor
