/-
  The document's answer for layer 11: Fans, Drops; what it tells free is what the program tells.
-/
import Derived.Test.YtikchgigakbeiaaUsOf
namespace Go.Proofs.Ytikchgigakbeiaa
open Go Go.RowKit
namespace Lx
set_option maxRecDepth 100000
theorem take_len (xs : List Int) (i : Nat) : (xs.take i).length ≤ xs.length := by rw [List.length_take]; omega
theorem fans_take_ok {t : Te} (hs : sizeE t ≤ 1000000) (i : Nat) : 0 ≤ fansL ((ofE t).take i) ∧ fansL ((ofE t).take i) ≤ 8000000000000 := by
  have h := fansL_bound (M := 1000000) (by omega) ((ofE t).take i) (fun x hx => by have := ofE_le t x (List.mem_of_mem_take hx); omega)
  have h2 := ofE_len t
  have h3 := take_len (ofE t) i
  have h4 : (((ofE t).take i).length : Int) * 1000000 ≤ 8000000 * 1000000 := Int.mul_le_mul_of_nonneg_right (by omega) (by omega)
  omega
theorem drops_take_ok {t : Te} (hs : sizeE t ≤ 1000000) (i : Nat) : 0 ≤ dropsL ((ofE t).take i) ∧ dropsL ((ofE t).take i) ≤ 8000000000000 := by
  have h := dropsL_bound ((ofE t).take i)
  have h2 := ofE_len t
  have h3 := take_len (ofE t) i
  omega
/-- A number put at its place. -/
def insR (n : Int) : List Int → List Int
  | [] => [n]
  | y :: r => if n ≤ y then n :: ((if y = n then [] else [y]) ++ r.filter (fun x => decide (x ≠ n))) else y :: insR n r
theorem wFold_true (n : Int) : ∀ (r out : List Int), r.foldl (wStep n) (out, true) = (out ++ r.filter (fun x => decide (x ≠ n)), true)
  | [], out => by simp
  | y :: r, out => by
    rw [List.foldl_cons]
    have : wStep n (out, true) y = (out ++ (if y = n then [] else [y]), true) := by simp [wStep]
    rw [this, wFold_true n r]
    by_cases h : y = n <;> simp [h]
theorem insL_gen (n : Int) : ∀ (r out : List Int), (r.foldl (wStep n) (out, false)).1 ++ (if (r.foldl (wStep n) (out, false)).2 then [] else [n]) = out ++ insR n r
  | [], out => by simp [insR]
  | y :: r, out => by
    by_cases h : n ≤ y
    · have e : wStep n (out, false) y = (out ++ [n] ++ (if y = n then [] else [y]), true) := by simp [wStep, h]
      simp only [List.foldl_cons, e, wFold_true, insR, if_pos h]
      simp
    · have h2 : y ≠ n := by omega
      have e : wStep n (out, false) y = (out ++ [y], false) := by simp [wStep, h, h2]
      have := insL_gen n r (out ++ [y])
      simp only [List.foldl_cons, e, insR, if_neg h]
      rw [this]
      simp
theorem insL_eq (xs : List Int) (n : Int) : insL xs n = insR n xs := by
  have := insL_gen n xs []
  rw [insL, wFold, this]
  rfl
theorem insR_mem (n : Int) : ∀ (xs : List Int) (x : Int), x ∈ insR n xs ↔ x = n ∨ x ∈ xs
  | [], x => by simp [insR]
  | y :: r, x => by
    rw [insR]
    by_cases h : n ≤ y
    · rw [if_pos h]
      by_cases hy : y = n
      · by_cases hx : x = n <;> simp [hy, hx]
      · by_cases hx : x = n <;> simp [hy, hx]
    · rw [if_neg h, List.mem_cons, insR_mem n r x, List.mem_cons]
      constructor
      · rintro (h | h | h) <;> simp [h]
      · rintro (h | h | h) <;> simp [h]
theorem insR_strict (n : Int) : ∀ (xs : List Int), xs.Pairwise (· < ·) → (insR n xs).Pairwise (· < ·)
  | [], _ => by simp [insR]
  | y :: r, h => by
    rw [List.pairwise_cons] at h
    rw [insR]
    have hf : (r.filter (fun x => decide (x ≠ n))).Pairwise (· < ·) := h.2.filter _
    by_cases hn : n ≤ y
    · rw [if_pos hn]
      by_cases hy : y = n
      · rw [if_pos hy, List.nil_append, List.pairwise_cons]
        exact ⟨fun x hx => by have := h.1 x ((List.mem_filter.1 hx).1); omega, hf⟩
      · rw [if_neg hy, List.singleton_append, List.pairwise_cons, List.pairwise_cons]
        refine ⟨fun x hx => ?_, fun x hx => h.1 x ((List.mem_filter.1 hx).1), hf⟩
        rcases List.mem_cons.1 hx with rfl | hx
        · omega
        · have := h.1 x ((List.mem_filter.1 hx).1); omega
    · rw [if_neg hn, List.pairwise_cons]
      refine ⟨fun x hx => ?_, insR_strict n r h.2⟩
      rcases (insR_mem n r x).1 hx with rfl | hx
      · omega
      · exact h.1 x hx
theorem rf_strict : ∀ (ys xs : List Int), xs.Pairwise (· < ·) → (ys.foldl insL xs).Pairwise (· < ·)
  | [], _, h => h
  | y :: r, xs, h => by rw [List.foldl_cons]; exact rf_strict r _ (by rw [insL_eq]; exact insR_strict y xs h)
theorem rf_mem : ∀ (ys xs : List Int) (x : Int), x ∈ ys.foldl insL xs ↔ x ∈ ys ∨ x ∈ xs
  | [], _, _ => by simp
  | y :: r, xs, x => by
    rw [List.foldl_cons, rf_mem r, insL_eq, insR_mem, List.mem_cons]
    constructor
    · rintro (h | h | h) <;> simp [h]
    · rintro ((h | h) | h) <;> simp [h]
theorem free_same (t : Te) : freeE t = rfreeE t := once_eq (fvE t 0) (rfreeE t) (rf_strict _ _ List.Pairwise.nil) fun x => by
  rw [rfreeE, rfE, rf_mem]
  simp
end Lx
end Go.Proofs.Ytikchgigakbeiaa
