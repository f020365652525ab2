/-
  Plainly: variables, uses, and what makes a term be.
-/
import Derived.Test.YtikchgigakbeiaaC10
import Derived.Test.YtikchgigakbeiaaUsOg
namespace Go.Proofs.Ytikchgigakbeiaa
open Go Go.RowKit
namespace Lx
set_option maxRecDepth 100000
theorem head_freeU {k n f f' : Int} {s : ByteArray} {m : Nat} {a : Bool} (hk : k ≠ 1) : headR k n s m f a = headR k n s m f' a := by
  unfold headR
  simp only [if_neg hk]
theorem head_one {k n f : Int} {s : ByteArray} {m : Nat} {a : Bool} (h : headR k n s m f a = true) : (k = 2 → m = 1) ∧ (k = 6 → m = 1) := by
  unfold headR at h
  refine ⟨?_, ?_⟩
  · rintro rfl; cases a <;> simp at h <;> omega
  · rintro rfl; cases a <;> simp at h <;> omega
theorem head_varU {n f : Int} {s : ByteArray} {m : Nat} {a : Bool} (h : headR 1 n s m f a = true) : a = false ∧ 0 ≤ n ∧ m = 0 := by
  revert h
  unfold headR
  cases a <;> simp <;> omega
mutual
theorem may_free : ∀ (t : Te) (f0 f b : Int) (a : Bool), mayQ t f0 a = true → 0 ≤ f → 0 ≤ b → (mayQ t (f + b) a = true ↔ ∀ x ∈ fvE t b, x < f)
  | .node k n s l, f0, f, b, a, h, hf, hb => by
    rw [mayQ, Bool.and_eq_true, Bool.and_eq_true] at h
    obtain ⟨_, h1, h2⟩ := h
    rw [mayQ, decide_eq_true (by omega : 0 ≤ f + b), Bool.true_and, Bool.and_eq_true]
    by_cases hk : k = 1
    · subst hk
      obtain ⟨rfl, hn, hm⟩ := head_varU h1
      obtain rfl : l = [] := List.eq_nil_of_length_eq_zero hm
      have hs : s.toList.isEmpty = true := by
        revert h1; unfold headR; simp
        intro h _ _; exact h
      have hh : headR 1 n s ([] : List Te).length (f + b) false = decide (n < f + b) := by
        unfold headR; simp [hs, hn]
      rw [hh, mayQL, fvE, if_pos rfl]
      constructor
      · rintro ⟨h, _⟩ x hx
        have := of_decide_eq_true h
        split at hx <;> simp at hx <;> omega
      · intro h
        refine ⟨decide_eq_true ?_, rfl⟩
        by_cases hnb : 0 ≤ n - b
        · have := h (n - b) (by rw [if_pos hnb]; simp); omega
        · omega
    · rw [fvE, if_neg hk, head_freeU (f' := f0) hk, show f + b + moreE k n = f + (b + moreE k n) from by omega]
      have hm := more_nn (k := k) (n := n) (fun h => ((head_facts h1).1 h).1)
      have := mayL_free l k [] (f0 + moreE k n) f (b + moreE k n) h2 hf (by omega)
      rw [this]
      exact ⟨fun h => h.2, fun h => ⟨h1, h⟩⟩
theorem mayL_free : ∀ (l : List Te) (k : Int) (met : List Te) (f0 f b : Int), mayQL k met l f0 = true → 0 ≤ f → 0 ≤ b → (mayQL k met l (f + b) = true ↔ ∀ x ∈ fvEL l b, x < f)
  | [], k, met, f0, f, b, _, _, _ => by rw [mayQL, fvEL]; simp
  | t :: r, k, met, f0, f, b, h, hf, hb => by
    rw [mayQL, Bool.and_eq_true, Bool.and_eq_true] at h
    obtain ⟨h1, h2, h3⟩ := h
    rw [mayQL, Bool.and_eq_true, Bool.and_eq_true, may_free t f0 f b _ h1 hf hb, mayL_free r k _ f0 f b h3 hf hb, fvEL]
    constructor
    · rintro ⟨g1, _, g3⟩ x hx
      rcases List.mem_append.1 hx with hx | hx
      · exact g1 x hx
      · exact g3 x hx
    · intro g
      exact ⟨fun x hx => g x (List.mem_append_left _ hx), h2, fun x hx => g x (List.mem_append_right _ hx)⟩
end
mutual
theorem fvE_pos : ∀ (t : Te) (b : Int) (x : Int), x ∈ fvE t b → 0 ≤ x
  | .node k n s l, b, x, h => by
    rw [fvE] at h
    split at h
    · split at h <;> simp at h; omega
    · exact fvEL_pos l _ x h
theorem fvEL_pos : ∀ (l : List Te) (b : Int) (x : Int), x ∈ fvEL l b → 0 ≤ x
  | [], b, x, h => by simp [fvEL] at h
  | t :: r, b, x, h => by
    rw [fvEL] at h
    rcases List.mem_append.1 h with h | h
    · exact fvE_pos t b x h
    · exact fvEL_pos r b x h
end
mutual
theorem fv_step : ∀ (t : Te) (b : Int), (fvE t b).length = (fvE t (b + 1)).length + usesE t b
  | .node k n s l, b => by
    rw [fvE, fvE, usesE]
    by_cases hk : k = 1
    · rw [if_pos hk, if_pos hk, if_pos hk]
      by_cases h1 : 0 ≤ n - b
      · rw [if_pos h1]
        by_cases h2 : n = b
        · rw [if_neg (by omega), if_pos h2]; rfl
        · rw [if_pos (by omega), if_neg h2]; rfl
      · rw [if_neg h1, if_neg (by omega), if_neg (by omega)]; rfl
    · rw [if_neg hk, if_neg hk, if_neg hk, show b + 1 + moreE k n = b + moreE k n + 1 from by omega]
      exact fvL_step l _
theorem fvL_step : ∀ (l : List Te) (b : Int), (fvEL l b).length = (fvEL l (b + 1)).length + usesEL l b
  | [], b => by simp [fvEL, usesEL]
  | t :: r, b => by rw [fvEL, fvEL, usesEL, List.length_append, List.length_append, fv_step t b, fvL_step r b]; omega
end
def ownSum (t : Te) : Nat → Int
  | 0 => 0
  | B + 1 => (usesE t B : Int) + ownSum t B
theorem ownSum_fv (t : Te) : ∀ B : Nat, ((fvE t 0).length : Int) = (fvE t B).length + ownSum t B
  | 0 => by simp [ownSum]
  | B + 1 => by
    rw [ownSum_fv t B, ownSum, fv_step t B]
    push_cast
    omega
theorem ownSum_is (t : Te) : ∀ B : Nat, ((List.range B).map fun (i : Nat) => (usesE t ((B : Int) - 1 - (i : Int)) : Int)).sum = ownSum t B
  | 0 => by simp [ownSum]
  | B + 1 => by
    rw [List.range_succ_eq_map, List.map_cons, List.sum_cons, List.map_map, ownSum, ← ownSum_is t B]
    congr 1
    · congr 2; simp
    · congr 1
      refine List.map_congr_left fun i _ => ?_
      simp only [Function.comp]
      congr 2
      push_cast
      omega
mutual
def varsE : Te → Int
  | .node k _ _ l => (if k = 1 then 1 else 0) + varsEL l
def varsEL : List Te → Int
  | [] => 0
  | t :: r => varsE t + varsEL r
end
mutual
theorem varsE_le : ∀ t : Te, 0 ≤ varsE t ∧ varsE t ≤ sizeE t
  | .node k n s l => by rw [varsE, sizeE]; have := varsEL_le l; split <;> omega
theorem varsEL_le : ∀ l : List Te, 0 ≤ varsEL l ∧ varsEL l ≤ sizeEL l
  | [] => by simp [varsEL, sizeEL]
  | t :: r => by rw [varsEL, sizeEL]; have := varsE_le t; have := varsEL_le r; omega
end
mutual
/-- All variables are the bound ones, which the binders' uses count, and the free ones. -/
theorem vars_sum : ∀ (t : Te) (f0 : Int) (a : Bool), mayQ t f0 a = true → varsE t = (ofE t).sum + ((fvE t 0).length : Int)
  | .node k n s l, f0, a, h => by
    rw [mayQ, Bool.and_eq_true, Bool.and_eq_true] at h
    obtain ⟨_, h1, h2⟩ := h
    have hL := varsL_sum l k [] _ h2
    rw [varsE, ofE, List.sum_append, fvE]
    by_cases hk : k = 1
    · subst hk
      obtain ⟨rfl, hn, hm⟩ := head_varU h1
      obtain rfl : l = [] := List.eq_nil_of_length_eq_zero hm
      rw [if_pos rfl, if_pos rfl, if_pos (by omega), ownE, ofEL, varsEL]
      simp
    · rw [if_neg hk, if_neg hk, hL]
      obtain ⟨g2, g6⟩ := head_one h1
      have hB : 0 ≤ moreE k n ∧ moreE k n ≤ 8 := by
        rw [moreE]
        split
        · omega
        · split
          · rename_i h6; have := (head_facts h1).1 h6; omega
          · omega
      obtain ⟨B, hBe⟩ : ∃ B : Nat, moreE k n = B := ⟨(moreE k n).toNat, by omega⟩
      by_cases hB0 : B = 0
      · subst hB0
        have ho : ownE k n l = [] := by
          cases l with
          | nil => rfl
          | cons t r => rw [ownE, toldN, hBe]; rfl
        rw [ho, hBe]
        simp
      · have hl : l.length = 1 := by
          by_cases h2 : k = 2
          · exact g2 h2
          · by_cases h6 : k = 6
            · exact g6 h6
            · rw [moreE, if_neg h2, if_neg h6] at hBe; omega
        obtain ⟨p, rfl⟩ := List.length_eq_one_iff.1 hl
        have ht : toldN k n = B := by rw [toldN, hBe]; omega
        have := ownSum_fv p B
        rw [ownE, ht, hBe, ownSum_is]
        simp only [fvEL, List.append_nil, Int.zero_add]
        omega
theorem varsL_sum : ∀ (l : List Te) (k : Int) (met : List Te) (f0 : Int), mayQL k met l f0 = true → varsEL l = (ofEL l).sum + ((fvEL l 0).length : Int)
  | [], _, _, _, _ => by simp [varsEL, ofEL, fvEL]
  | t :: r, k, met, f0, h => by
    rw [mayQL, Bool.and_eq_true, Bool.and_eq_true] at h
    obtain ⟨h1, h2, h3⟩ := h
    rw [varsEL, ofEL, fvEL, List.sum_append, List.length_append, vars_sum t f0 _ h1, varsL_sum r k _ f0 h3]
    push_cast
    omega
end
theorem sum_is : ∀ l : List Int, (∀ x ∈ l, 0 ≤ x) → l.sum = fansL l + l.length - dropsL l
  | [], _ => by simp [fansL, dropsL]
  | x :: r, h => by
    have h1 := sum_is r fun y hy => h y (by simp [hy])
    have h2 := h x (by simp)
    rw [List.sum_cons, h1, fansL, dropsL, List.length_cons]
    push_cast
    split <;> omega
theorem sum_bound {M : Int} (hM : 0 ≤ M) : ∀ l : List Int, (∀ x ∈ l, 0 ≤ x ∧ x ≤ M) → 0 ≤ l.sum ∧ l.sum ≤ l.length * M
  | [], _ => by simp
  | x :: r, h => by
    have h1 := sum_bound hM r fun y hy => h y (by simp [hy])
    have h2 := h x (by simp)
    rw [List.sum_cons, List.length_cons]
    have : ((r.length + 1 : Nat) : Int) * M = (r.length : Int) * M + M := by rw [Int.natCast_add, Int.add_mul]; simp
    omega
theorem sum_take_ok {t : Te} (hs : sizeE t ≤ 1000000) (i : Nat) : 0 ≤ ((ofE t).take i).sum ∧ ((ofE t).take i).sum ≤ 8000000000000 := by
  have h := sum_bound (M := 1000000) (by omega) ((ofE t).take i) (fun x hx => by have := ofE_le t x (List.mem_of_mem_take hx); omega)
  have h2 := ofE_len t
  have h3 := take_len (ofE t) i
  have h4 : (((ofE t).take i).length : Int) * 1000000 ≤ 8000000 * 1000000 := Int.mul_le_mul_of_nonneg_right (by omega) (by omega)
  omega
/-- One more than the last one. -/
def leastL (l : List Int) : Int := l.foldl (fun _ x => x + 1) 0
theorem leastL_snoc (l : List Int) (x : Int) : leastL (l ++ [x]) = x + 1 := by simp [leastL]
theorem leastL_strict (l : List Int) (h : l.Pairwise (· < ·)) (h0 : ∀ x ∈ l, 0 ≤ x) : 0 ≤ leastL l ∧ (∀ x ∈ l, x < leastL l) ∧ (l ≠ [] → leastL l - 1 ∈ l) ∧ (l = [] ↔ leastL l = 0) := by
  rcases List.eq_nil_or_concat l with rfl | ⟨r, y, rfl⟩
  · simp [leastL]
  · rw [List.concat_eq_append] at h h0 ⊢
    rw [leastL_snoc]
    rw [List.pairwise_append] at h
    have hy := h0 y (by simp)
    refine ⟨by omega, fun x hx => ?_, fun _ => by simp, ⟨fun h => by simp at h, fun h => by omega⟩⟩
    rcases List.mem_append.1 hx with hx | hx
    · have := h.2.2 x hx y (by simp); omega
    · simp at hx; omega
theorem freeE_mem (t : Te) (x : Int) : x ∈ freeE t ↔ x ∈ fvE t 0 := (once_ok (fvE t 0)).2 x
theorem freeE_strict (t : Te) : (freeE t).Pairwise (· < ·) := (once_ok (fvE t 0)).1
theorem may_least {t : Te} {f0 : Int} (h : mayQ t f0 false = true) {f : Int} (hf : 0 ≤ f) : mayQ t f false = decide (∀ x ∈ freeE t, x < f) := by
  have := may_free t f0 f 0 false h hf (by omega)
  rw [Int.add_zero] at this
  rw [Bool.eq_iff_iff, this, decide_eq_true_eq]
  exact ⟨fun g x hx => g x ((freeE_mem t x).1 hx), fun g x hx => g x ((freeE_mem t x).2 hx)⟩
theorem freeE_nil {t : Te} (h : freeE t = []) : fvE t 0 = [] := by
  rcases hf : fvE t 0 with _ | ⟨x, r⟩
  · rfl
  · have := (freeE_mem t x).2 (by rw [hf]; simp)
    rw [h] at this
    simp at this
end Lx
end Go.Proofs.Ytikchgigakbeiaa
