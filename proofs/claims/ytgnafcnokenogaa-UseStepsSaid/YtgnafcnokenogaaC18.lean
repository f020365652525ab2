/-
  Texts that lie one behind the other: UsV UsOf UsOg UsPc UsPd.
-/
import Derived.Test.YtgnafcnokenogaaC17
import Derived.Test.YtgnafcnokenogaaC11
import Derived.Test.YtgnafcnokenogaaC7
import Derived.Deep.RegionHeld3
import Derived.Deep.DrawnRows
namespace Go.Proofs.Ytgnafcnokenogaa
open Go Go.RowKit
namespace Lx
set_option maxRecDepth 100000
theorem insL_len (xs : List Int) (n : Int) : (insL xs n).length ≤ xs.length + 1 := by
  have : ∀ (ys : List Int) (s : List Int × Bool), (ys.foldl (wStep n) s).1.length + (if (ys.foldl (wStep n) s).2 then 0 else 1) ≤ s.1.length + ys.length + (if s.2 then 0 else 1) := by
    intro ys
    induction ys with
    | nil => intro s; exact Nat.le_refl _
    | cons y r ih =>
      intro s
      rw [List.foldl_cons]
      have h1 := ih (wStep n s y)
      have h2 : (wStep n s y).1.length + (if (wStep n s y).2 then 0 else 1) ≤ s.1.length + 1 + (if s.2 then 0 else 1) := by
        obtain ⟨a, q⟩ := s
        by_cases hy : y = n
        · cases q <;> simp [wStep, hy]
        · cases q <;> by_cases hn : n ≤ y <;> simp [wStep, hy, hn]
      simp only [List.length_cons]
      omega
  have h := this xs ([], false)
  rw [insL, wFold, List.length_append]
  simp at h
  split
  · rename_i h1
    simp [h1] at h
    simp; omega
  · rename_i h1
    simp [h1] at h
    simp; omega
/-- The document's free, onto what is met. -/
def rfE (t : Te) (b : Int) (xs : List Int) : List Int := (fvE t b).foldl insL xs
def rfEL (l : List Te) (b : Int) (xs : List Int) : List Int := (fvEL l b).foldl insL xs
theorem rf_len (ys xs : List Int) : (ys.foldl insL xs).length ≤ xs.length + ys.length := by
  induction ys generalizing xs with
  | nil => simp
  | cons y r ih => rw [List.foldl_cons]; have := ih (insL xs y); have := insL_len xs y; simp only [List.length_cons]; omega
theorem rfEL_len (l : List Te) (b : Int) (xs : List Int) : (rfEL l b xs).length ≤ xs.length + sizeEL l := by
  have := rf_len (fvEL l b) xs
  have := fvEL_len l b
  rw [rfEL]; omega
theorem rfEL_take (l : List Te) (i : Nat) (b : Int) (xs : List Int) (h : i < l.length) : rfEL (l.take (i + 1)) b xs = rfE (l[i]'h) b (rfEL (l.take i) b xs) := by
  rw [rfEL, fvEL_take l i b h, List.foldl_append]
  rfl
def GivesR (ys : List Int) (w : World) (e : Ending) (w' : World) : Prop := ∃ A c, e = .returned (.slice A ys.length c) ∧ RowI w' A ys ∧ Below w.heap.size w w'
theorem rowI_nil (w : World) (A : Option Addr) : RowI w A [] := fun j hj => by simp at hj
/-- The document's Free. -/
def rfreeE (t : Te) : List Int := rfE t 0 []
end Lx
end Go.Proofs.Ytgnafcnokenogaa
namespace Go.Proofs.Ytgnafcnokenogaa
open Go Go.RowKit
namespace Lx
set_option maxRecDepth 100000
theorem own_some {W : World} {b n s : Nat} {e : TypeId} {v : Value} {xs : List Value} (h : W.ownsRow b e s v n xs) (hv : v ≠ .slice none 0 0) : ∃ g c, v = .slice (some ⟨g, 0, none⟩) n c := by
  rcases h.2 with ⟨rfl, _⟩ | ⟨g, cap, cur, rfl, _⟩
  · exact absurd rfl hv
  · exact ⟨g, cap, rfl⟩
theorem vI_app (xs ys : List Int) : vI (xs ++ ys) = vI xs ++ vI ys := by simp [vI]
theorem ofEL_take (l : List Te) (i : Nat) (h : i < l.length) : ofEL (l.take (i + 1)) = ofEL (l.take i) ++ ofE (l[i]'h) := by
  rw [List.take_succ_eq_append_getElem h]
  generalize l.take i = r
  induction r with
  | nil => simp [ofEL]
  | cons t r ih => simp only [List.cons_append, ofEL, ih, List.append_assoc]
theorem own_take (k n : Int) (l : List Te) (hl : 0 < l.length) (i : Nat) (h : i < toldN k n) : (ownE k n l).take (i + 1) = (ownE k n l).take i ++ [(usesE (l[0]'hl) (moreE k n - 1 - (i : Int)) : Int)] := by
  obtain ⟨t0, r, rfl⟩ := List.exists_cons_of_length_pos hl
  have hi : i < (ownE k n (t0 :: r)).length := by rw [ownE_len]; exact h
  rw [List.take_succ_eq_append_getElem hi]
  simp [ownE]
theorem own_none (k n : Int) (l : List Te) (h : k ≠ 2) (h6 : k ≠ 6) : ownE k n l = [] := by
  cases l with
  | nil => rfl
  | cons t r => rw [ownE, toldN, moreE, if_neg h, if_neg h6]; rfl
def GivesO (xs : List Int) (w : World) (e : Ending) (w' : World) : Prop :=
  ∃ g c, e = .returned (.slice (some ⟨g, 0, none⟩) xs.length c) ∧ w'.ownsRow w.heap.size 3 1 (.slice (some ⟨g, 0, none⟩) xs.length c) xs.length (vI xs) ∧ Below w.heap.size w w'
end Lx
end Go.Proofs.Ytgnafcnokenogaa
namespace Go.Proofs.Ytgnafcnokenogaa
open Go Go.RowKit
namespace Lx
set_option maxRecDepth 100000
theorem take_len (xs : List Int) (i : Nat) : (xs.take i).length ≤ xs.length := by rw [List.length_take]; omega
theorem fans_take_ok {t : Te} (hs : sizeE t ≤ 1000000) (i : Nat) : 0 ≤ fansL ((ofE t).take i) ∧ fansL ((ofE t).take i) ≤ 8000000000000 := by
  have h := fansL_bound (M := 1000000) (by omega) ((ofE t).take i) (fun x hx => by have := ofE_le t x (List.mem_of_mem_take hx); omega)
  have h2 := ofE_len t
  have h3 := take_len (ofE t) i
  have h4 : (((ofE t).take i).length : Int) * 1000000 ≤ 8000000 * 1000000 := Int.mul_le_mul_of_nonneg_right (by omega) (by omega)
  omega
theorem drops_take_ok {t : Te} (hs : sizeE t ≤ 1000000) (i : Nat) : 0 ≤ dropsL ((ofE t).take i) ∧ dropsL ((ofE t).take i) ≤ 8000000000000 := by
  have h := dropsL_bound ((ofE t).take i)
  have h2 := ofE_len t
  have h3 := take_len (ofE t) i
  omega
/-- A number put at its place. -/
def insR (n : Int) : List Int → List Int
  | [] => [n]
  | y :: r => if n ≤ y then n :: ((if y = n then [] else [y]) ++ r.filter (fun x => decide (x ≠ n))) else y :: insR n r
theorem wFold_true (n : Int) : ∀ (r out : List Int), r.foldl (wStep n) (out, true) = (out ++ r.filter (fun x => decide (x ≠ n)), true)
  | [], out => by simp
  | y :: r, out => by
    rw [List.foldl_cons]
    have : wStep n (out, true) y = (out ++ (if y = n then [] else [y]), true) := by simp [wStep]
    rw [this, wFold_true n r]
    by_cases h : y = n <;> simp [h]
theorem insL_gen (n : Int) : ∀ (r out : List Int), (r.foldl (wStep n) (out, false)).1 ++ (if (r.foldl (wStep n) (out, false)).2 then [] else [n]) = out ++ insR n r
  | [], out => by simp [insR]
  | y :: r, out => by
    by_cases h : n ≤ y
    · have e : wStep n (out, false) y = (out ++ [n] ++ (if y = n then [] else [y]), true) := by simp [wStep, h]
      simp only [List.foldl_cons, e, wFold_true, insR, if_pos h]
      simp
    · have h2 : y ≠ n := by omega
      have e : wStep n (out, false) y = (out ++ [y], false) := by simp [wStep, h, h2]
      have := insL_gen n r (out ++ [y])
      simp only [List.foldl_cons, e, insR, if_neg h]
      rw [this]
      simp
theorem insL_eq (xs : List Int) (n : Int) : insL xs n = insR n xs := by
  have := insL_gen n xs []
  rw [insL, wFold, this]
  rfl
theorem insR_mem (n : Int) : ∀ (xs : List Int) (x : Int), x ∈ insR n xs ↔ x = n ∨ x ∈ xs
  | [], x => by simp [insR]
  | y :: r, x => by
    rw [insR]
    by_cases h : n ≤ y
    · rw [if_pos h]
      by_cases hy : y = n
      · by_cases hx : x = n <;> simp [hy, hx]
      · by_cases hx : x = n <;> simp [hy, hx]
    · rw [if_neg h, List.mem_cons, insR_mem n r x, List.mem_cons]
      constructor
      · rintro (h | h | h) <;> simp [h]
      · rintro (h | h | h) <;> simp [h]
theorem insR_strict (n : Int) : ∀ (xs : List Int), xs.Pairwise (· < ·) → (insR n xs).Pairwise (· < ·)
  | [], _ => by simp [insR]
  | y :: r, h => by
    rw [List.pairwise_cons] at h
    rw [insR]
    have hf : (r.filter (fun x => decide (x ≠ n))).Pairwise (· < ·) := h.2.filter _
    by_cases hn : n ≤ y
    · rw [if_pos hn]
      by_cases hy : y = n
      · rw [if_pos hy, List.nil_append, List.pairwise_cons]
        exact ⟨fun x hx => by have := h.1 x ((List.mem_filter.1 hx).1); omega, hf⟩
      · rw [if_neg hy, List.singleton_append, List.pairwise_cons, List.pairwise_cons]
        refine ⟨fun x hx => ?_, fun x hx => h.1 x ((List.mem_filter.1 hx).1), hf⟩
        rcases List.mem_cons.1 hx with rfl | hx
        · omega
        · have := h.1 x ((List.mem_filter.1 hx).1); omega
    · rw [if_neg hn, List.pairwise_cons]
      refine ⟨fun x hx => ?_, insR_strict n r h.2⟩
      rcases (insR_mem n r x).1 hx with rfl | hx
      · omega
      · exact h.1 x hx
theorem rf_strict : ∀ (ys xs : List Int), xs.Pairwise (· < ·) → (ys.foldl insL xs).Pairwise (· < ·)
  | [], _, h => h
  | y :: r, xs, h => by rw [List.foldl_cons]; exact rf_strict r _ (by rw [insL_eq]; exact insR_strict y xs h)
theorem rf_mem : ∀ (ys xs : List Int) (x : Int), x ∈ ys.foldl insL xs ↔ x ∈ ys ∨ x ∈ xs
  | [], _, _ => by simp
  | y :: r, xs, x => by
    rw [List.foldl_cons, rf_mem r, insL_eq, insR_mem, List.mem_cons]
    constructor
    · rintro (h | h | h) <;> simp [h]
    · rintro ((h | h) | h) <;> simp [h]
theorem free_same (t : Te) : freeE t = rfreeE t := once_eq (fvE t 0) (rfreeE t) (rf_strict _ _ List.Pairwise.nil) fun x => by
  rw [rfreeE, rfE, rf_mem]
  simp
end Lx
end Go.Proofs.Ytgnafcnokenogaa
namespace Go.Proofs.Ytgnafcnokenogaa
open Go Go.RowKit
namespace Lx
set_option maxRecDepth 100000
theorem head_freeU {k n f f' : Int} {s : ByteArray} {m : Nat} {a : Bool} (hk : k ≠ 1) : headR k n s m f a = headR k n s m f' a := by
  unfold headR
  simp only [if_neg hk]
theorem head_one {k n f : Int} {s : ByteArray} {m : Nat} {a : Bool} (h : headR k n s m f a = true) : (k = 2 → m = 1) ∧ (k = 6 → m = 1) := by
  unfold headR at h
  refine ⟨?_, ?_⟩
  · rintro rfl; cases a <;> simp at h <;> omega
  · rintro rfl; cases a <;> simp at h <;> omega
theorem head_varU {n f : Int} {s : ByteArray} {m : Nat} {a : Bool} (h : headR 1 n s m f a = true) : a = false ∧ 0 ≤ n ∧ m = 0 := by
  revert h
  unfold headR
  cases a <;> simp <;> omega
mutual
theorem may_freeU : ∀ (t : Te) (f0 f b : Int) (a : Bool), mayQ t f0 a = true → 0 ≤ f → 0 ≤ b → (mayQ t (f + b) a = true ↔ ∀ x ∈ fvE t b, x < f)
  | .node k n s l, f0, f, b, a, h, hf, hb => by
    rw [mayQ, Bool.and_eq_true, Bool.and_eq_true] at h
    obtain ⟨_, h1, h2⟩ := h
    rw [mayQ, decide_eq_true (by omega : 0 ≤ f + b), Bool.true_and, Bool.and_eq_true]
    by_cases hk : k = 1
    · subst hk
      obtain ⟨rfl, hn, hm⟩ := head_varU h1
      obtain rfl : l = [] := List.eq_nil_of_length_eq_zero hm
      have hs : s.toList.isEmpty = true := by
        revert h1; unfold headR; simp
        intro h _ _; exact h
      have hh : headR 1 n s ([] : List Te).length (f + b) false = decide (n < f + b) := by
        unfold headR; simp [hs, hn]
      rw [hh, mayQL, fvE, if_pos rfl]
      constructor
      · rintro ⟨h, _⟩ x hx
        have := of_decide_eq_true h
        split at hx <;> simp at hx <;> omega
      · intro h
        refine ⟨decide_eq_true ?_, rfl⟩
        by_cases hnb : 0 ≤ n - b
        · have := h (n - b) (by rw [if_pos hnb]; simp); omega
        · omega
    · rw [fvE, if_neg hk, head_freeU (f' := f0) hk, show f + b + moreE k n = f + (b + moreE k n) from by omega]
      have hm := more_nn (k := k) (n := n) (fun h => ((head_facts h1).1 h).1)
      have := mayL_freeU l k [] (f0 + moreE k n) f (b + moreE k n) h2 hf (by omega)
      rw [this]
      exact ⟨fun h => h.2, fun h => ⟨h1, h⟩⟩
theorem mayL_freeU : ∀ (l : List Te) (k : Int) (met : List Te) (f0 f b : Int), mayQL k met l f0 = true → 0 ≤ f → 0 ≤ b → (mayQL k met l (f + b) = true ↔ ∀ x ∈ fvEL l b, x < f)
  | [], k, met, f0, f, b, _, _, _ => by rw [mayQL, fvEL]; simp
  | t :: r, k, met, f0, f, b, h, hf, hb => by
    rw [mayQL, Bool.and_eq_true, Bool.and_eq_true] at h
    obtain ⟨h1, h2, h3⟩ := h
    rw [mayQL, Bool.and_eq_true, Bool.and_eq_true, may_freeU t f0 f b _ h1 hf hb, mayL_freeU r k _ f0 f b h3 hf hb, fvEL]
    constructor
    · rintro ⟨g1, _, g3⟩ x hx
      rcases List.mem_append.1 hx with hx | hx
      · exact g1 x hx
      · exact g3 x hx
    · intro g
      exact ⟨fun x hx => g x (List.mem_append_left _ hx), h2, fun x hx => g x (List.mem_append_right _ hx)⟩
end
mutual
theorem fvE_pos : ∀ (t : Te) (b : Int) (x : Int), x ∈ fvE t b → 0 ≤ x
  | .node k n s l, b, x, h => by
    rw [fvE] at h
    split at h
    · split at h <;> simp at h; omega
    · exact fvEL_pos l _ x h
theorem fvEL_pos : ∀ (l : List Te) (b : Int) (x : Int), x ∈ fvEL l b → 0 ≤ x
  | [], b, x, h => by simp [fvEL] at h
  | t :: r, b, x, h => by
    rw [fvEL] at h
    rcases List.mem_append.1 h with h | h
    · exact fvE_pos t b x h
    · exact fvEL_pos r b x h
end
mutual
theorem fv_step : ∀ (t : Te) (b : Int), (fvE t b).length = (fvE t (b + 1)).length + usesE t b
  | .node k n s l, b => by
    rw [fvE, fvE, usesE]
    by_cases hk : k = 1
    · rw [if_pos hk, if_pos hk, if_pos hk]
      by_cases h1 : 0 ≤ n - b
      · rw [if_pos h1]
        by_cases h2 : n = b
        · rw [if_neg (by omega), if_pos h2]; rfl
        · rw [if_pos (by omega), if_neg h2]; rfl
      · rw [if_neg h1, if_neg (by omega), if_neg (by omega)]; rfl
    · rw [if_neg hk, if_neg hk, if_neg hk, show b + 1 + moreE k n = b + moreE k n + 1 from by omega]
      exact fvL_step l _
theorem fvL_step : ∀ (l : List Te) (b : Int), (fvEL l b).length = (fvEL l (b + 1)).length + usesEL l b
  | [], b => by simp [fvEL, usesEL]
  | t :: r, b => by rw [fvEL, fvEL, usesEL, List.length_append, List.length_append, fv_step t b, fvL_step r b]; omega
end
def ownSum (t : Te) : Nat → Int
  | 0 => 0
  | B + 1 => (usesE t B : Int) + ownSum t B
theorem ownSum_fv (t : Te) : ∀ B : Nat, ((fvE t 0).length : Int) = (fvE t B).length + ownSum t B
  | 0 => by simp [ownSum]
  | B + 1 => by
    rw [ownSum_fv t B, ownSum, fv_step t B]
    push_cast
    omega
theorem ownSum_is (t : Te) : ∀ B : Nat, ((List.range B).map fun (i : Nat) => (usesE t ((B : Int) - 1 - (i : Int)) : Int)).sum = ownSum t B
  | 0 => by simp [ownSum]
  | B + 1 => by
    rw [List.range_succ_eq_map, List.map_cons, List.sum_cons, List.map_map, ownSum, ← ownSum_is t B]
    congr 1
    · congr 2; simp
    · congr 1
      refine List.map_congr_left fun i _ => ?_
      simp only [Function.comp]
      congr 2
      push_cast
      omega
mutual
def varsE : Te → Int
  | .node k _ _ l => (if k = 1 then 1 else 0) + varsEL l
def varsEL : List Te → Int
  | [] => 0
  | t :: r => varsE t + varsEL r
end
mutual
theorem varsE_le : ∀ t : Te, 0 ≤ varsE t ∧ varsE t ≤ sizeE t
  | .node k n s l => by rw [varsE, sizeE]; have := varsEL_le l; split <;> omega
theorem varsEL_le : ∀ l : List Te, 0 ≤ varsEL l ∧ varsEL l ≤ sizeEL l
  | [] => by simp [varsEL, sizeEL]
  | t :: r => by rw [varsEL, sizeEL]; have := varsE_le t; have := varsEL_le r; omega
end
mutual
/-- All variables are the bound ones, which the binders' uses count, and the free ones. -/
theorem vars_sum : ∀ (t : Te) (f0 : Int) (a : Bool), mayQ t f0 a = true → varsE t = (ofE t).sum + ((fvE t 0).length : Int)
  | .node k n s l, f0, a, h => by
    rw [mayQ, Bool.and_eq_true, Bool.and_eq_true] at h
    obtain ⟨_, h1, h2⟩ := h
    have hL := varsL_sum l k [] _ h2
    rw [varsE, ofE, List.sum_append, fvE]
    by_cases hk : k = 1
    · subst hk
      obtain ⟨rfl, hn, hm⟩ := head_varU h1
      obtain rfl : l = [] := List.eq_nil_of_length_eq_zero hm
      rw [if_pos rfl, if_pos rfl, if_pos (by omega), ownE, ofEL, varsEL]
      simp
    · rw [if_neg hk, if_neg hk, hL]
      obtain ⟨g2, g6⟩ := head_one h1
      have hB : 0 ≤ moreE k n ∧ moreE k n ≤ 8 := by
        rw [moreE]
        split
        · omega
        · split
          · rename_i h6; have := (head_facts h1).1 h6; omega
          · omega
      obtain ⟨B, hBe⟩ : ∃ B : Nat, moreE k n = B := ⟨(moreE k n).toNat, by omega⟩
      by_cases hB0 : B = 0
      · subst hB0
        have ho : ownE k n l = [] := by
          cases l with
          | nil => rfl
          | cons t r => rw [ownE, toldN, hBe]; rfl
        rw [ho, hBe]
        simp
      · have hl : l.length = 1 := by
          by_cases h2 : k = 2
          · exact g2 h2
          · by_cases h6 : k = 6
            · exact g6 h6
            · rw [moreE, if_neg h2, if_neg h6] at hBe; omega
        obtain ⟨p, rfl⟩ := List.length_eq_one_iff.1 hl
        have ht : toldN k n = B := by rw [toldN, hBe]; omega
        have := ownSum_fv p B
        rw [ownE, ht, hBe, ownSum_is]
        simp only [fvEL, List.append_nil, Int.zero_add]
        omega
theorem varsL_sum : ∀ (l : List Te) (k : Int) (met : List Te) (f0 : Int), mayQL k met l f0 = true → varsEL l = (ofEL l).sum + ((fvEL l 0).length : Int)
  | [], _, _, _, _ => by simp [varsEL, ofEL, fvEL]
  | t :: r, k, met, f0, h => by
    rw [mayQL, Bool.and_eq_true, Bool.and_eq_true] at h
    obtain ⟨h1, h2, h3⟩ := h
    rw [varsEL, ofEL, fvEL, List.sum_append, List.length_append, vars_sum t f0 _ h1, varsL_sum r k _ f0 h3]
    push_cast
    omega
end
theorem sum_is : ∀ l : List Int, (∀ x ∈ l, 0 ≤ x) → l.sum = fansL l + l.length - dropsL l
  | [], _ => by simp [fansL, dropsL]
  | x :: r, h => by
    have h1 := sum_is r fun y hy => h y (by simp [hy])
    have h2 := h x (by simp)
    rw [List.sum_cons, h1, fansL, dropsL, List.length_cons]
    push_cast
    split <;> omega
theorem sum_bound {M : Int} (hM : 0 ≤ M) : ∀ l : List Int, (∀ x ∈ l, 0 ≤ x ∧ x ≤ M) → 0 ≤ l.sum ∧ l.sum ≤ l.length * M
  | [], _ => by simp
  | x :: r, h => by
    have h1 := sum_bound hM r fun y hy => h y (by simp [hy])
    have h2 := h x (by simp)
    rw [List.sum_cons, List.length_cons]
    have : ((r.length + 1 : Nat) : Int) * M = (r.length : Int) * M + M := by rw [Int.natCast_add, Int.add_mul]; simp
    omega
theorem sum_take_ok {t : Te} (hs : sizeE t ≤ 1000000) (i : Nat) : 0 ≤ ((ofE t).take i).sum ∧ ((ofE t).take i).sum ≤ 8000000000000 := by
  have h := sum_bound (M := 1000000) (by omega) ((ofE t).take i) (fun x hx => by have := ofE_le t x (List.mem_of_mem_take hx); omega)
  have h2 := ofE_len t
  have h3 := take_len (ofE t) i
  have h4 : (((ofE t).take i).length : Int) * 1000000 ≤ 8000000 * 1000000 := Int.mul_le_mul_of_nonneg_right (by omega) (by omega)
  omega
/-- One more than the last one. -/
def leastL (l : List Int) : Int := l.foldl (fun _ x => x + 1) 0
theorem leastL_snoc (l : List Int) (x : Int) : leastL (l ++ [x]) = x + 1 := by simp [leastL]
theorem leastL_strict (l : List Int) (h : l.Pairwise (· < ·)) (h0 : ∀ x ∈ l, 0 ≤ x) : 0 ≤ leastL l ∧ (∀ x ∈ l, x < leastL l) ∧ (l ≠ [] → leastL l - 1 ∈ l) ∧ (l = [] ↔ leastL l = 0) := by
  rcases List.eq_nil_or_concat l with rfl | ⟨r, y, rfl⟩
  · simp [leastL]
  · rw [List.concat_eq_append] at h h0 ⊢
    rw [leastL_snoc]
    rw [List.pairwise_append] at h
    have hy := h0 y (by simp)
    refine ⟨by omega, fun x hx => ?_, fun _ => by simp, ⟨fun h => by simp at h, fun h => by omega⟩⟩
    rcases List.mem_append.1 hx with hx | hx
    · have := h.2.2 x hx y (by simp); omega
    · simp at hx; omega
theorem freeE_mem (t : Te) (x : Int) : x ∈ freeE t ↔ x ∈ fvE t 0 := (once_ok (fvE t 0)).2 x
theorem freeE_strict (t : Te) : (freeE t).Pairwise (· < ·) := (once_ok (fvE t 0)).1
theorem may_least {t : Te} {f0 : Int} (h : mayQ t f0 false = true) {f : Int} (hf : 0 ≤ f) : mayQ t f false = decide (∀ x ∈ freeE t, x < f) := by
  have := may_freeU t f0 f 0 false h hf (by omega)
  rw [Int.add_zero] at this
  rw [Bool.eq_iff_iff, this, decide_eq_true_eq]
  exact ⟨fun g x hx => g x ((freeE_mem t x).1 hx), fun g x hx => g x ((freeE_mem t x).2 hx)⟩
theorem freeE_nil {t : Te} (h : freeE t = []) : fvE t 0 = [] := by
  rcases hf : fvE t 0 with _ | ⟨x, r⟩
  · rfl
  · have := (freeE_mem t x).2 (by rw [hf]; simp)
    rw [h] at this
    simp at this
end Lx
end Go.Proofs.Ytgnafcnokenogaa
namespace Go.Proofs.Ytgnafcnokenogaa
open Go Go.RowKit
namespace Lx
set_option maxRecDepth 100000
mutual
theorem uses_cl : ∀ (s : Te) (f j : Int), clE s f → f ≤ j → usesE s j = 0
  | .node k n z l, f, j, h, hj => by
    rw [clE] at h
    rw [usesE]
    split
    · rename_i hk
      rw [if_neg (by have := h.1 hk; omega)]
    · exact usesL_cl l _ _ h.2.2 (by omega)
theorem usesL_cl : ∀ (l : List Te) (f j : Int), clEL l f → f ≤ j → usesEL l j = 0
  | [], _, _, _, _ => by rw [usesEL]
  | t :: r, f, j, h, hj => by rw [clEL] at h; rw [usesEL, uses_cl t f j h.1 hj, usesL_cl r f j h.2 hj]
end
mutual
theorem fv_cl : ∀ (s : Te) (f c : Int), clE s f → f ≤ c → fvE s c = []
  | .node k n z l, f, c, h, hj => by
    rw [clE] at h
    rw [fvE]
    split
    · rename_i hk
      rw [if_neg (by have := h.1 hk; omega)]
    · exact fvL_cl l _ _ h.2.2 (by omega)
theorem fvL_cl : ∀ (l : List Te) (f c : Int), clEL l f → f ≤ c → fvEL l c = []
  | [], _, _, _, _ => by rw [fvEL]
  | t :: r, f, c, h, hj => by rw [clEL] at h; rw [fvEL, fv_cl t f c h.1 hj, fvL_cl r f c h.2 hj]; rfl
end
mutual
theorem up_cl : ∀ (s : Te) (u f : Int), clE s f → chE (upF u) s f = s
  | .node k n z l, u, f, h => by
    rw [clE] at h
    rw [chE]
    split
    · rename_i hk
      have := h.1 hk
      rw [upF, if_neg (by omega), this.2.2, hk]
    · rw [upL_cl l u _ h.2.2]
theorem upL_cl : ∀ (l : List Te) (u f : Int), clEL l f → chEL (upF u) l f = l
  | [], _, _, _ => by rw [chEL]
  | t :: r, u, f, h => by rw [clEL] at h; rw [chEL, up_cl t u f h.1, upL_cl r u f h.2]
end
mutual
theorem put_uses : ∀ (t : Te) (k b j : Int) (s : Te) (f : Int), clE s 0 → clE t f → 0 ≤ j → j < k + b → usesE (chE (putF k s) t b) j = usesE t j
  | .node k' n z l, k, b, j, s, f, hs, ht, hj, hb => by
    rw [clE] at ht
    rw [chE, usesE]
    by_cases hk : k' = 1
    · rw [if_pos hk, if_pos hk, putF]
      by_cases h1 : n = k + b
      · rw [if_pos h1, upE, up_cl s b 0 hs, uses_cl s 0 j hs hj, if_neg (by omega)]
      · rw [if_neg h1, usesE, if_pos rfl]
        by_cases h2 : k + b < n
        · rw [if_pos h2, if_neg (by omega), if_neg (by omega)]
        · rw [if_neg h2]
    · have hm := more_nn (k := k') (n := n) (fun h => (ht.2.1 h).1)
      rw [if_neg hk, if_neg hk, usesE, if_neg hk]
      exact put_usesL l k (b + moreE k' n) (j + moreE k' n) s _ hs ht.2.2 (by omega) (by omega)
theorem put_usesL : ∀ (l : List Te) (k b j : Int) (s : Te) (f : Int), clE s 0 → clEL l f → 0 ≤ j → j < k + b → usesEL (chEL (putF k s) l b) j = usesEL l j
  | [], _, _, _, _, _, _, _, _, _ => by rw [chEL]
  | t :: r, k, b, j, s, f, hs, ht, hj, hb => by
    rw [clEL] at ht
    rw [chEL, usesEL, usesEL, put_uses t k b j s f hs ht.1 hj hb, put_usesL r k b j s f hs ht.2 hj hb]
end
theorem put_own (k' n : Int) (l : List Te) (k b : Int) (s : Te) (f : Int) (hs : clE s 0) (ht : clEL l f) (_hm : 0 ≤ moreE k' n) (hb : 0 ≤ k + b) : ownE k' n (chEL (putF k s) l (b + moreE k' n)) = ownE k' n l := by
  cases l with
  | nil => rw [chEL]
  | cons t r =>
    rw [clEL] at ht
    rw [chEL, ownE, ownE]
    refine List.map_congr_left fun i hi => ?_
    have hi2 := List.mem_range.1 hi
    rw [toldN] at hi2
    rw [put_uses t k (b + moreE k' n) _ s f hs ht.1 (by omega) (by omega)]
section
variable (φ : List Int → Int) (h0 : φ [] = 0) (ha : ∀ l m, φ (l ++ m) = φ l + φ m)
include h0 ha
mutual
theorem put_of : ∀ (t : Te) (k b : Int) (s : Te) (f : Int), clE s 0 → clE t f → 0 ≤ k + b → φ (ofE (chE (putF k s) t b)) = φ (ofE t) + (usesE t (k + b) : Int) * φ (ofE s)
  | .node k' n z l, k, b, s, f, hs, ht, hb => by
    rw [clE] at ht
    rw [chE, usesE]
    by_cases hk : k' = 1
    · have hl := (ht.1 hk).2.2
      subst hl
      subst hk
      rw [if_pos rfl, if_pos rfl, putF]
      by_cases h1 : n = k + b
      · rw [if_pos h1, if_pos h1, upE, up_cl s b 0 hs, ofE, ownE, ofEL, List.append_nil, h0]
        simp
      · rw [if_neg h1, if_neg h1, ofE, ofE, ownE, ownE, ofEL, List.append_nil, h0]
        simp
    · have hm := more_nn (k := k') (n := n) (fun h => (ht.2.1 h).1)
      rw [if_neg hk, if_neg hk, ofE, ofE, ha, ha, put_own k' n l k b s _ hs ht.2.2 hm hb, put_ofL l k (b + moreE k' n) s _ hs ht.2.2 (by omega), show k + (b + moreE k' n) = k + b + moreE k' n from by omega]
      omega
theorem put_ofL : ∀ (l : List Te) (k b : Int) (s : Te) (f : Int), clE s 0 → clEL l f → 0 ≤ k + b → φ (ofEL (chEL (putF k s) l b)) = φ (ofEL l) + (usesEL l (k + b) : Int) * φ (ofE s)
  | [], _, _, _, _, _, _, _ => by rw [chEL, ofEL, usesEL, h0]; simp
  | t :: r, k, b, s, f, hs, ht, hb => by
    rw [clEL] at ht
    rw [chEL, ofEL, ofEL, usesEL, ha, ha, put_of t k b s f hs ht.1 hb, put_ofL r k b s f hs ht.2 hb, Int.natCast_add, Int.add_mul]
    omega
end
end
/-- The numbers beyond the first one, one less. -/
def offL (l : List Int) : List Int := (l.filter fun x => decide (0 < x)).map (· - 1)
theorem offL_app (l m : List Int) : offL (l ++ m) = offL l ++ offL m := by simp [offL]
mutual
theorem put_fv : ∀ (t : Te) (k b : Int) (s : Te) (f : Int), clE s 0 → clE t f → 0 ≤ k + b → fvE (chE (putF k s) t b) (k + b) = offL (fvE t (k + b))
  | .node k' n z l, k, b, s, f, hs, ht, hb => by
    rw [clE] at ht
    have e : fvE (.node k' n z l) (k + b) = if k' = 1 then (if 0 ≤ n - (k + b) then [n - (k + b)] else []) else fvEL l (k + b + moreE k' n) := by rw [fvE]
    rw [chE, e]
    by_cases hk : k' = 1
    · rw [if_pos hk, if_pos hk, putF]
      by_cases h1 : n = k + b
      · rw [if_pos h1, upE, up_cl s b 0 hs, fv_cl s 0 (k + b) hs hb, if_pos (by omega)]
        simp [offL, h1]
      · rw [if_neg h1, fvE, if_pos rfl]
        by_cases h2 : k + b < n
        · rw [if_pos h2, if_pos (by omega), if_pos (by omega)]
          have h3 : 0 < n - (k + b) := by omega
          simp only [offL, List.filter_cons, List.filter_nil, decide_eq_true h3, if_true, List.map_cons, List.map_nil]
          congr 1
          omega
        · rw [if_neg h2, if_neg (by omega)]
          rfl
    · rw [if_neg hk, if_neg hk, fvE, if_neg hk]
      have hm := more_nn (k := k') (n := n) (fun h => (ht.2.1 h).1)
      have := put_fvL l k (b + moreE k' n) s _ hs ht.2.2 (by omega)
      rw [show k + b + moreE k' n = k + (b + moreE k' n) from by omega]
      exact this
theorem put_fvL : ∀ (l : List Te) (k b : Int) (s : Te) (f : Int), clE s 0 → clEL l f → 0 ≤ k + b → fvEL (chEL (putF k s) l b) (k + b) = offL (fvEL l (k + b))
  | [], _, _, _, _, _, _, _ => by rw [chEL, fvEL]; rfl
  | t :: r, k, b, s, f, hs, ht, hb => by
    rw [clEL] at ht
    rw [chEL, fvEL, fvEL, put_fv t k b s f hs ht.1 hb, put_fvL r k b s f hs ht.2 hb, offL_app]
end
theorem offL_strict : ∀ l : List Int, l.Pairwise (· < ·) → (offL l).Pairwise (· < ·) := fun l h => by
  rw [offL, List.pairwise_map]
  exact (h.filter _).imp fun h => by omega
theorem offL_mem (l : List Int) (x : Int) : x ∈ offL l ↔ 0 ≤ x ∧ x + 1 ∈ l := by
  rw [offL, List.mem_map]
  constructor
  · rintro ⟨y, hy, rfl⟩
    have := List.mem_filter.1 hy
    have h2 := of_decide_eq_true this.2
    exact ⟨by omega, by rw [show y - 1 + 1 = y from by omega]; exact this.1⟩
  · rintro ⟨h1, h2⟩
    exact ⟨x + 1, List.mem_filter.2 ⟨h2, decide_eq_true (by omega)⟩, by omega⟩
theorem put_free (t s : Te) (f : Int) (hs : clE s 0) (ht : clE t f) : freeE (putE t 0 s) = offL (freeE t) := by
  have h := put_fv t 0 0 s f hs ht (by omega)
  rw [freeE, putE]
  refine once_eq _ _ (offL_strict _ (freeE_strict t)) fun x => ?_
  rw [show (0 : Int) + 0 = 0 from rfl] at h
  rw [h, offL_mem, offL_mem, freeE_mem]
theorem put_fans (t s : Te) (f : Int) (hs : clE s 0) (ht : clE t f) : fansL (ofE (putE t 0 s)) = fansL (ofE t) + (usesE t 0 : Int) * fansL (ofE s) := put_of fansL rfl fansL_app t 0 0 s f hs ht (by omega)
theorem put_drops (t s : Te) (f : Int) (hs : clE s 0) (ht : clE t f) : dropsL (ofE (putE t 0 s)) = dropsL (ofE t) + (usesE t 0 : Int) * dropsL (ofE s) := put_of dropsL rfl dropsL_app t 0 0 s f hs ht (by omega)
theorem put_len (t s : Te) (f : Int) (hs : clE s 0) (ht : clE t f) : ((ofE (putE t 0 s)).length : Int) = (ofE t).length + (usesE t 0 : Int) * (ofE s).length := put_of (fun l => (l.length : Int)) rfl (fun l m => by simp) t 0 0 s f hs ht (by omega)
end Lx
end Go.Proofs.Ytgnafcnokenogaa
