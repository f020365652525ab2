/-
  Texts that lie one behind the other: SuPm UsG SuIn SuUs UsW UsV.
-/
import Derived.Test.YtikchgigakbeiaaC7
import Derived.Test.YtikchgigakbeiaaC6
import Derived.Test.YtikchgigakbeiaaC9
namespace Go.Proofs.Ytikchgigakbeiaa
namespace Lx
set_option maxRecDepth 100000
theorem head_var {n free : Int} {s : ByteArray} {m : Nat} {alt : Bool} (h : headR 1 n s m free alt = true) : 0 ≤ n ∧ n < free ∧ m = 0 ∧ alt = false := by
  cases alt <;> simp [headR] at h
  exact ⟨h.2.2.1, h.2.2.2, h.2.1, rfl⟩
theorem head_free {k n f g : Int} {s : ByteArray} {m : Nat} {alt : Bool} (hk : k ≠ 1) : headR k n s m f alt = headR k n s m g alt := by
  simp [headR, hk]
mutual
theorem may_cl : ∀ (t : Te) (f : Int) (a : Bool), mayQ t f a = true → clE t f
  | .node k n s l, f, a, h => by
    rw [mayQ, Bool.and_eq_true, Bool.and_eq_true] at h
    obtain ⟨h0, h1, h2⟩ := h
    rw [clE]
    refine ⟨fun e => ?_, fun e => (head_facts h1).1 e, may_clL k [] l _ h2⟩
    subst e
    have := head_var h1
    exact ⟨this.1, this.2.1, List.eq_nil_of_length_eq_zero this.2.2.1⟩
theorem may_clL (k : Int) : ∀ (met l : List Te) (f : Int), mayQL k met l f = true → clEL l f
  | _, [], _, _ => by rw [clEL]; trivial
  | met, t :: r, f, h => by
    rw [mayQL, Bool.and_eq_true, Bool.and_eq_true] at h
    rw [clEL]
    exact ⟨may_cl t f _ h.1, may_clL k _ r f h.2.2⟩
end
theorem usesE_lam (t : Te) (k : Int) : usesE (lamE t) k = usesE t (k + 1) := by simp [lamE, usesE, usesEL, moreE]
theorem usesE_app (t u : Te) (k : Int) : usesE (appE t u) k = usesE t k + usesE u k := by simp [appE, usesE, usesEL, moreE]
theorem putE_lam (t x : Te) (k : Int) (ht : wfE t) (hx : wfE x) : putE (lamE t) k x = lamE (putE t (k + 1) (upE x 1 0)) := by
  have h := put_lam ht hx k
  simp [lamE, putE, chE, chEL, moreE] at h ⊢
  exact h
theorem putE_app (t u x : Te) (k : Int) : putE (appE t u) k x = appE (putE t k x) (putE u k x) := by simp [appE, putE, chE, chEL, moreE]
mutual
theorem up_size : ∀ (t : Te) (u f : Int), wfE t → sizeE (chE (upF u) t f) = sizeE t
  | .node k n s l, u, f, h => by
    rw [wfE] at h
    rw [chE]
    split
    · rename_i hk
      rw [h.1 hk]; simp [upF, sizeE, sizeEL]
    · rw [sizeE, sizeE, up_sizeL l u _ h.2.2]
theorem up_sizeL : ∀ (l : List Te) (u f : Int), wfEL l → sizeEL (chEL (upF u) l f) = sizeEL l
  | [], _, _, _ => by rw [chEL]
  | t :: r, u, f, h => by rw [wfEL] at h; rw [chEL, sizeEL, sizeEL, up_size t u f h.1, up_sizeL r u f h.2]
end
mutual
theorem put_size : ∀ (t : Te) (k : Int) (x : Te) (b : Int), wfE x → wfE t → sizeE (chE (putF k x) t b) + usesE t (k + b) = sizeE t + usesE t (k + b) * sizeE x
  | .node k' n s l, k, x, b, hx, h => by
    rw [wfE] at h
    rw [chE, usesE]
    split
    · rename_i hk
      rw [h.1 hk, putF]
      split
      · rw [upE, up_size x b 0 hx]; simp [sizeE, sizeEL]; omega
      · simp [sizeE, sizeEL]
    · have := put_sizeL l k x (b + moreE k' n) hx h.2.2
      rw [sizeE, sizeE, show k + b + moreE k' n = k + (b + moreE k' n) by omega]
      omega
theorem put_sizeL : ∀ (l : List Te) (k : Int) (x : Te) (b : Int), wfE x → wfEL l → sizeEL (chEL (putF k x) l b) + usesEL l (k + b) = sizeEL l + usesEL l (k + b) * sizeE x
  | [], _, _, _, _, _ => by simp [chEL, usesEL, sizeEL]
  | t :: r, k, x, b, hx, h => by
    rw [wfEL] at h
    have h1 := put_size t k x b hx h.1
    have h2 := put_sizeL r k x b hx h.2
    rw [chEL, sizeEL, sizeEL, usesEL, Nat.add_mul]
    omega
end
mutual
theorem put_none : ∀ (t : Te) (k : Int) (x y : Te) (b : Int), usesE t (k + b) = 0 → chE (putF k x) t b = chE (putF k y) t b
  | .node k' n s l, k, x, y, b, h => by
    rw [usesE] at h
    rw [chE.eq_1 (putF k x), chE.eq_1 (putF k y)]
    split
    · rename_i hk
      rw [if_pos hk] at h
      have hn : ¬ n = k + b := by intro e; rw [if_pos e] at h; omega
      rw [putF, putF, if_neg hn, if_neg hn]
    · rename_i hk
      rw [if_neg hk] at h
      rw [put_noneL l k x y (b + moreE k' n) (by rw [show k + (b + moreE k' n) = k + b + moreE k' n by omega]; exact h)]
theorem put_noneL : ∀ (l : List Te) (k : Int) (x y : Te) (b : Int), usesEL l (k + b) = 0 → chEL (putF k x) l b = chEL (putF k y) l b
  | [], _, _, _, _, _ => by rw [chEL, chEL]
  | t :: r, k, x, y, b, h => by
    rw [usesEL] at h
    rw [chEL.eq_2 (putF k x), chEL.eq_2 (putF k y), put_none t k x y b (by omega), put_noneL r k x y b (by omega)]
end
end Lx
end Go.Proofs.Ytikchgigakbeiaa
namespace Go.Proofs.Ytikchgigakbeiaa
open Go Go.RowKit
namespace Lx
set_option maxRecDepth 100000
theorem ofE_lam (b : Te) : ofE (lamE b) = (usesE b 0 : Int) :: ofE b := by
  rw [lamE, ofE, ofEL, ofEL, List.append_nil, ownE, show toldN 2 0 = 1 from by decide, show moreE 2 0 = 1 from by decide]
  simp
theorem ofE_app (a b : Te) : ofE (appE a b) = ofE a ++ ofE b := by
  rw [appE, ofE, ofEL, ofEL, ofEL, List.append_nil, ownE, show toldN 3 0 = 0 from by decide]
  simp
theorem affB_app (l m : List Int) : affB (l ++ m) = (affB l && affB m) := by simp [affB]
theorem affB_cons (x : Int) (l : List Int) : affB (x :: l) = (decide (x ≤ 1) && affB l) := by simp [affB]
theorem fansL_nonneg : ∀ l : List Int, 0 ≤ fansL l
  | [] => by simp [fansL]
  | x :: r => by have := fansL_nonneg r; simp only [fansL]; omega
theorem affB_fans : ∀ l : List Int, affB l = decide (fansL l = 0)
  | [] => by simp [affB, fansL]
  | x :: r => by
    have h1 := fansL_nonneg r
    rw [affB_cons, affB_fans r, fansL]
    by_cases h : x ≤ 1
    · rw [show max (x - 1) 0 = 0 from by omega, decide_eq_true h]
      simp
    · rw [decide_eq_false h, Bool.false_and]
      exact (decide_eq_false (by omega)).symm
theorem affB_part (k n : Int) (s : ByteArray) (l : List Te) (h : affB (ofE (.node k n s l)) = true) (i : Nat) (hi : i < l.length) : affB (ofE (l[i]'hi)) = true := by
  rw [ofE, affB_app, ofEL_split l i, affB_app, ofEL_drop l i hi, affB_app] at h
  simp only [Bool.and_eq_true] at h
  exact h.2.2.1
theorem tame_lam {t : Te} {K M : Int} (h : tameE K M t) : tameE K M (lamE t) := by
  rw [lamE, tameE, tameEL, tameEL]
  exact ⟨fun h => by omega, fun h => by omega, h, trivial⟩
theorem tame_app {t u : Te} {K M : Int} (h : tameE K M t) (h2 : tameE K M u) : tameE K M (appE t u) := by
  rw [appE, tameE, tameEL, tameEL, tameEL]
  exact ⟨fun h => by omega, fun h => by omega, h, h2, trivial⟩
theorem size_lam (t : Te) : sizeE (lamE t) = sizeE t + 1 := by rw [lamE, sizeE, sizeEL, sizeEL]
theorem size_app (t u : Te) : sizeE (appE t u) = sizeE t + sizeE u + 1 := by rw [appE, sizeE, sizeEL, sizeEL, sizeEL]; omega
theorem depth_lam (t : Te) : depthE (lamE t) = depthE t + 1 := by rw [lamE, depthE, depthEL, depthEL]; omega
theorem depth_app (t u : Te) : depthE (appE t u) ≤ depthE t + depthE u + 1 := by rw [appE, depthE, depthEL, depthEL, depthEL]; omega
theorem may_tame {t : Te} {f : Int} (h : mayQ t f false = true) (hf : f ≤ 10) (hd : depthE t ≤ 600) : tameE 1099511627776 1099511627776 t :=
  tameE_mono (by omega) (by omega) _ (clE_tame _ _ (may_cl _ _ _ h))
theorem Bx8.depth {w W : World} {g : Nat} {k n : Int} {s : ByteArray} {l : List Te} {A : Option Addr} {c : Nat} (h : Bx8 w W g k n s l A c) (hs : sizeE (.node k n s l) ≤ 100000) : Calls Try.prog 7 #[.agg #[.int .i64 k, .int .i64 n, .string s, .slice A l.length (capF l.length c)]] W fun e w' => e = .returned (.int .i64 (depthE (.node k n s l))) ∧ Below W.heap.size W w' :=
  rdepth6_any (depthE (.node k n s l)) (.node k n s l) A c W (Nat.le_refl _) hs h.tin
end Lx
end Go.Proofs.Ytikchgigakbeiaa
namespace Go.Proofs.Ytikchgigakbeiaa
open Go.RowKit
namespace Lx
set_option maxRecDepth 100000
/-- Each term of l is fine. -/
def FineL (l : List Te) : Prop := ∀ t ∈ l, depthE t ≤ 12000 ∧ sizeE t ≤ 1000000000000 ∧ tameE 1099511627776 1099511627776 t
end Lx
end Go.Proofs.Ytikchgigakbeiaa
namespace Go.Proofs.Ytikchgigakbeiaa
open Go.RowKit
namespace Lx
set_option maxRecDepth 100000
end Lx
end Go.Proofs.Ytikchgigakbeiaa
namespace Go.Proofs.Ytikchgigakbeiaa
open Go Go.RowKit
namespace Lx
set_option maxRecDepth 100000
/-- A number more, at its place, if it is not there: what is laid so far, and is it laid? -/
def wStep (n : Int) (s : List Int × Bool) (x : Int) : List Int × Bool :=
  ((if s.2 = false ∧ n ≤ x then s.1 ++ [n] else s.1) ++ (if x = n then [] else [x]), s.2 || decide (n ≤ x))
def wFold (n : Int) (xs : List Int) : List Int × Bool := xs.foldl (wStep n) ([], false)
def insL (xs : List Int) (n : Int) : List Int := (wFold n xs).1 ++ (if (wFold n xs).2 then [] else [n])
theorem wFold_take (n : Int) (xs : List Int) (i : Nat) (h : i < xs.length) : wFold n (xs.take (i + 1)) = wStep n (wFold n (xs.take i)) (xs[i]'h) := by
  simp only [wFold]
  rw [List.take_succ_eq_append_getElem h, List.foldl_append]
  rfl
theorem wFold_len (n : Int) (xs : List Int) : (wFold n xs).1.length ≤ 2 * xs.length := by
  have : ∀ (ys : List Int) (s : List Int × Bool), (ys.foldl (wStep n) s).1.length ≤ s.1.length + 2 * ys.length := by
    intro ys
    induction ys with
    | nil => intro s; simp
    | cons y r ih =>
      intro s
      rw [List.foldl_cons]
      have := ih (wStep n s y)
      have h2 : (wStep n s y).1.length ≤ s.1.length + 2 := by
        simp only [wStep, List.length_append]
        split <;> split <;> simp
      simp only [List.length_cons]
      omega
  have := this xs ([], false)
  simpa [wFold] using this
theorem wFold_take_len (n : Int) (xs : List Int) (i : Nat) : (wFold n (xs.take i)).1.length ≤ 2 * xs.length := by
  have := wFold_len n (xs.take i)
  have : (xs.take i).length ≤ xs.length := by simp; omega
  omega
end Lx
end Go.Proofs.Ytikchgigakbeiaa
namespace Go.Proofs.Ytikchgigakbeiaa
open Go Go.RowKit
namespace Lx
set_option maxRecDepth 100000
theorem insL_len (xs : List Int) (n : Int) : (insL xs n).length ≤ xs.length + 1 := by
  have : ∀ (ys : List Int) (s : List Int × Bool), (ys.foldl (wStep n) s).1.length + (if (ys.foldl (wStep n) s).2 then 0 else 1) ≤ s.1.length + ys.length + (if s.2 then 0 else 1) := by
    intro ys
    induction ys with
    | nil => intro s; exact Nat.le_refl _
    | cons y r ih =>
      intro s
      rw [List.foldl_cons]
      have h1 := ih (wStep n s y)
      have h2 : (wStep n s y).1.length + (if (wStep n s y).2 then 0 else 1) ≤ s.1.length + 1 + (if s.2 then 0 else 1) := by
        obtain ⟨a, q⟩ := s
        by_cases hy : y = n
        · cases q <;> simp [wStep, hy]
        · cases q <;> by_cases hn : n ≤ y <;> simp [wStep, hy, hn]
      simp only [List.length_cons]
      omega
  have h := this xs ([], false)
  rw [insL, wFold, List.length_append]
  simp at h
  split
  · rename_i h1
    simp [h1] at h
    simp; omega
  · rename_i h1
    simp [h1] at h
    simp; omega
/-- The document's free, onto what is met. -/
def rfE (t : Te) (b : Int) (xs : List Int) : List Int := (fvE t b).foldl insL xs
def rfEL (l : List Te) (b : Int) (xs : List Int) : List Int := (fvEL l b).foldl insL xs
theorem rf_len (ys xs : List Int) : (ys.foldl insL xs).length ≤ xs.length + ys.length := by
  induction ys generalizing xs with
  | nil => simp
  | cons y r ih => rw [List.foldl_cons]; have := ih (insL xs y); have := insL_len xs y; simp only [List.length_cons]; omega
theorem rfEL_len (l : List Te) (b : Int) (xs : List Int) : (rfEL l b xs).length ≤ xs.length + sizeEL l := by
  have := rf_len (fvEL l b) xs
  have := fvEL_len l b
  rw [rfEL]; omega
theorem rfEL_take (l : List Te) (i : Nat) (b : Int) (xs : List Int) (h : i < l.length) : rfEL (l.take (i + 1)) b xs = rfE (l[i]'h) b (rfEL (l.take i) b xs) := by
  rw [rfEL, fvEL_take l i b h, List.foldl_append]
  rfl
def GivesR (ys : List Int) (w : World) (e : Ending) (w' : World) : Prop := ∃ A c, e = .returned (.slice A ys.length c) ∧ RowI w' A ys ∧ Below w.heap.size w w'
theorem rowI_nil (w : World) (A : Option Addr) : RowI w A [] := fun j hj => by simp at hj
/-- The document's Free. -/
def rfreeE (t : Te) : List Int := rfE t 0 []
end Lx
end Go.Proofs.Ytikchgigakbeiaa
