/-
  Texts that lie one behind the other: SuPm UsG SuIn SuUs Hd Byx HdA HdB HdC HdD HdE HdH H9A.
-/
import Derived.Test.YtgnafcnokenogaaC7
import Derived.Test.YtgnafcnokenogaaC6
import Derived.Test.YtgnafcnokenogaaC10
import Derived.Test.YtgnafcnokenogaaC2
import Derived.Test.YtgnafcnokenogaaC1
import Derived.Laws.AppendOwnNone
import Derived.Deep.AppendLies
import Derived.Maps.AppendAt
import Derived.Deep.RegionHeld3
import Derived.Deep.DrawnRows
namespace Go.Proofs.Ytgnafcnokenogaa
namespace Lx
set_option maxRecDepth 100000
theorem head_var {n free : Int} {s : ByteArray} {m : Nat} {alt : Bool} (h : headR 1 n s m free alt = true) : 0 ≤ n ∧ n < free ∧ m = 0 ∧ alt = false := by
  cases alt <;> simp [headR] at h
  exact ⟨h.2.2.1, h.2.2.2, h.2.1, rfl⟩
theorem head_free {k n f g : Int} {s : ByteArray} {m : Nat} {alt : Bool} (hk : k ≠ 1) : headR k n s m f alt = headR k n s m g alt := by
  simp [headR, hk]
mutual
theorem may_cl : ∀ (t : Te) (f : Int) (a : Bool), mayQ t f a = true → clE t f
  | .node k n s l, f, a, h => by
    rw [mayQ, Bool.and_eq_true, Bool.and_eq_true] at h
    obtain ⟨h0, h1, h2⟩ := h
    rw [clE]
    refine ⟨fun e => ?_, fun e => (head_facts h1).1 e, may_clL k [] l _ h2⟩
    subst e
    have := head_var h1
    exact ⟨this.1, this.2.1, List.eq_nil_of_length_eq_zero this.2.2.1⟩
theorem may_clL (k : Int) : ∀ (met l : List Te) (f : Int), mayQL k met l f = true → clEL l f
  | _, [], _, _ => by rw [clEL]; trivial
  | met, t :: r, f, h => by
    rw [mayQL, Bool.and_eq_true, Bool.and_eq_true] at h
    rw [clEL]
    exact ⟨may_cl t f _ h.1, may_clL k _ r f h.2.2⟩
end
theorem usesE_lam (t : Te) (k : Int) : usesE (lamE t) k = usesE t (k + 1) := by simp [lamE, usesE, usesEL, moreE]
theorem usesE_app (t u : Te) (k : Int) : usesE (appE t u) k = usesE t k + usesE u k := by simp [appE, usesE, usesEL, moreE]
theorem putE_lam (t x : Te) (k : Int) (ht : wfE t) (hx : wfE x) : putE (lamE t) k x = lamE (putE t (k + 1) (upE x 1 0)) := by
  have h := put_lam ht hx k
  simp [lamE, putE, chE, chEL, moreE] at h ⊢
  exact h
theorem putE_app (t u x : Te) (k : Int) : putE (appE t u) k x = appE (putE t k x) (putE u k x) := by simp [appE, putE, chE, chEL, moreE]
mutual
theorem up_size : ∀ (t : Te) (u f : Int), wfE t → sizeE (chE (upF u) t f) = sizeE t
  | .node k n s l, u, f, h => by
    rw [wfE] at h
    rw [chE]
    split
    · rename_i hk
      rw [h.1 hk]; simp [upF, sizeE, sizeEL]
    · rw [sizeE, sizeE, up_sizeL l u _ h.2.2]
theorem up_sizeL : ∀ (l : List Te) (u f : Int), wfEL l → sizeEL (chEL (upF u) l f) = sizeEL l
  | [], _, _, _ => by rw [chEL]
  | t :: r, u, f, h => by rw [wfEL] at h; rw [chEL, sizeEL, sizeEL, up_size t u f h.1, up_sizeL r u f h.2]
end
mutual
theorem put_size : ∀ (t : Te) (k : Int) (x : Te) (b : Int), wfE x → wfE t → sizeE (chE (putF k x) t b) + usesE t (k + b) = sizeE t + usesE t (k + b) * sizeE x
  | .node k' n s l, k, x, b, hx, h => by
    rw [wfE] at h
    rw [chE, usesE]
    split
    · rename_i hk
      rw [h.1 hk, putF]
      split
      · rw [upE, up_size x b 0 hx]; simp [sizeE, sizeEL]; omega
      · simp [sizeE, sizeEL]
    · have := put_sizeL l k x (b + moreE k' n) hx h.2.2
      rw [sizeE, sizeE, show k + b + moreE k' n = k + (b + moreE k' n) by omega]
      omega
theorem put_sizeL : ∀ (l : List Te) (k : Int) (x : Te) (b : Int), wfE x → wfEL l → sizeEL (chEL (putF k x) l b) + usesEL l (k + b) = sizeEL l + usesEL l (k + b) * sizeE x
  | [], _, _, _, _, _ => by simp [chEL, usesEL, sizeEL]
  | t :: r, k, x, b, hx, h => by
    rw [wfEL] at h
    have h1 := put_size t k x b hx h.1
    have h2 := put_sizeL r k x b hx h.2
    rw [chEL, sizeEL, sizeEL, usesEL, Nat.add_mul]
    omega
end
mutual
theorem put_none : ∀ (t : Te) (k : Int) (x y : Te) (b : Int), usesE t (k + b) = 0 → chE (putF k x) t b = chE (putF k y) t b
  | .node k' n s l, k, x, y, b, h => by
    rw [usesE] at h
    rw [chE.eq_1 (putF k x), chE.eq_1 (putF k y)]
    split
    · rename_i hk
      rw [if_pos hk] at h
      have hn : ¬ n = k + b := by intro e; rw [if_pos e] at h; omega
      rw [putF, putF, if_neg hn, if_neg hn]
    · rename_i hk
      rw [if_neg hk] at h
      rw [put_noneL l k x y (b + moreE k' n) (by rw [show k + (b + moreE k' n) = k + b + moreE k' n by omega]; exact h)]
theorem put_noneL : ∀ (l : List Te) (k : Int) (x y : Te) (b : Int), usesEL l (k + b) = 0 → chEL (putF k x) l b = chEL (putF k y) l b
  | [], _, _, _, _, _ => by rw [chEL, chEL]
  | t :: r, k, x, y, b, h => by
    rw [usesEL] at h
    rw [chEL.eq_2 (putF k x), chEL.eq_2 (putF k y), put_none t k x y b (by omega), put_noneL r k x y b (by omega)]
end
end Lx
end Go.Proofs.Ytgnafcnokenogaa
namespace Go.Proofs.Ytgnafcnokenogaa
open Go Go.RowKit
namespace Lx
set_option maxRecDepth 100000
theorem ofE_lam (b : Te) : ofE (lamE b) = (usesE b 0 : Int) :: ofE b := by
  rw [lamE, ofE, ofEL, ofEL, List.append_nil, ownE, show toldN 2 0 = 1 from by decide, show moreE 2 0 = 1 from by decide]
  simp
theorem ofE_app (a b : Te) : ofE (appE a b) = ofE a ++ ofE b := by
  rw [appE, ofE, ofEL, ofEL, ofEL, List.append_nil, ownE, show toldN 3 0 = 0 from by decide]
  simp
theorem affB_app (l m : List Int) : affB (l ++ m) = (affB l && affB m) := by simp [affB]
theorem affB_cons (x : Int) (l : List Int) : affB (x :: l) = (decide (x ≤ 1) && affB l) := by simp [affB]
theorem fansL_nonneg : ∀ l : List Int, 0 ≤ fansL l
  | [] => by simp [fansL]
  | x :: r => by have := fansL_nonneg r; simp only [fansL]; omega
theorem affB_fans : ∀ l : List Int, affB l = decide (fansL l = 0)
  | [] => by simp [affB, fansL]
  | x :: r => by
    have h1 := fansL_nonneg r
    rw [affB_cons, affB_fans r, fansL]
    by_cases h : x ≤ 1
    · rw [show max (x - 1) 0 = 0 from by omega, decide_eq_true h]
      simp
    · rw [decide_eq_false h, Bool.false_and]
      exact (decide_eq_false (by omega)).symm
theorem affB_part (k n : Int) (s : ByteArray) (l : List Te) (h : affB (ofE (.node k n s l)) = true) (i : Nat) (hi : i < l.length) : affB (ofE (l[i]'hi)) = true := by
  rw [ofE, affB_app, ofEL_split l i, affB_app, ofEL_drop l i hi, affB_app] at h
  simp only [Bool.and_eq_true] at h
  exact h.2.2.1
theorem tame_lam {t : Te} {K M : Int} (h : tameE K M t) : tameE K M (lamE t) := by
  rw [lamE, tameE, tameEL, tameEL]
  exact ⟨fun h => by omega, fun h => by omega, h, trivial⟩
theorem tame_app {t u : Te} {K M : Int} (h : tameE K M t) (h2 : tameE K M u) : tameE K M (appE t u) := by
  rw [appE, tameE, tameEL, tameEL, tameEL]
  exact ⟨fun h => by omega, fun h => by omega, h, h2, trivial⟩
theorem size_lam (t : Te) : sizeE (lamE t) = sizeE t + 1 := by rw [lamE, sizeE, sizeEL, sizeEL]
theorem size_app (t u : Te) : sizeE (appE t u) = sizeE t + sizeE u + 1 := by rw [appE, sizeE, sizeEL, sizeEL, sizeEL]; omega
theorem depth_lam (t : Te) : depthE (lamE t) = depthE t + 1 := by rw [lamE, depthE, depthEL, depthEL]; omega
theorem depth_app (t u : Te) : depthE (appE t u) ≤ depthE t + depthE u + 1 := by rw [appE, depthE, depthEL, depthEL, depthEL]; omega
theorem may_tame {t : Te} {f : Int} (h : mayQ t f false = true) (hf : f ≤ 10) (hd : depthE t ≤ 600) : tameE 1099511627776 1099511627776 t :=
  tameE_mono (by omega) (by omega) _ (clE_tame _ _ (may_cl _ _ _ h))
theorem Bx8.depth {w W : World} {g : Nat} {k n : Int} {s : ByteArray} {l : List Te} {A : Option Addr} {c : Nat} (h : Bx8 w W g k n s l A c) (hs : sizeE (.node k n s l) ≤ 100000) : Calls Try.prog 6 #[.agg #[.int .i64 k, .int .i64 n, .string s, .slice A l.length (capF l.length c)]] W fun e w' => e = .returned (.int .i64 (depthE (.node k n s l))) ∧ Below W.heap.size W w' :=
  rdepth6_any (depthE (.node k n s l)) (.node k n s l) A c W (Nat.le_refl _) hs h.tin
end Lx
end Go.Proofs.Ytgnafcnokenogaa
namespace Go.Proofs.Ytgnafcnokenogaa
open Go.RowKit
namespace Lx
set_option maxRecDepth 100000
/-- Each term of l is fine. -/
def FineL (l : List Te) : Prop := ∀ t ∈ l, depthE t ≤ 12000 ∧ sizeE t ≤ 1000000000000 ∧ tameE 1099511627776 1099511627776 t
end Lx
end Go.Proofs.Ytgnafcnokenogaa
namespace Go.Proofs.Ytgnafcnokenogaa
open Go.RowKit
namespace Lx
set_option maxRecDepth 100000
end Lx
end Go.Proofs.Ytgnafcnokenogaa
namespace Go.Proofs.Ytgnafcnokenogaa
namespace Lx
set_option maxRecDepth 100000
def wrapI (a : Int) : Int := (a + 9223372036854775808) % 18446744073709551616 - 9223372036854775808
def noE : Te := .node 0 0 ⟨#[]⟩ []
def failE : Te := .node 9 0 ⟨#[]⟩ []
def numE (n : Int) : Te := .node 7 n ⟨#[]⟩ []
def truthE (b : Bool) : Te := if b then .node 4 0 ⟨#[84, 114, 117, 101]⟩ [] else .node 4 0 ⟨#[70, 97, 108, 115, 101]⟩ []
def prt (l : List Te) (i : Nat) : Te := l.getD i noE
/-- Of these kinds there is no step. -/
def valK (k : Int) : Bool := decide (k = 2) || (decide (k = 4) || (decide (k = 7) || decide (k = 9)))
/-- The part in whose place the step is. -/
def waitK (k : Int) (l : List Te) : Option Nat :=
  if k = 3 ∨ k = 5 then (if valK (prt l 0).kind then none else some 0)
  else if k = 8 then (if (prt l 0).kind = 7 then (if valK (prt l 1).kind then none else some 1) else if valK (prt l 0).kind then none else some 0)
  else none
def waitE (t : Te) : Option Nat := waitK t.kind t.parts
def setE (t : Te) (i : Nat) (x : Te) : Te := .node t.kind t.n t.name (t.parts.set i x)
def opE (s : ByteArray) (a b : Int) : Te :=
  if s = ⟨#[43]⟩ then numE (wrapI (a + b)) else if s = ⟨#[45]⟩ then numE (wrapI (a - b)) else if s = ⟨#[42]⟩ then numE (wrapI (a * b))
  else if s = ⟨#[47]⟩ then numE (wrapI (a.tdiv b)) else if s = ⟨#[60]⟩ then truthE (decide (a < b)) else truthE (decide (a = b))
def pickE (s : Te) : List Te → Te × Int
  | [] => (failE, 4)
  | a :: r => if a.name = s.name ∧ a.n = s.parts.length then (instE (prt a.parts 0) s.parts, 2) else pickE s r
def applyE (f a : Te) : Te × Int := if f.kind = 2 then (putE (prt f.parts 0) 0 a, 1) else (failE, 4)
def chooseE (s : Te) (l : List Te) : Te × Int := if s.kind = 4 then pickE s l else (failE, 4)
def reckonE (s : ByteArray) (a b : Te) : Te × Int := if a.kind = 7 ∧ b.kind = 7 ∧ ¬ (s = ⟨#[47]⟩ ∧ b.n = 0) then (opE s a.n b.n, 3) else (failE, 4)
/-- The step of a term that does not wait for a part. -/
def actE (t : Te) : Te × Int :=
  if t.kind = 3 then applyE (prt t.parts 0) (prt t.parts 1) else if t.kind = 5 then chooseE (prt t.parts 0) (t.parts.drop 1)
  else if t.kind = 8 then reckonE t.name (prt t.parts 0) (prt t.parts 1) else (t, 0)
def stepF : Nat → Te → Te × Int
  | 0, t => (t, 0)
  | f + 1, t => match waitE t with
    | some i => (setE t i (stepF f (prt t.parts i)).1, (stepF f (prt t.parts i)).2)
    | none => actE t
def stepE (t : Te) : Te × Int := stepF (depthE t) t
def runE : Nat → Nat → Te → Te × Nat × Int
  | f, n, t => if 5000 < sizeE t then (noE, n, 91) else if valK t.kind then (t, n, 0) else
    match f with
    | 0 => (noE, n, 90)
    | f + 1 => runE f (n + 1) (stepE t).1
/-- A part, and what is around it, the innermost first. -/
def plugE : Te → List (Te × Nat) → Te
  | t, [] => t
  | t, (u, i) :: p => plugE (setE u i t) p
def pathE (p : List (Te × Nat)) : Prop := ∀ e ∈ p, waitE e.1 = some e.2 ∧ e.2 < e.1.parts.length

theorem prt_depth (l : List Te) (i : Nat) : depthE (prt l i) ≤ max 1 (depthEL l) := by
  rw [prt, List.getD_eq_getElem?_getD]
  cases h : l[i]? with
  | none => simp [noE, depthE, depthEL]; exact Nat.le_max_left _ _
  | some a =>
    have := depthEL_mem l a (List.mem_of_getElem? h)
    simp; omega
theorem wait_no : waitE noE = none := by decide
theorem stepF_no (f : Nat) : stepF f noE = (noE, 0) := by
  cases f with
  | zero => rfl
  | succ f => rw [stepF, wait_no]; simp [actE, noE, Te.kind]
theorem stepF_eq : ∀ (f g : Nat) (t : Te), depthE t ≤ f → depthE t ≤ g → stepF f t = stepF g t
  | 0, _, t, h, _ => by have := depthE_pos t; omega
  | _, 0, t, _, h => by have := depthE_pos t; omega
  | f + 1, g + 1, t, hf, hg => by
    rw [stepF, stepF]
    cases h : waitE t with
    | none => rfl
    | some i =>
      have e : stepF f (prt t.parts i) = stepF g (prt t.parts i) := by
        rw [prt, List.getD_eq_getElem?_getD]
        cases hi : t.parts[i]? with
        | none => simp only [Option.getD_none]; rw [stepF_no, stepF_no]
        | some a =>
          obtain ⟨k, n, s, l⟩ := t
          have := depthEL_mem l a (List.mem_of_getElem? hi)
          rw [depthE] at hf hg
          exact stepF_eq f g a (by omega) (by omega)
      simp only [e]
theorem stepE_wait {t : Te} {i : Nat} (h : waitE t = some i) : stepE t = (setE t i (stepE (prt t.parts i)).1, (stepE (prt t.parts i)).2) := by
  have hp := depthE_pos t
  obtain ⟨d, hd⟩ : ∃ d, depthE t = d + 1 := ⟨depthE t - 1, by omega⟩
  have e : stepF d (prt t.parts i) = stepE (prt t.parts i) := by
    rw [stepE]
    by_cases hl : t.parts = []
    · rw [hl]; show stepF d noE = _; rw [stepF_no]; exact (stepF_no _).symm
    · have h1 := prt_depth t.parts i
      have h2 : depthEL t.parts ≤ d := by obtain ⟨k, n, s, l⟩ := t; rw [depthE] at hd; exact Nat.le_of_succ_le_succ (Nat.le_of_eq hd)
      have h3 : 0 < depthEL t.parts := by
        cases hx : t.parts with
        | nil => exact absurd hx hl
        | cons a r => rw [depthEL]; have := depthE_pos a; omega
      exact stepF_eq _ _ _ (by omega) (Nat.le_refl _)
  rw [stepE, hd, stepF, h]
  simp only [e]
theorem stepE_act {t : Te} (h : waitE t = none) : stepE t = actE t := by
  have hp := depthE_pos t
  obtain ⟨d, hd⟩ : ∃ d, depthE t = d + 1 := ⟨depthE t - 1, by omega⟩
  rw [stepE, hd, stepF, h]
theorem wait_kind {t : Te} {i : Nat} (h : waitE t = some i) : valK t.kind = false ∧ (t.kind = 3 ∨ t.kind = 5 ∨ t.kind = 8) := by
  unfold waitE waitK at h
  split at h
  · rename_i hk; rcases hk with hk | hk <;> rw [hk] <;> decide
  · split at h
    · rename_i hk; rw [hk]; decide
    · cases h
theorem wait_part {t : Te} {i : Nat} (h : waitE t = some i) : valK (prt t.parts i).kind = false := by
  unfold waitE waitK at h
  split at h
  · split at h
    · cases h
    · rename_i h1; cases h; simpa using h1
  · split at h
    · split at h
      · split at h
        · cases h
        · rename_i h1; cases h; simpa using h1
      · split at h
        · cases h
        · rename_i h1; cases h; simpa using h1
    · cases h
theorem prt_set {l : List Te} {i : Nat} (h : i < l.length) (x : Te) (j : Nat) : prt (l.set i x) j = if j = i then x else prt l j := by
  simp only [prt, List.getD_eq_getElem?_getD, List.getElem?_set]
  by_cases e : i = j
  · subst e; simp [h]
  · rw [if_neg e, if_neg (fun e' => e e'.symm)]
theorem wait_set {t : Te} {i : Nat} (h : waitE t = some i) (hi : i < t.parts.length) {x : Te} (hx : valK x.kind = false) : waitE (setE t i x) = some i := by
  have hv : ¬ valK x.kind = true := by rw [hx]; decide
  have h7 : ¬ x.kind = 7 := fun e => by rw [e] at hx; revert hx; decide
  unfold waitE at h ⊢
  show waitK t.kind (t.parts.set i x) = some i
  unfold waitK at h ⊢
  split at h
  · rename_i hk
    rw [if_pos hk]
    split at h
    · cases h
    · cases h; rw [prt_set hi, if_pos rfl, if_neg hv]
  · rename_i hk
    rw [if_neg hk]
    split at h
    · rename_i hk8
      rw [if_pos hk8]
      split at h
      · rename_i h0
        split at h
        · cases h
        · cases h
          rw [prt_set hi, if_neg (show ¬ (0 : Nat) = 1 by decide), if_pos h0, prt_set hi, if_pos rfl, if_neg hv]
      · rename_i h0
        split at h
        · cases h
        · cases h
          rw [prt_set hi, if_pos rfl, if_neg h7, if_neg hv]
    · cases h
theorem setE_setE (t : Te) (i : Nat) (x y : Te) : setE (setE t i x) i y = setE t i y := by
  simp only [setE, Te.kind, Te.n, Te.name, Te.parts, List.set_set]
theorem setE_prt {t : Te} {i : Nat} : setE t i (prt t.parts i) = t := by
  obtain ⟨k, n, s, l⟩ := t
  simp only [setE, Te.kind, Te.n, Te.name, Te.parts]
  by_cases h : i < l.length
  · rw [prt, List.getD_eq_getElem?_getD, List.getElem?_eq_getElem h]
    simp
  · rw [List.set_eq_of_length_le (by omega)]
theorem setE_kind (t : Te) (i : Nat) (x : Te) : (setE t i x).kind = t.kind := rfl
theorem plug_val : ∀ (p : List (Te × Nat)) (t : Te), pathE p → valK t.kind = false → valK (plugE t p).kind = false
  | [], _, _, h => h
  | (u, i) :: p, t, hp, _ => by
    have h1 := hp (u, i) (by simp)
    exact plug_val p (setE u i t) (fun e he => hp e (by simp [he])) (by rw [setE_kind]; exact (wait_kind h1.1).1)
/-- A step of a part is a step of the whole, in its place. -/
theorem step_plug : ∀ (p : List (Te × Nat)) (t : Te), pathE p → valK t.kind = false → stepE (plugE t p) = (plugE (stepE t).1 p, (stepE t).2)
  | [], _, _, _ => rfl
  | (u, i) :: p, t, hp, h => by
    have h1 := hp (u, i) (by simp)
    have h2 := wait_set h1.1 h1.2 h
    rw [plugE, step_plug p (setE u i t) (fun e he => hp e (by simp [he])) (by rw [setE_kind]; exact (wait_kind h1.1).1), stepE_wait h2]
    have h3 : prt (setE u i t).parts i = t := by
      show prt (u.parts.set i t) i = t
      rw [prt_set h1.2, if_pos rfl]
    rw [h3, setE_setE]
    rfl
theorem sizeEL_set : ∀ (l : List Te) (i : Nat) (x : Te), i < l.length → sizeEL (l.set i x) + sizeE (prt l i) = sizeEL l + sizeE x
  | [], _, _, h => by simp at h
  | a :: r, 0, x, _ => by simp only [List.set, sizeEL, prt, List.getD_cons_zero]; omega
  | a :: r, i + 1, x, h => by
    have := sizeEL_set r i x (by simpa using h)
    simp only [List.set, sizeEL, prt, List.getD_cons_succ] at this ⊢
    omega
theorem size_plug : ∀ (p : List (Te × Nat)) (t x : Te), pathE p → sizeE (plugE x p) + sizeE t = sizeE (plugE t p) + sizeE x
  | [], t, x, _ => by simp only [plugE]; omega
  | (u, i) :: p, t, x, hp => by
    have h1 := hp (u, i) (by simp)
    have h2 := size_plug p (setE u i t) (setE u i x) (fun e he => hp e (by simp [he]))
    have h3 := sizeEL_set u.parts i t h1.2
    have h4 := sizeEL_set u.parts i x h1.2
    simp only [plugE]
    have e : ∀ y, sizeE (setE u i y) = sizeEL (u.parts.set i y) + 1 := fun y => by rw [setE, sizeE]
    rw [e, e] at h2
    omega
end Lx
end Go.Proofs.Ytgnafcnokenogaa
namespace Go.Proofs.Ytgnafcnokenogaa
namespace Lx
theorem byte_ext {s t : ByteArray} (h : s.data.toList = t.data.toList) : s = t := by
  obtain ⟨⟨a⟩⟩ := s
  obtain ⟨⟨b⟩⟩ := t
  simp at h
  rw [h]
end Lx
end Go.Proofs.Ytgnafcnokenogaa
namespace Go.Proofs.Ytgnafcnokenogaa
open Go.RowKit
namespace Lx
set_option maxRecDepth 100000
theorem strE_q (s t : ByteArray) : (s.toList == t.toList) = decide (s = t) := by
  rw [Bool.eq_iff_iff, beq_iff_eq, decide_eq_true_eq]
  refine ⟨fun e => Classical.byContradiction fun h => ?_, fun e => by rw [e]⟩
  rw [data_list, data_list] at e
  exact h (byte_ext e)
theorem gives_leaf (k n : Int) (s : ByteArray) (w w' : World) (hs : s.size ≤ 140737488351232) (h0 : -9223372036854775808 ≤ n) (h1 : n ≤ 9223372036854775807) (hb : Below w.heap.size w w') : GivesE (.node k n s []) w (.returned (.agg #[.int .i64 k, .int .i64 n, .string s, .slice none 0 0])) w' :=
  ⟨none, 0, rfl, ein_mk hs h0 h1 (by simp) (by rw [ELIn]; trivial), hb⟩
/-- What a function of two results answers: a term, and what the step is. -/
def GivesS (t : Te) (x : Int) (w : World) (e : Ending) (w' : World) : Prop :=
  ∃ A c, e = .returned (.tuple #[ev t A c, .int .i64 x]) ∧ EIn w' (fun g => w.heap.size ≤ g) t A ∧ Below w.heap.size w w'
theorem wrap_in (a : Int) : -9223372036854775808 ≤ wrapI a ∧ wrapI a ≤ 9223372036854775807 := by unfold wrapI; omega
end Lx
end Go.Proofs.Ytgnafcnokenogaa
namespace Go.Proofs.Ytgnafcnokenogaa
open Go.RowKit
namespace Lx
set_option maxRecDepth 100000
theorem wrapI_64 (x : Int) : wrapI x = wrap64 x := by unfold wrapI wrap64; omega
theorem upE_zero : ∀ (t : Te) (K M : Int), tameE K M t → ∀ b : Int, chE (upF 0) t b = t := by
  intro t K M
  refine Te.rec (motive_1 := fun t => tameE K M t → ∀ b : Int, chE (upF 0) t b = t) (motive_2 := fun l => tameEL K M l → ∀ b : Int, chEL (upF 0) l b = l) ?_ ?_ ?_ t
  · intro k n s l ih h b
    rw [tameE] at h
    rw [chE]
    split
    · rename_i hk
      subst hk
      rw [(h.1 rfl).2.2, upF, Int.add_zero, ite_self]
    · rw [ih h.2.2]
  · intro _ b; rw [chEL]
  · intro a r iha ihr h b
    rw [tameEL] at h
    rw [chEL, iha h.1, ihr h.2]
/-- The part that a term waits for, and if it waits for one. -/
def WaitP (o : Option Nat) (e : Ending) : Prop := match o with
  | some i => e = .returned (.tuple #[.int .i64 i, .bool true])
  | none => ∃ i : Int, e = .returned (.tuple #[.int .i64 i, .bool false])
theorem wait_val {o : Option Nat} {i : Nat} {b : Bool} (h : o = if b then none else some i) : WaitP o (.returned (.tuple #[.int .i64 i, .bool (!b)])) := by
  subst h
  cases b with
  | true => exact ⟨_, rfl⟩
  | false => exact rfl
end Lx
end Go.Proofs.Ytgnafcnokenogaa
namespace Go.Proofs.Ytgnafcnokenogaa
open Go.RowKit
namespace Lx
set_option maxRecDepth 100000
/-- Terms that lie in a row: their cells. -/
theorem row_cells {w : World} {X : Nat → Prop} {g o : Nat} : ∀ (l : List Te) (j : Nat), ELIn w X l (some ⟨g, o, none⟩) j → ∃ xs, RowTe w X l xs ∧ (∀ i u, xs[i]? = some u → w.cell? ⟨g, o + j * 4 + i, none⟩ = some u) ∧ ∀ u ∈ xs, u.oneCell' = true
  | [], j, _ => ⟨[], RowTe.nil w X, fun i u h => by simp at h, fun u h => by simp at h⟩
  | t :: r, j, h => by
    rw [ELIn] at h
    obtain ⟨⟨g', o', A', c, ⟨hA, hX⟩, h0, h1, h2, h3, ht⟩, hr⟩ := h
    cases hA
    obtain ⟨ys, hy, hc, ho⟩ := row_cells r (j + 1) hr
    refine ⟨cellsE t A' c ++ ys, ⟨by rw [List.length_append, hy.1, cellsE_length, List.length_cons]; omega, fun i hi => ?_⟩, fun i u hu => ?_, fun u hu => ?_⟩
    · cases i with
      | zero =>
        refine ⟨A', c, fun q hq => ?_, ht⟩
        rw [Nat.zero_mul, Nat.zero_add, List.getElem?_append_left (by rw [cellsE_length]; exact hq)]
        rfl
      | succ i =>
        obtain ⟨A2, c2, h4, h5⟩ := hy.2 i (by simpa using hi)
        refine ⟨A2, c2, fun q hq => ?_, h5⟩
        rw [List.getElem?_append_right (by rw [cellsE_length]; omega), cellsE_length, show (i + 1) * 4 + q - 4 = i * 4 + q by omega]
        exact h4 q hq
    · by_cases hi : i < 4
      · rw [List.getElem?_append_left (by rw [cellsE_length]; exact hi)] at hu
        rcases (by omega : i = 0 ∨ i = 1 ∨ i = 2 ∨ i = 3) with rfl | rfl | rfl | rfl <;> (cases hu; assumption)
      · rw [List.getElem?_append_right (by rw [cellsE_length]; omega), cellsE_length] at hu
        have := hc (i - 4) u hu
        rw [show o + (j + 1) * 4 + (i - 4) = o + j * 4 + i by omega] at this
        exact this
    · rcases List.mem_append.1 hu with hu | hu
      · simp only [cellsE, List.mem_cons, List.not_mem_nil, or_false] at hu
        rcases hu with rfl | rfl | rfl | rfl <;> rfl
      · exact ho u hu
end Lx
end Go.Proofs.Ytgnafcnokenogaa
namespace Go.Proofs.Ytgnafcnokenogaa
open Go.RowKit
namespace Lx
set_option maxRecDepth 100000
/-- Off the boxes g and r, and off the row that begins at B. -/
def OffG (g r : Nat) (B : Option Addr) : Nat → Prop := fun b => b ≠ g ∧ b ≠ r ∧ ∀ a, B = some a → b ≠ a.block
/-- The five cells of what is around a part. -/
def cellsP (e : Te × Nat) (A : Option Addr) (c : Nat) : List Value := cellsE e.1 A c ++ [.int .i64 (e.2 : Int)]
theorem cellsP_length (e : Te × Nat) (A : Option Addr) (c : Nat) : (cellsP e A c).length = 5 := rfl
def RowP (w : World) (X : Nat → Prop) (q : List (Te × Nat)) (xs : List Value) : Prop :=
  xs.length = q.length * 5 ∧ ∀ (j : Nat) (hj : j < q.length), ∃ A c, (∀ r, r < 5 → xs[j * 5 + r]? = (cellsP (q[j]'hj) A c)[r]?) ∧ EIn w X (q[j]'hj).1 A
theorem RowP.nil (w : World) (X : Nat → Prop) : RowP w X [] [] := ⟨rfl, fun j hj => by simp at hj⟩
theorem RowP.keep {w w' : World} {X Y : Nat → Prop} {q : List (Te × Nat)} {xs : List Value} (h : RowP w X q xs) (hk : ∀ g j, X g → g < w.heap.size → w'.cell? ⟨g, j, none⟩ = w.cell? ⟨g, j, none⟩ ∧ Y g) : RowP w' Y q xs :=
  ⟨h.1, fun j hj => by
    obtain ⟨A, c, hc, ht⟩ := h.2 j hj
    exact ⟨A, c, hc, EIn.keep _ ht hk⟩⟩
theorem RowP.snoc {w : World} {X : Nat → Prop} {q : List (Te × Nat)} {xs : List Value} (h : RowP w X q xs) {e : Te × Nat} {A : Option Addr} {c : Nat} (ht : EIn w X e.1 A) : RowP w X (q ++ [e]) (xs ++ cellsP e A c) := by
  refine ⟨by simp [h.1, cellsP_length]; omega, fun j hj => ?_⟩
  rcases Nat.lt_or_ge j q.length with hlt | hge
  · obtain ⟨A', c', hc, ht'⟩ := h.2 j hlt
    rw [List.getElem_append_left hlt]
    refine ⟨A', c', fun r hr => ?_, ht'⟩
    rw [List.getElem?_append_left (by rw [h.1]; omega)]
    exact hc r hr
  · have hj' : j = q.length := by simp at hj; omega
    subst hj'
    rw [List.getElem_append_right (Nat.le_refl _)]
    simp only [Nat.sub_self, List.getElem_singleton]
    refine ⟨A, c, fun r hr => ?_, ht⟩
    rw [List.getElem?_append_right (by rw [h.1]; omega), h.1]
    congr 1
    omega
theorem RowP.front {w : World} {X : Nat → Prop} {q : List (Te × Nat)} {e : Te × Nat} {xs : List Value} (h : RowP w X (q ++ [e]) xs) : RowP w X q (xs.take (q.length * 5)) := by
  have hl : xs.length = (q.length + 1) * 5 := by have := h.1; simpa using this
  refine ⟨by rw [List.length_take]; omega, fun j hj => ?_⟩
  obtain ⟨A, c, hc, ht⟩ := h.2 j (by simp; omega)
  rw [List.getElem_append_left hj] at hc ht
  refine ⟨A, c, fun r hr => ?_, ht⟩
  rw [List.getElem?_take_of_lt (by omega)]
  exact hc r hr
/-- A term that lies in a block known whole, and in whose place number i another one is laid. -/
theorem elin_put {w : World} {X0 X1 : Nat → Prop} {l : List Te} {ga : Nat} {cur : Array Value} (hL : Lies w ga 24 cur) (hx : RowTe w X0 l (cur.toList.take (l.length * 4))) (hsz : l.length * 4 ≤ cur.size) (i : Nat) (hi : i < l.length) {t : Te} {A : Option Addr} {c : Nat} (ht : EIn w X0 t A) (h0 : ¬ X0 ga) (h1 : X1 ga) (h01 : ∀ b, X0 b → X1 b) :
    ELIn (w.setCells ga (i * 4) [.int .i64 t.kind, .int .i64 t.n, .string t.name, .slice A t.parts.length (capF t.parts.length c)]) X1 (l.set i t) (some ⟨ga, 0, none⟩) 0 := by
  show ELIn ((((w.setCell ⟨ga, i * 4, none⟩ (.int .i64 t.kind)).setCell ⟨ga, i * 4 + 1, none⟩ (.int .i64 t.n)).setCell ⟨ga, i * 4 + 2, none⟩ (.string t.name)).setCell ⟨ga, i * 4 + 3, none⟩ (.slice A t.parts.length (capF t.parts.length c))) X1 (l.set i t) (some ⟨ga, 0, none⟩) 0
  have hX : ∀ p : Addr, p.block = ga → ¬ X0 p.block := fun p e => by rw [e]; exact h0
  have k1 : ∀ u B, EIn w X0 u B → EIn ((((w.setCell ⟨ga, i * 4, none⟩ (.int .i64 t.kind)).setCell ⟨ga, i * 4 + 1, none⟩ (.int .i64 t.n)).setCell ⟨ga, i * 4 + 2, none⟩ (.string t.name)).setCell ⟨ga, i * 4 + 3, none⟩ (.slice A t.parts.length (capF t.parts.length c))) X1 u B := fun u B h =>
    EIn.wide _ (EIn.setCell _ (EIn.setCell _ (EIn.setCell _ (EIn.setCell _ h ⟨ga, i * 4, none⟩ _ (hX _ rfl)) ⟨ga, i * 4 + 1, none⟩ _ (hX _ rfl)) ⟨ga, i * 4 + 2, none⟩ _ (hX _ rfl)) ⟨ga, i * 4 + 3, none⟩ _ (hX _ rfl)) (fun b hb _ => h01 b hb)
  have L3 := (((hL.put (i * 4) (.int .i64 t.kind)).put (i * 4 + 1) (.int .i64 t.n)).put (i * 4 + 2) (.string t.name)).put (i * 4 + 3) (.slice A t.parts.length (capF t.parts.length c))
  refine ELIn.mk _ 0 fun j hj => ?_
  have hjl : j < l.length := by simpa using hj
  by_cases e : j = i
  · subst e
    refine ⟨ga, 0, A, c, ⟨rfl, h1⟩, ?_, ?_, ?_, ?_, ?_⟩
    · rw [L3.cell]; simp [Array.getElem?_setIfInBounds]; omega
    · rw [L3.cell]; simp [Array.getElem?_setIfInBounds]; omega
    · rw [L3.cell]; simp [Array.getElem?_setIfInBounds]; omega
    · rw [L3.cell]; simp [Array.getElem?_setIfInBounds]; omega
    · simpa using k1 _ _ ht
  · obtain ⟨A', c', hc, he⟩ := hx.2 j hjl
    have hg : (l.set i t)[j]'hj = l[j]'hjl := by rw [List.getElem_set_ne (fun e' => e e'.symm)]
    rw [hg]
    have hq : ∀ q, q < 4 → cur[j * 4 + q]? = (cellsE (l[j]'hjl) A' c')[q]? := fun q hq => by
      have := hc q hq
      rw [List.getElem?_take_of_lt (by omega)] at this
      simpa using this
    have n00 : ¬ i * 4 = j * 4 := by omega
    have n01 : ¬ i * 4 = j * 4 + 1 := by omega
    have n02 : ¬ i * 4 = j * 4 + 2 := by omega
    have n03 : ¬ i * 4 = j * 4 + 3 := by omega
    have n10 : ¬ i * 4 + 1 = j * 4 := by omega
    have n12 : ¬ i * 4 + 1 = j * 4 + 2 := by omega
    have n13 : ¬ i * 4 + 1 = j * 4 + 3 := by omega
    have n20 : ¬ i * 4 + 2 = j * 4 := by omega
    have n21 : ¬ i * 4 + 2 = j * 4 + 1 := by omega
    have n23 : ¬ i * 4 + 2 = j * 4 + 3 := by omega
    have n30 : ¬ i * 4 + 3 = j * 4 := by omega
    have n31 : ¬ i * 4 + 3 = j * 4 + 1 := by omega
    have n32 : ¬ i * 4 + 3 = j * 4 + 2 := by omega
    refine ⟨ga, 0, A', c', ⟨rfl, h1⟩, ?_, ?_, ?_, ?_, k1 _ _ he⟩
    · rw [L3.cell]; simp [n00, n10, n20, n30]; exact (hq 0 (by omega)).trans rfl
    · rw [L3.cell]; simp [n00, n01, n21, n31]; exact (hq 1 (by omega)).trans rfl
    · rw [L3.cell]; simp [n00, n01, n02, n32]; exact (hq 2 (by omega)).trans rfl
    · rw [L3.cell]; simp [n00, n01, n02, n03]; exact (hq 3 (by omega)).trans rfl
end Lx
end Go.Proofs.Ytgnafcnokenogaa
namespace Go.Proofs.Ytgnafcnokenogaa
open Go.RowKit
namespace Lx
set_option maxRecDepth 100000
theorem res_none {fn : Func} (h : fn.results = #[]) {tmps : Array Value} {w : World} : (results fn tmps).run Try.prog w = .ok (.tuple #[]) w := by
  simp only [results, h]
  simp
theorem there_mid {w : World} {g n o : Nat} {t : TypeId} {cs : Array Value} (h : Lies w g t cs) (hn : o + n ≤ cs.size) : w.there g o n := fun k hk => by
  have hlt : o + k < cs.size := by omega
  exact ⟨by rw [h.cell (o + k), Array.getElem?_eq_getElem hlt]; rfl, h.frozen _⟩
theorem heap_cells (w : World) (g b : Nat) (hb : b ≠ g) : ∀ (vs : List Value) (o : Nat), (w.setCells g o vs).heap[b]? = w.heap[b]? := by
  intro vs
  induction vs generalizing w with
  | nil => intro o; rfl
  | cons v vs ih =>
    intro o
    show ((w.setCell ⟨g, o, none⟩ v).setCells g (o + 1) vs).heap[b]? = _
    rw [ih]
    exact Below.heap_setCell w ⟨g, o, none⟩ v b (fun e => hb (by rw [e]))
theorem own_heap {w w' : World} {base : Nat} {e : TypeId} {size : Nat} {v : Value} {n : Nat} {xs : List Value} (h : w.ownsRow base e size v n xs) (hb : ∀ k, v.ownBlock = some k → w'.heap[k]? = w.heap[k]?) :
    (v = .slice none 0 0 ∧ n = 0) ∨ ∃ g cap cur, v = .slice (some ⟨g, 0, none⟩) n cap ∧ base ≤ g ∧ w'.heap[g]? = some (.cells cur e (0, 0)) ∧ n ≤ cap ∧ cap ≤ maxLen ∧ cur.size = cap * size ∧ cur.toList.take (n * size) = xs := by
  rcases h.2 with h1 | ⟨g, cap, cur, hv, h2, hg, h3⟩
  · exact .inl h1
  · exact .inr ⟨g, cap, cur, hv, h2, (hb g (by rw [hv]; rfl)).trans hg, h3⟩
theorem own_cur {w : World} {base g : Nat} {n c : Nat} {xs : List Value} (h : w.ownsRow base 24 4 (.slice (some ⟨g, 0, none⟩) n c) n xs) : ∃ cur, n ≤ c ∧ Lies w g 24 cur ∧ n * 4 ≤ cur.size ∧ cur.toList.take (n * 4) = xs := by
  rcases h.2 with ⟨hv, _⟩ | ⟨g', cap, cur, hv, h2, hg, h3, _, h4, h5⟩
  · cases hv
  · cases hv
    exact ⟨cur, h3, hg, by omega, h5⟩
end Lx
end Go.Proofs.Ytgnafcnokenogaa
namespace Go.Proofs.Ytgnafcnokenogaa
open Go.RowKit
namespace Lx
set_option maxRecDepth 100000
theorem cell_offs (w : World) (g b : Nat) (hb : b ≠ g) (vs : List Value) (o j : Nat) : (w.setCells g o vs).cell? ⟨b, j, none⟩ = w.cell? ⟨b, j, none⟩ :=
  World.cell?_of_block (a := ⟨b, j, none⟩) (heap_cells w g b hb vs o)
theorem gives_allS {u : Te} {x : Int} {A2 : Option Addr} {c2 : Nat} {w W w2 : World} {g : Nat} (hT : EIn w2 (fun b => W.heap.size ≤ b) u A2) (h0 : w.heap.size ≤ g) (h1 : g < W.heap.size) (hb : Below w.heap.size w w2) (a b c d : Value) :
    GivesS u x w (.returned (.tuple #[ev u A2 c2, .int .i64 x])) ((((w2.setCell ⟨g, 0, none⟩ a).setCell ⟨g, 1, none⟩ b).setCell ⟨g, 2, none⟩ c).setCell ⟨g, 3, none⟩ d) := by
  obtain ⟨A, c', he, h2, h3⟩ := gives_all (c2 := c2) hT h0 h1 hb a b c d
  exact ⟨A2, c2, rfl, by
    refine EIn.keep _ hT fun g' j hX _ => ?_
    have hX' : W.heap.size ≤ g' := hX
    have hne : ∀ q, (⟨g, q, none⟩ : Addr) ≠ ⟨g', j, none⟩ := fun q e => by injection e with e; omega
    refine ⟨?_, by have := hb.size; omega⟩
    rw [World.cell?_setCell_other _ _ _ _ (hne _), World.cell?_setCell_other _ _ _ _ (hne _), World.cell?_setCell_other _ _ _ _ (hne _), World.cell?_setCell_other _ _ _ _ (hne _)], h3⟩
def FineT (t : Te) : Prop := depthE t ≤ 12000 ∧ sizeE t ≤ 1000000000000 ∧ tameE 1099511627776 1099511627776 t
end Lx
end Go.Proofs.Ytgnafcnokenogaa
namespace Go.Proofs.Ytgnafcnokenogaa
open Go.RowKit
namespace Lx
set_option maxRecDepth 100000
theorem rvalue_any (k n : Int) (s : ByteArray) (A : Option Addr) (m c : Nat) (w : World) :
    Calls Try.prog 36 #[.agg #[.int .i64 k, .int .i64 n, .string s, .slice A m c]] w fun e w' => e = .returned (.bool (valK k)) ∧ Below w.heap.size w w' := by
  have hb : Below w.heap.size w (w.alloc (.cells #[.int .i64 k, .int .i64 n, .string s, .slice A m c] 24)) := (Below.refl _ w).alloc (Nat.le_refl _) _
  rcases (by omega : k = 2 ∨ k = 4 ∨ k = 7 ∨ k = 9 ∨ (k ≠ 2 ∧ k ≠ 4 ∧ k ≠ 7 ∧ k ≠ 9)) with rfl | rfl | rfl | rfl | ⟨h2, h4, h7, h9⟩
  · go_enter Try.func36, Try.ntmps36
    go_wp2_with fail
    go_ret
    exact ⟨rfl, hb⟩
  · go_enter Try.func36, Try.ntmps36
    go_wp2_with fail
    go_ret
    exact ⟨rfl, hb⟩
  · go_enter Try.func36, Try.ntmps36
    go_wp2_with fail
    go_ret
    exact ⟨rfl, hb⟩
  · go_enter Try.func36, Try.ntmps36
    go_wp2_with fail
    go_ret
    exact ⟨rfl, hb⟩
  · have e2 : (k == 2) = false := by simpa using h2
    have e4 : (k == 4) = false := by simpa using h4
    have e7 : (k == 7) = false := by simpa using h7
    have e9 : (k == 9) = false := by simpa using h9
    have HE : Hid (valK k = false) := Lib.hid (by simp [valK, h2, h4, h7, h9])
    clear h2 h4 h7 h9
    go_enter Try.func36, Try.ntmps36
    go_wp2_with fail
    go_ret
    exact ⟨ret_bool HE.out.symm, hb⟩
theorem rfail_any (w : World) : Calls Try.prog 40 #[] w (GivesS failE 4 w) := by
  go_enter Try.func40, Try.ntmps40
  go_wp2_with fail
  exact bodyPost_ret (res_term2 (p := 0) (q := 1) Try.results40 rfl (Lies.new w _ _)) rfl ⟨none, 0, rfl, ein_mk (by decide) (by decide) (by decide) (by simp) (by rw [ELIn]; trivial), (Below.refl _ w).alloc (Nat.le_refl _) _⟩
theorem rnumN_any (n : Int) (w : World) (h0 : -9223372036854775808 ≤ n) (h1 : n ≤ 9223372036854775807) : Calls Try.prog 50 #[.int .i64 n] w (GivesS (numE n) 3 w) := by
  go_enter Try.func50, Try.ntmps50
  go_wp2_with fail
  exact bodyPost_ret (res_term2 (p := 2) (q := 3) Try.results50 rfl (Lies.new w _ _)) rfl ⟨none, 0, rfl, ein_mk (by decide) h0 h1 (by simp) (by rw [ELIn]; trivial), (Below.refl _ w).alloc (Nat.le_refl _) _⟩
def opR (s : ByteArray) (a b : Int) : Te × Int := if s = ⟨#[47]⟩ ∧ b = 0 then (failE, 4) else (opE s a b, 3)
set_option maxHeartbeats 4000000 in
theorem rop_any (s : ByteArray) (a b : Int) (w : World) (_ha0 : -9223372036854775808 ≤ a) (_ha1 : a ≤ 9223372036854775807) (_hb0 : -9223372036854775808 ≤ b) (_hb1 : b ≤ 9223372036854775807) (hs : s = ⟨#[43]⟩ ∨ s = ⟨#[45]⟩ ∨ s = ⟨#[42]⟩ ∨ s = ⟨#[47]⟩ ∨ s = ⟨#[60]⟩ ∨ s = ⟨#[61, 61]⟩) :
    Calls Try.prog 41 #[.string s, .int .i64 a, .int .i64 b] w (GivesS (opR s a b).1 (opR s a b).2 w) := by
  have hb : Below w.heap.size w (w.alloc (.cells #[.int .i64 0, .int .i64 0, .string ⟨#[]⟩, .slice none 0 0] 24)) := (Below.refl _ w).alloc (Nat.le_refl _) _
  have lz : Lies (w.alloc (.cells #[.int .i64 0, .int .i64 0, .string ⟨#[]⟩, .slice none 0 0] 24)) w.heap.size 24 #[.int .i64 0, .int .i64 0, .string ⟨#[]⟩, .slice none 0 0] := Lies.new _ _ _
  rcases hs with rfl | rfl | rfl | rfl | rfl | rfl
  · have HE : Hid (opR ⟨#[43]⟩ a b = (numE (wrapI (a + b)), 3)) := Lib.hid (by rw [opR, if_neg (fun h => absurd h.1 (by decide)), opE, if_pos rfl])
    obtain ⟨T, hU⟩ : ∃ T, T = numE (wrapI (a + b)) := ⟨_, rfl⟩
    have HC := Lib.hid (rnumN_any (wrapI (a + b)) (w.alloc (.cells #[.int .i64 0, .int .i64 0, .string ⟨#[]⟩, .slice none 0 0] 24)) (wrap_in _).1 (wrap_in _).2)
    rw [← hU] at HC HE
    clear hU
    obtain ⟨uk, un, us, ul⟩ := T
    try simp only [wrapI_64] at HC
    go_enter Try.func41, Try.ntmps41
    go_wp2_with fail
    refine HC.out.mono ?_
    rintro e w2 ⟨A2, c2, rfl, hT, hb2⟩
    simp only [ev, Te.kind, Te.n, Te.name, Te.parts]
    have lz2 := lz.below hb2 lz.lt
    have hbw := hb.trans (hb2.mono hb.size)
    obtain ⟨⟨x0, x1, x2, x3⟩, g0, g1, g2, g3⟩ := lz2.four
    have HT := Lib.hid hT
    have HW := Lib.hid hbw
    clear hT hb2 hbw hb HC
    go_wp2_with fail
    refine bodyPost_ret (res_term2 (p := 6) (q := 7) Try.results41 rfl (lz2.all _ _ _ _)) rfl ?_
    rw [HE.out]
    exact gives_allS HT.out (Nat.le_refl _) lz.lt HW.out _ _ _ _
  · have HE : Hid (opR ⟨#[45]⟩ a b = (numE (wrapI (a - b)), 3)) := Lib.hid (by rw [opR, if_neg (fun h => absurd h.1 (by decide)), opE, if_neg (by decide), if_pos rfl])
    obtain ⟨T, hU⟩ : ∃ T, T = numE (wrapI (a - b)) := ⟨_, rfl⟩
    have HC := Lib.hid (rnumN_any (wrapI (a - b)) (w.alloc (.cells #[.int .i64 0, .int .i64 0, .string ⟨#[]⟩, .slice none 0 0] 24)) (wrap_in _).1 (wrap_in _).2)
    rw [← hU] at HC HE
    clear hU
    obtain ⟨uk, un, us, ul⟩ := T
    try simp only [wrapI_64] at HC
    go_enter Try.func41, Try.ntmps41
    go_wp2_with fail
    refine HC.out.mono ?_
    rintro e w2 ⟨A2, c2, rfl, hT, hb2⟩
    simp only [ev, Te.kind, Te.n, Te.name, Te.parts]
    have lz2 := lz.below hb2 lz.lt
    have hbw := hb.trans (hb2.mono hb.size)
    obtain ⟨⟨x0, x1, x2, x3⟩, g0, g1, g2, g3⟩ := lz2.four
    have HT := Lib.hid hT
    have HW := Lib.hid hbw
    clear hT hb2 hbw hb HC
    go_wp2_with fail
    refine bodyPost_ret (res_term2 (p := 6) (q := 7) Try.results41 rfl (lz2.all _ _ _ _)) rfl ?_
    rw [HE.out]
    exact gives_allS HT.out (Nat.le_refl _) lz.lt HW.out _ _ _ _
  · have HE : Hid (opR ⟨#[42]⟩ a b = (numE (wrapI (a * b)), 3)) := Lib.hid (by rw [opR, if_neg (fun h => absurd h.1 (by decide)), opE, if_neg (by decide), if_neg (by decide), if_pos rfl])
    obtain ⟨T, hU⟩ : ∃ T, T = numE (wrapI (a * b)) := ⟨_, rfl⟩
    have HC := Lib.hid (rnumN_any (wrapI (a * b)) (w.alloc (.cells #[.int .i64 0, .int .i64 0, .string ⟨#[]⟩, .slice none 0 0] 24)) (wrap_in _).1 (wrap_in _).2)
    rw [← hU] at HC HE
    clear hU
    obtain ⟨uk, un, us, ul⟩ := T
    try simp only [wrapI_64] at HC
    go_enter Try.func41, Try.ntmps41
    go_wp2_with fail
    refine HC.out.mono ?_
    rintro e w2 ⟨A2, c2, rfl, hT, hb2⟩
    simp only [ev, Te.kind, Te.n, Te.name, Te.parts]
    have lz2 := lz.below hb2 lz.lt
    have hbw := hb.trans (hb2.mono hb.size)
    obtain ⟨⟨x0, x1, x2, x3⟩, g0, g1, g2, g3⟩ := lz2.four
    have HT := Lib.hid hT
    have HW := Lib.hid hbw
    clear hT hb2 hbw hb HC
    go_wp2_with fail
    refine bodyPost_ret (res_term2 (p := 6) (q := 7) Try.results41 rfl (lz2.all _ _ _ _)) rfl ?_
    rw [HE.out]
    exact gives_allS HT.out (Nat.le_refl _) lz.lt HW.out _ _ _ _
  · by_cases hz : b = 0
    · have HE : Hid (opR ⟨#[47]⟩ a b = (failE, 4)) := Lib.hid (by rw [opR, if_pos ⟨rfl, hz⟩])
      have hz1 : (b == 0) = true := by simp [hz]
      have hz2 : decide (b = 0) = true := by simp [hz]
      clear hz
      obtain ⟨T, hU⟩ : ∃ T, T = failE := ⟨_, rfl⟩
      have HC := Lib.hid (rfail_any (w.alloc (.cells #[.int .i64 0, .int .i64 0, .string ⟨#[]⟩, .slice none 0 0] 24)))
      rw [← hU] at HC HE
      clear hU
      obtain ⟨uk, un, us, ul⟩ := T
      try simp only [wrapI_64] at HC
      go_enter Try.func41, Try.ntmps41
      go_wp2_with fail
      refine HC.out.mono ?_
      rintro e w2 ⟨A2, c2, rfl, hT, hb2⟩
      simp only [ev, Te.kind, Te.n, Te.name, Te.parts]
      have lz2 := lz.below hb2 lz.lt
      have hbw := hb.trans (hb2.mono hb.size)
      obtain ⟨⟨x0, x1, x2, x3⟩, g0, g1, g2, g3⟩ := lz2.four
      have HT := Lib.hid hT
      have HW := Lib.hid hbw
      clear hT hb2 hbw hb HC
      go_wp2_with fail
      refine bodyPost_ret (res_term2 (p := 6) (q := 7) Try.results41 rfl (lz2.all _ _ _ _)) rfl ?_
      rw [HE.out]
      exact gives_allS HT.out (Nat.le_refl _) lz.lt HW.out _ _ _ _
    · by_cases h7 : b = -1
      · have HE : Hid (opR ⟨#[47]⟩ a b = (numE (wrapI (a.tdiv b)), 3)) := Lib.hid (by rw [opR, if_neg (fun h => hz h.2), opE, if_neg (by decide), if_neg (by decide), if_neg (by decide), if_pos rfl])
        have hq : wrapI (a.tdiv b) = wrap64 (-a) := by rw [h7, wrapI_64, Int.tdiv_neg, Int.tdiv_one]
        have h8 : (b == -1) = true := by simp [h7]
        have h9 : decide (b = -1) = true := by simp [h7]
        have z8 : (b == 0) = false := by simpa using hz
        clear h7 hz
        obtain ⟨T, hU⟩ : ∃ T, T = numE (wrapI (a.tdiv b)) := ⟨_, rfl⟩
        have HC := Lib.hid (rnumN_any (wrapI (a.tdiv b)) (w.alloc (.cells #[.int .i64 0, .int .i64 0, .string ⟨#[]⟩, .slice none 0 0] 24)) (wrap_in _).1 (wrap_in _).2)
        rw [hq] at HC HE hU
        rw [← hU] at HC HE
        clear hU
        obtain ⟨uk, un, us, ul⟩ := T
        try simp only [wrapI_64] at HC
        go_enter Try.func41, Try.ntmps41
        go_wp2_with fail
        refine HC.out.mono ?_
        rintro e w2 ⟨A2, c2, rfl, hT, hb2⟩
        simp only [ev, Te.kind, Te.n, Te.name, Te.parts]
        have lz2 := lz.below hb2 lz.lt
        have hbw := hb.trans (hb2.mono hb.size)
        obtain ⟨⟨x0, x1, x2, x3⟩, g0, g1, g2, g3⟩ := lz2.four
        have HT := Lib.hid hT
        have HW := Lib.hid hbw
        clear hT hb2 hbw hb HC
        go_wp2_with fail
        refine bodyPost_ret (res_term2 (p := 6) (q := 7) Try.results41 rfl (lz2.all _ _ _ _)) rfl ?_
        rw [HE.out]
        exact gives_allS HT.out (Nat.le_refl _) lz.lt HW.out _ _ _ _
      · have HE : Hid (opR ⟨#[47]⟩ a b = (numE (wrapI (a.tdiv b)), 3)) := Lib.hid (by rw [opR, if_neg (fun h => hz h.2), opE, if_neg (by decide), if_neg (by decide), if_neg (by decide), if_pos rfl])
        have h8 : (b == -1) = false := by simpa using h7
        have z8 : (b == 0) = false := by simpa using hz
        obtain ⟨T, hU⟩ : ∃ T, T = numE (wrapI (a.tdiv b)) := ⟨_, rfl⟩
        have HC := Lib.hid (rnumN_any (wrapI (a.tdiv b)) (w.alloc (.cells #[.int .i64 0, .int .i64 0, .string ⟨#[]⟩, .slice none 0 0] 24)) (wrap_in _).1 (wrap_in _).2)
        rw [← hU] at HC HE
        clear hU
        obtain ⟨uk, un, us, ul⟩ := T
        try simp only [wrapI_64] at HC
        go_enter Try.func41, Try.ntmps41
        go_wp2_with fail
        refine HC.out.mono ?_
        rintro e w2 ⟨A2, c2, rfl, hT, hb2⟩
        simp only [ev, Te.kind, Te.n, Te.name, Te.parts]
        have lz2 := lz.below hb2 lz.lt
        have hbw := hb.trans (hb2.mono hb.size)
        obtain ⟨⟨x0, x1, x2, x3⟩, g0, g1, g2, g3⟩ := lz2.four
        have HT := Lib.hid hT
        have HW := Lib.hid hbw
        clear hT hb2 hbw hb HC
        go_wp2_with fail
        refine bodyPost_ret (res_term2 (p := 6) (q := 7) Try.results41 rfl (lz2.all _ _ _ _)) rfl ?_
        rw [HE.out]
        exact gives_allS HT.out (Nat.le_refl _) lz.lt HW.out _ _ _ _
  · by_cases hab : a < b
    · have hd1 : decide (a < b) = true := by simp [hab]
      have hd2 : (decide (a < b)) = true := by simp [hab]
      clear hab
      have HE : Hid (opR ⟨#[60]⟩ a b = (Te.node 4 0 ⟨#[84, 114, 117, 101]⟩ [], 3)) := Lib.hid (by rw [opR, if_neg (fun h => absurd h.1 (by decide)), opE, if_neg (by decide), if_neg (by decide), if_neg (by decide), if_neg (by decide), if_pos rfl, hd1]; rfl)
      have HW := Lib.hid hb
      obtain ⟨⟨x0, x1, x2, x3⟩, g0, g1, g2, g3⟩ := lz.four
      clear hb
      go_enter Try.func41, Try.ntmps41
      go_upto_region 15 with fail
      generalize (w.alloc (.cells #[.int .i64 0, .int .i64 0, .string ⟨#[]⟩, .slice none 0 0] 24)) = V at *
      go_wp2_with fail
      refine bodyPost_ret (res_term2 (p := 6) (q := 7) Try.results41 rfl (lz.all _ _ _ _)) rfl ?_
      rw [HE.out]
      exact gives_allS (A2 := none) (c2 := 0) (W := V) (ein_mk (by decide) (by decide) (by decide) (by simp) (by rw [ELIn]; trivial)) (Nat.le_refl _) lz.lt HW.out _ _ _ _
    · have hd1 : decide (a < b) = false := by simp [hab]
      have hd2 : (decide (a < b)) = false := by simp [hab]
      clear hab
      have HE : Hid (opR ⟨#[60]⟩ a b = (Te.node 4 0 ⟨#[70, 97, 108, 115, 101]⟩ [], 3)) := Lib.hid (by rw [opR, if_neg (fun h => absurd h.1 (by decide)), opE, if_neg (by decide), if_neg (by decide), if_neg (by decide), if_neg (by decide), if_pos rfl, hd1]; rfl)
      have HW := Lib.hid hb
      obtain ⟨⟨x0, x1, x2, x3⟩, g0, g1, g2, g3⟩ := lz.four
      clear hb
      go_enter Try.func41, Try.ntmps41
      go_upto_region 16 with fail
      generalize (w.alloc (.cells #[.int .i64 0, .int .i64 0, .string ⟨#[]⟩, .slice none 0 0] 24)) = V at *
      go_wp2_with fail
      refine bodyPost_ret (res_term2 (p := 6) (q := 7) Try.results41 rfl (lz.all _ _ _ _)) rfl ?_
      rw [HE.out]
      exact gives_allS (A2 := none) (c2 := 0) (W := V) (ein_mk (by decide) (by decide) (by decide) (by simp) (by rw [ELIn]; trivial)) (Nat.le_refl _) lz.lt HW.out _ _ _ _
  · by_cases hab : a = b
    · have hd1 : decide (a = b) = true := by simp [hab]
      have hd2 : (a == b) = true := by simp [hab]
      clear hab
      have HE : Hid (opR ⟨#[61, 61]⟩ a b = (Te.node 4 0 ⟨#[84, 114, 117, 101]⟩ [], 3)) := Lib.hid (by rw [opR, if_neg (fun h => absurd h.1 (by decide)), opE, if_neg (by decide), if_neg (by decide), if_neg (by decide), if_neg (by decide), if_neg (by decide), hd1]; rfl)
      have HW := Lib.hid hb
      obtain ⟨⟨x0, x1, x2, x3⟩, g0, g1, g2, g3⟩ := lz.four
      clear hb
      go_enter Try.func41, Try.ntmps41
      go_upto_region 15 with fail
      generalize (w.alloc (.cells #[.int .i64 0, .int .i64 0, .string ⟨#[]⟩, .slice none 0 0] 24)) = V at *
      go_wp2_with fail
      refine bodyPost_ret (res_term2 (p := 6) (q := 7) Try.results41 rfl (lz.all _ _ _ _)) rfl ?_
      rw [HE.out]
      exact gives_allS (A2 := none) (c2 := 0) (W := V) (ein_mk (by decide) (by decide) (by decide) (by simp) (by rw [ELIn]; trivial)) (Nat.le_refl _) lz.lt HW.out _ _ _ _
    · have hd1 : decide (a = b) = false := by simp [hab]
      have hd2 : (a == b) = false := by simp [hab]
      clear hab
      have HE : Hid (opR ⟨#[61, 61]⟩ a b = (Te.node 4 0 ⟨#[70, 97, 108, 115, 101]⟩ [], 3)) := Lib.hid (by rw [opR, if_neg (fun h => absurd h.1 (by decide)), opE, if_neg (by decide), if_neg (by decide), if_neg (by decide), if_neg (by decide), if_neg (by decide), hd1]; rfl)
      have HW := Lib.hid hb
      obtain ⟨⟨x0, x1, x2, x3⟩, g0, g1, g2, g3⟩ := lz.four
      clear hb
      go_enter Try.func41, Try.ntmps41
      go_upto_region 16 with fail
      generalize (w.alloc (.cells #[.int .i64 0, .int .i64 0, .string ⟨#[]⟩, .slice none 0 0] 24)) = V at *
      go_wp2_with fail
      refine bodyPost_ret (res_term2 (p := 6) (q := 7) Try.results41 rfl (lz.all _ _ _ _)) rfl ?_
      rw [HE.out]
      exact gives_allS (A2 := none) (c2 := 0) (W := V) (ein_mk (by decide) (by decide) (by decide) (by simp) (by rw [ELIn]; trivial)) (Nat.le_refl _) lz.lt HW.out _ _ _ _
end Lx
end Go.Proofs.Ytgnafcnokenogaa
