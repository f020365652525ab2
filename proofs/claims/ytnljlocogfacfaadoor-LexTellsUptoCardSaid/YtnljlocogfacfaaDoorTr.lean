/-
  Trees as plain data: how deep and large they are, whether they may be, what they are bare. No program is named here.
-/
import Derived.Test.YtnljlocogfacfaaDoorPlain
import Derived.WalkKit
namespace Go.Proofs.YtnljlocogfacfaaDoor
namespace Lx
set_option maxRecDepth 100000

inductive Tr where
  | node (kind : Int) (name : ByteArray) (n : Int) (place : Int) (l : List Tr)

def Tr.kind : Tr → Int | .node k _ _ _ _ => k
def Tr.name : Tr → ByteArray | .node _ s _ _ _ => s
def Tr.n : Tr → Int | .node _ _ n _ _ => n
def Tr.place : Tr → Int | .node _ _ _ a _ => a
def Tr.parts : Tr → List Tr | .node _ _ _ _ l => l

mutual
def depthT : Tr → Nat
  | .node _ _ _ _ l => depthL l + 1
def depthL : List Tr → Nat
  | [] => 0
  | t :: r => max (depthT t) (depthL r)
end
mutual
def sizeT : Tr → Nat
  | .node _ _ _ _ l => sizeL l + 1
def sizeL : List Tr → Nat
  | [] => 0
  | t :: r => sizeT t + sizeL r
end
mutual
/-- How many of so many parts are left; -1: there are more, or they lie deeper. -/
def fewT : Tr → Int → Int → Int
  | .node _ _ _ _ l, left, deep => if left < 1 ∨ deep < 1 then -1 else fewL l (left - 1) (deep - 1)
def fewL : List Tr → Int → Int → Int
  | [], left, _ => left
  | t :: r, left, deep => if fewT t left deep < 0 then -1 else fewL r (fewT t left deep) deep
end
mutual
/-- Bare. -/
def bareT : Tr → Tr
  | .node k s n _ l => .node k s n 0 (bareL l)
def bareL : List Tr → List Tr
  | [] => []
  | t :: r => bareT t :: bareL r
end
mutual
/-- The same, but for places. -/
def sameT : Tr → Tr → Bool
  | .node k s n _ l, .node k' s' n' _ l' => decide (k = k') && (decide (s = s') && (decide (n = n') && sameL l l'))
def sameL : List Tr → List Tr → Bool
  | [], [] => true
  | t :: r, t' :: r' => sameT t t' && sameL r r'
  | _, _ => false
end
mutual
/-- The same, places and all. -/
def oneT : Tr → Tr → Bool
  | .node k s n a l, .node k' s' n' a' l' => decide (k = k') && (decide (s = s') && (decide (n = n') && (decide (a = a') && oneL l l')))
def oneL : List Tr → List Tr → Bool
  | [], [] => true
  | t :: r, t' :: r' => oneT t t' && oneL r r'
  | _, _ => false
end

/-- Is a text a token's of kind 1, or of kind 2? -/
def nameV (l : List UInt8) : Bool := decide (0 < run lowR l) && (decide (run ldR l = l.length) && (decide (l.length ≤ 16) && !wordS l))
def conV (l : List UInt8) : Bool := decide (0 < run upR l) && (decide (run ldR l = l.length) && decide (l.length ≤ 16))
def opV (l : List UInt8) : Bool := l == [43] || (l == [45] || (l == [42] || (l == [47] || (l == [60] || l == [61, 61]))))
/-- What a tree's Name is to be, by number: 0 empty, 1 a name, 2 a constructor's, 3 an operator's. -/
def whatV (w : Int) (l : List UInt8) : Bool := if w = 1 then nameV l else if w = 2 then conV l else if w = 3 then opV l else l == []

/-- What trees of a kind have: what their Name is, N at most, parts at least and at most. -/
def shapeV (k : Int) : Option (Int × Int × Int × Int) :=
  if k = 1 then some (1, 0, 0, 0) else if k = 2 then some (1, 0, 1, 1) else if k = 3 then some (0, 0, 2, 2) else if k = 4 then some (1, 0, 2, 2) else if k = 5 then some (1, 0, 2, 2)
  else if k = 6 then some (2, 0, 0, 8) else if k = 7 then some (0, 0, 2, 9) else if k = 8 then some (2, 8, 1, 9) else if k = 9 then some (0, 999999999999999999, 0, 0) else if k = 10 then some (3, 0, 2, 2) else none
/-- Does a tree fit a shape, whatever its parts are? -/
def fitsV (h : Int × Int × Int × Int) (k : Int) (s : List UInt8) (n a : Int) (m : Nat) : Bool :=
  if a < 0 ∨ n < 0 ∨ h.2.1 < n then false
  else if (m : Int) < h.2.2.1 ∨ h.2.2.2 < (m : Int) then false
  else if k = 8 ∧ (m : Int) ≠ n + 1 then false
  else whatV h.1 s
/-- May part number i of a tree be of kind p? -/
def standsV (k n : Int) (i : Nat) (p : Int) : Bool :=
  if k = 7 ∧ 0 < i then decide (p = 8) else if k = 8 ∧ (i : Int) < n then decide (p = 1) else decide (p ≠ 8)
mutual
/-- The program's own reckoning. -/
def mayT : Tr → Bool
  | .node k s n a l =>
    match shapeV k with
    | some h => fitsV h k s.data.toList n a l.length && mayL k n 0 l
    | none => false
def mayL (k n : Int) : Nat → List Tr → Bool
  | _, [] => true
  | i, t :: r => standsV k n i t.kind && (mayT t && mayL k n (i + 1) r)
end
/-- The reference's reckoning. -/
def nameOkV (k : Int) (s : List UInt8) : Bool :=
  if k = 1 ∨ k = 2 ∨ k = 4 ∨ k = 5 then nameV s else if k = 6 ∨ k = 8 then conV s else if k = 10 then opV s else s == []
def partsV (k n : Int) (m : Nat) : Bool :=
  if k = 1 then decide (m = 0) && decide (n = 0) else if k = 2 then decide (m = 1) && decide (n = 0)
  else if k = 3 ∨ k = 4 ∨ k = 5 ∨ k = 10 then decide (m = 2) && decide (n = 0) else if k = 6 then decide (m ≤ 8) && decide (n = 0)
  else if k = 7 then decide (2 ≤ m) && (decide (m ≤ 9) && decide (n = 0)) else if k = 8 then decide (0 ≤ n) && (decide (n ≤ 8) && decide ((m : Int) = n + 1))
  else if k = 9 then decide (m = 0) && (decide (0 ≤ n) && decide (n < 1000000000000000000)) else false
mutual
def mayRT : Tr → Bool → Bool
  | .node k s n a l, alt => (decide (k = 8) == alt) && (nameOkV k s.data.toList && (partsV k n l.length && (decide (0 ≤ a) && mayRL k n 0 l)))
def mayRL (k n : Int) : Nat → List Tr → Bool
  | _, [] => true
  | i, t :: r => !(decide (k = 8) && (decide ((i : Int) < n) && decide (t.kind ≠ 1))) && (mayRT t (decide (k = 7) && decide (0 < i)) && mayRL k n (i + 1) r)
end

theorem fits_eq (k : Int) (s : List UInt8) (n a : Int) (m : Nat) :
    (match shapeV k with | some h => fitsV h k s n a m | none => false) = (nameOkV k s && (partsV k n m && decide (0 ≤ a))) := by
  by_cases ha : 0 ≤ a
  · have ha' : ¬ a < 0 := by omega
    rcases (by omega : k = 1 ∨ k = 2 ∨ k = 3 ∨ k = 4 ∨ k = 5 ∨ k = 6 ∨ k = 7 ∨ k = 8 ∨ k = 9 ∨ k = 10 ∨ (k < 1 ∨ 10 < k)) with rfl | rfl | rfl | rfl | rfl | rfl | rfl | rfl | rfl | rfl | hk
    case inr.inr.inr.inr.inr.inr.inr.inr.inr.inr =>
      have e : ∀ j : Int, 1 ≤ j → j ≤ 10 → k ≠ j := by omega
      simp [shapeV, partsV, e 1, e 2, e 3, e 4, e 5, e 6, e 7, e 8, e 9, e 10]
    all_goals
      simp only [shapeV, fitsV, nameOkV, partsV, whatV]
      simp [ha, ha']
      generalize nameV s = b1
      generalize conV s = b2
      generalize opV s = b3
      rw [Bool.eq_iff_iff]
      by_cases e0 : s = []
      all_goals
        cases b1 <;> cases b2 <;> cases b3 <;> simp [e0] <;> omega
  · have ha' : a < 0 := by omega
    have e : decide (0 ≤ a) = false := by simp; omega
    rw [e]
    simp only [Bool.and_false]
    cases shapeV k <;> simp [fitsV, ha']

mutual
theorem may_eq : ∀ (t : Tr) (alt : Bool), mayRT t alt = ((decide (t.kind = 8) == alt) && mayT t)
  | .node k s n a l, alt => by
    rw [mayRT, mayT, may_eqL k n l 0]
    have h := fits_eq k s.data.toList n a l.length
    show _ = ((decide (k = 8) == alt) && _)
    cases hs : shapeV k with
    | none =>
      rw [hs] at h
      have h' : (nameOkV k s.data.toList && (partsV k n l.length && decide (0 ≤ a))) = false := h.symm
      show ((decide (k = 8) == alt) && (nameOkV k s.data.toList && (partsV k n l.length && (decide (0 ≤ a) && mayL k n 0 l)))) = ((decide (k = 8) == alt) && false)
      cases h1 : nameOkV k s.data.toList <;> cases h2 : partsV k n l.length <;> cases h3 : decide (0 ≤ a) <;> simp_all
    | some h0 =>
      rw [hs] at h
      have h' : fitsV h0 k s.data.toList n a l.length = (nameOkV k s.data.toList && (partsV k n l.length && decide (0 ≤ a))) := h
      show _ = ((decide (k = 8) == alt) && (fitsV h0 k s.data.toList n a l.length && mayL k n 0 l))
      rw [h']
      simp [Bool.and_assoc]
theorem may_eqL : ∀ (k n : Int) (l : List Tr) (i : Nat), mayRL k n i l = mayL k n i l
  | k, n, [], i => rfl
  | k, n, t :: r, i => by
    rw [mayRL, mayL, may_eqL k n r (i + 1), may_eq t]
    unfold standsV
    cases mayT t
    · simp
    · by_cases h7 : k = 7
      · subst h7
        by_cases hi : 0 < i <;> simp [hi]
      · by_cases h8 : k = 8
        · subst h8
          by_cases hi : (i : Int) < n
          · by_cases h1 : t.kind = 1
            · simp [h1, hi]
            · simp [h1, hi]
          · simp [hi]
        · simp [h7, h8]
end

theorem depthL_snoc (l : List Tr) (t : Tr) : depthL (l ++ [t]) = max (depthL l) (depthT t) := by
  induction l with
  | nil => simp [depthL]
  | cons a r ih => simp only [List.cons_append, depthL, ih]; omega
theorem sizeL_snoc (l : List Tr) (t : Tr) : sizeL (l ++ [t]) = sizeL l + sizeT t := by
  induction l with
  | nil => simp [sizeL]
  | cons a r ih => simp only [List.cons_append, sizeL, ih]; omega
theorem bareL_map (l : List Tr) : bareL l = l.map bareT := by
  induction l with
  | nil => rfl
  | cons a r ih => simp [bareL, ih]
theorem depth_pos (t : Tr) : 0 < depthT t := by cases t; simp [depthT]
theorem size_pos (t : Tr) : 0 < sizeT t := by cases t; simp [sizeT]
theorem depthL_mem : ∀ (l : List Tr) (t : Tr), t ∈ l → depthT t ≤ depthL l
  | [], t, h => by simp at h
  | a :: r, t, h => by
    rw [depthL]
    rcases List.mem_cons.1 h with rfl | h
    · omega
    · have := depthL_mem r t h; omega
theorem sizeL_mem : ∀ (l : List Tr) (t : Tr), t ∈ l → sizeT t ≤ sizeL l
  | [], t, h => by simp at h
  | a :: r, t, h => by
    rw [sizeL]
    rcases List.mem_cons.1 h with rfl | h
    · omega
    · have := sizeL_mem r t h; omega
theorem sizeL_len : ∀ l : List Tr, l.length ≤ sizeL l
  | [] => by simp [sizeL]
  | a :: r => by
    have := sizeL_len r
    have := size_pos a
    simp only [List.length_cons, sizeL]; omega
mutual
theorem depth_le_size : ∀ t : Tr, depthT t ≤ sizeT t
  | .node _ _ _ _ l => by rw [depthT, sizeT]; have := depthL_le_size l; omega
theorem depthL_le_size : ∀ l : List Tr, depthL l ≤ sizeL l
  | [] => by simp [depthL]
  | t :: r => by rw [depthL, sizeL]; have := depth_le_size t; have := depthL_le_size r; omega
end
theorem depthL_take (l : List Tr) (i : Nat) : depthL (l.take i) ≤ depthL l := by
  induction l generalizing i with
  | nil => simp
  | cons a r ih =>
    cases i with
    | zero => simp [depthL]
    | succ i => simp only [List.take_succ_cons, depthL]; have := ih i; omega
theorem sizeL_take (l : List Tr) (i : Nat) : sizeL (l.take i) ≤ sizeL l := by
  induction l generalizing i with
  | nil => simp
  | cons a r ih =>
    cases i with
    | zero => simp [sizeL]
    | succ i => simp only [List.take_succ_cons, sizeL]; have := ih i; omega

theorem sameL_len : ∀ l l' : List Tr, sameL l l' = true → l.length = l'.length
  | [], [], _ => rfl
  | [], _ :: _, h => by simp [sameL] at h
  | _ :: _, [], h => by simp [sameL] at h
  | a :: r, a' :: r', h => by
    rw [sameL, Bool.and_eq_true] at h
    simp [sameL_len r r' h.2]
theorem oneL_len : ∀ l l' : List Tr, oneL l l' = true → l.length = l'.length
  | [], [], _ => rfl
  | [], _ :: _, h => by simp [oneL] at h
  | _ :: _, [], h => by simp [oneL] at h
  | a :: r, a' :: r', h => by
    rw [oneL, Bool.and_eq_true] at h
    simp [oneL_len r r' h.2]
mutual
theorem few_size : ∀ (t : Tr) (a d : Int), 0 ≤ fewT t a d → (sizeT t : Int) + fewT t a d = a ∧ (depthT t : Int) ≤ d
  | .node _ _ _ _ l, a, d, h => by
    rw [fewT] at h ⊢
    split at h
    · omega
    · rename_i h1
      rw [if_neg h1]
      have h2 := few_sizeL l (a - 1) (d - 1) h
      rw [sizeT, depthT]
      rcases h2.2 with h4 | rfl
      · omega
      · simp only [depthL, sizeL] at h2 ⊢
        omega
theorem few_sizeL : ∀ (l : List Tr) (a d : Int), 0 ≤ fewL l a d → (sizeL l : Int) + fewL l a d = a ∧ ((depthL l : Int) ≤ d ∨ l = [])
  | [], a, d, h => by simp [fewL, sizeL]
  | t :: r, a, d, h => by
    rw [fewL] at h ⊢
    split at h
    · omega
    · rename_i h1
      rw [if_neg h1]
      have h2 := few_size t a d (by omega)
      have h3 := few_sizeL r (fewT t a d) d h
      rw [sizeL, depthL]
      refine ⟨by omega, .inl ?_⟩
      rcases h3.2 with h4 | rfl
      · omega
      · simp [depthL]; omega
end
end Lx
end Go.Proofs.YtnljlocogfacfaaDoor
