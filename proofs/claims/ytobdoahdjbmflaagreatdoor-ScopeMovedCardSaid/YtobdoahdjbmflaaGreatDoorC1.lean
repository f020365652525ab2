/-
  Texts that lie one behind the other: Plain Tr Sc ScP Ok ScN HeldK.
-/
import Derived.Test.YtobdoahdjbmflaaGreatDoorProg
import Derived.Lib.Strings
import Derived.WalkKit
import Derived.Deep.Cut
import Derived.Deep.RegionHeld
namespace Go.Proofs.YtobdoahdjbmflaaGreatDoor
namespace Lx
set_option maxRecDepth 100000

def lowR (r : Int) : Bool := decide (97 ≤ r) && decide (r ≤ 122)
def upR (r : Int) : Bool := decide (65 ≤ r) && decide (r ≤ 90)
def digR (r : Int) : Bool := decide (48 ≤ r) && decide (r ≤ 57)
def blkR (r : Int) : Bool := (r == 32 || r == 10) || r == 9
def ldR (r : Int) : Bool := lowR r || (upR r || digR r)

/-- How many bytes at the beginning fit. -/
def run (P : Int → Bool) : List UInt8 → Nat
  | [] => 0
  | c :: r => if P (c.toNat : Int) then run P r + 1 else 0

theorem run_le (P : Int → Bool) : ∀ l : List UInt8, run P l ≤ l.length
  | [] => by simp [run]
  | c :: r => by
    have := run_le P r
    by_cases h : P (c.toNat : Int) <;> simp [run, h]; omega

theorem run_drop (P : Int → Bool) (l : List UInt8) (k : Nat) (h : k < l.length) : run P (l.drop k) = if P ((l[k]'h).toNat : Int) then run P (l.drop (k + 1)) + 1 else 0 := by
  rw [List.drop_eq_getElem_cons h, run]
theorem run_nil (P : Int → Bool) (l : List UInt8) (k : Nat) (h : l.length ≤ k) : run P (l.drop k) = 0 := by
  rw [List.drop_eq_nil_of_le h, run]

/-- The number of a text of digits. -/
def numV (l : List UInt8) : Int := l.foldl (fun n c => n * 10 + ((c.toNat : Int) - 48)) 0
theorem numV_nil : numV [] = 0 := rfl
theorem numV_snoc (l : List UInt8) (c : UInt8) : numV (l ++ [c]) = numV l * 10 + ((c.toNat : Int) - 48) := by
  simp [numV, List.foldl_append]
theorem dig_of (P : Int → Bool) : ∀ (l : List UInt8), run P l = l.length → ∀ c ∈ l, P (c.toNat : Int) = true
  | [], _, c, hc => by simp at hc
  | d :: r, h, c, hc => by
    cases hd : P (d.toNat : Int)
    · simp [run, hd] at h
    · simp only [run, hd, if_true, List.length_cons] at h
      rcases List.mem_cons.1 hc with rfl | hc
      · exact hd
      · exact dig_of P r (by omega) c hc
theorem numV_bd : ∀ (k : Nat) (l : List UInt8), l.length = k → (∀ c ∈ l, digR (c.toNat : Int) = true) → 0 ≤ numV l ∧ numV l < 10 ^ k := by
  intro k
  induction k with
  | zero => intro l hl _; have : l = [] := List.eq_nil_of_length_eq_zero hl; subst this; simp [numV]
  | succ k ih =>
    intro l hl h
    have hne : l ≠ [] := by intro e; subst e; simp at hl
    have e := (List.dropLast_concat_getLast hne).symm
    have hc := h (l.getLast hne) (List.getLast_mem hne)
    obtain ⟨a, b⟩ := ih l.dropLast (by simp; omega) (fun c hc => h c (List.dropLast_subset _ hc))
    rw [e, numV_snoc]
    simp only [digR, Bool.and_eq_true, decide_eq_true_eq] at hc
    rw [Int.pow_succ]
    omega
theorem pow_le17 (k : Nat) (h : k < 18) : (10 : Int) ^ k ≤ 100000000000000000 := by
  have : ∀ j : Fin 18, (10 : Int) ^ j.val ≤ 100000000000000000 := by decide
  exact this ⟨k, h⟩
theorem take_snoc (l : List UInt8) (k : Nat) (h : k < l.length) : l.take (k + 1) = l.take k ++ [l[k]'h] := by
  rw [List.take_succ_eq_append_getElem h]

/-- The words that are no names. -/
def wordS (l : List UInt8) : Bool := l == [108, 101, 116] || (l == [108, 101, 116, 114, 101, 99] || (l == [105, 110] || (l == [99, 97, 115, 101] || l == [111, 102])))
/-- A text of letters and digits: its kind and its number, or its error. -/
def numK (l : List UInt8) : Except Int (Int × Int) :=
  if run digR l < l.length then .error 10 else if 18 < l.length ∨ (1 < l.length ∧ l.head? = some 48) then .error 11 else .ok (3, numV l)
def runK (l : List UInt8) : Except Int (Int × Int) :=
  if 0 < run digR l then numK l else if 16 < l.length then .error 11 else if wordS l = true then .ok (4, 0) else if 0 < run lowR l then .ok (1, 0) else .ok (2, 0)

/-- The signs, in the program's order. -/
def signsS : List (List UInt8) := [[45, 62], [61, 61], [92], [46], [40], [41], [61], [123], [125], [124], [43], [45], [42], [47], [60]]
def signOf (l : List UInt8) : Option (List UInt8) := signsS.find? fun g => Lib.hasPrefix l g
theorem find_first {α : Type} (p : α → Bool) (d : α) : ∀ (L : List α) (m : Nat), m < L.length → (∀ j, j < m → p (L.getD j d) = false) → p (L.getD m d) = true → L.find? p = some (L.getD m d)
  | [], m, h, _, _ => by simp at h
  | a :: L, 0, _, _, h => by
    have h1 : p a = true := by simpa using h
    rw [List.find?_cons_of_pos h1]
    rfl
  | a :: L, m + 1, hm, hf, h => by
    have h0 : p a = false := by simpa using hf 0 (by omega)
    rw [List.find?_cons_of_neg (by simp [h0])]
    have := find_first p d L m (by simpa using hm) (fun j hj => by simpa using hf (j + 1) (by omega)) (by simpa using h)
    simpa using this
theorem find_none {α : Type} (p : α → Bool) (d : α) : ∀ (L : List α), (∀ j, j < L.length → p (L.getD j d) = false) → L.find? p = none
  | [], _ => rfl
  | a :: L, hf => by
    have h0 : p a = false := by simpa using hf 0 (by simp)
    rw [List.find?_cons_of_neg (by simp [h0])]
    exact find_none p d L (fun j hj => by simpa using hf (j + 1) (by simpa using hj))
/-- The token at the beginning of a text that begins with no blank: its kind, its number, its text; or its error. -/
def tokK (l : List UInt8) : Except Int (Int × Int × List UInt8) :=
  if 0 < run ldR l then
    match runK (l.take (run ldR l)) with
    | .ok (k, n) => .ok (k, n, l.take (run ldR l))
    | .error e => .error e
  else
    match signOf l with
    | some g => .ok (5, 0, g)
    | none => .error 10

end Lx
end Go.Proofs.YtobdoahdjbmflaaGreatDoor
namespace Go.Proofs.YtobdoahdjbmflaaGreatDoor
namespace Lx
set_option maxRecDepth 100000

inductive Tr where
  | node (kind : Int) (name : ByteArray) (n : Int) (place : Int) (l : List Tr)

def Tr.kind : Tr → Int | .node k _ _ _ _ => k
def Tr.name : Tr → ByteArray | .node _ s _ _ _ => s
def Tr.n : Tr → Int | .node _ _ n _ _ => n
def Tr.place : Tr → Int | .node _ _ _ a _ => a
def Tr.parts : Tr → List Tr | .node _ _ _ _ l => l

mutual
def depthT : Tr → Nat
  | .node _ _ _ _ l => depthL l + 1
def depthL : List Tr → Nat
  | [] => 0
  | t :: r => max (depthT t) (depthL r)
end
mutual
def sizeT : Tr → Nat
  | .node _ _ _ _ l => sizeL l + 1
def sizeL : List Tr → Nat
  | [] => 0
  | t :: r => sizeT t + sizeL r
end
mutual
/-- How many of so many parts are left; -1: there are more, or they lie deeper. -/
def fewT : Tr → Int → Int → Int
  | .node _ _ _ _ l, left, deep => if left < 1 ∨ deep < 1 then -1 else fewL l (left - 1) (deep - 1)
def fewL : List Tr → Int → Int → Int
  | [], left, _ => left
  | t :: r, left, deep => if fewT t left deep < 0 then -1 else fewL r (fewT t left deep) deep
end
mutual
/-- Bare. -/
def bareT : Tr → Tr
  | .node k s n _ l => .node k s n 0 (bareL l)
def bareL : List Tr → List Tr
  | [] => []
  | t :: r => bareT t :: bareL r
end
mutual
/-- The same, but for places. -/
def sameT : Tr → Tr → Bool
  | .node k s n _ l, .node k' s' n' _ l' => decide (k = k') && (decide (s = s') && (decide (n = n') && sameL l l'))
def sameL : List Tr → List Tr → Bool
  | [], [] => true
  | t :: r, t' :: r' => sameT t t' && sameL r r'
  | _, _ => false
end
mutual
/-- The same, places and all. -/
def oneT : Tr → Tr → Bool
  | .node k s n a l, .node k' s' n' a' l' => decide (k = k') && (decide (s = s') && (decide (n = n') && (decide (a = a') && oneL l l')))
def oneL : List Tr → List Tr → Bool
  | [], [] => true
  | t :: r, t' :: r' => oneT t t' && oneL r r'
  | _, _ => false
end

/-- Is a text a token's of kind 1, or of kind 2? -/
def nameV (l : List UInt8) : Bool := decide (0 < run lowR l) && (decide (run ldR l = l.length) && (decide (l.length ≤ 16) && !wordS l))
def conV (l : List UInt8) : Bool := decide (0 < run upR l) && (decide (run ldR l = l.length) && decide (l.length ≤ 16))
def opV (l : List UInt8) : Bool := l == [43] || (l == [45] || (l == [42] || (l == [47] || (l == [60] || l == [61, 61]))))
/-- What a tree's Name is to be, by number: 0 empty, 1 a name, 2 a constructor's, 3 an operator's. -/
def whatV (w : Int) (l : List UInt8) : Bool := if w = 1 then nameV l else if w = 2 then conV l else if w = 3 then opV l else l == []

/-- What trees of a kind have: what their Name is, N at most, parts at least and at most. -/
def shapeV (k : Int) : Option (Int × Int × Int × Int) :=
  if k = 1 then some (1, 0, 0, 0) else if k = 2 then some (1, 0, 1, 1) else if k = 3 then some (0, 0, 2, 2) else if k = 4 then some (1, 0, 2, 2) else if k = 5 then some (1, 0, 2, 2)
  else if k = 6 then some (2, 0, 0, 8) else if k = 7 then some (0, 0, 2, 9) else if k = 8 then some (2, 8, 1, 9) else if k = 9 then some (0, 999999999999999999, 0, 0) else if k = 10 then some (3, 0, 2, 2) else none
/-- Does a tree fit a shape, whatever its parts are? -/
def fitsV (h : Int × Int × Int × Int) (k : Int) (s : List UInt8) (n a : Int) (m : Nat) : Bool :=
  if a < 0 ∨ n < 0 ∨ h.2.1 < n then false
  else if (m : Int) < h.2.2.1 ∨ h.2.2.2 < (m : Int) then false
  else if k = 8 ∧ (m : Int) ≠ n + 1 then false
  else whatV h.1 s
/-- May part number i of a tree be of kind p? -/
def standsV (k n : Int) (i : Nat) (p : Int) : Bool :=
  if k = 7 ∧ 0 < i then decide (p = 8) else if k = 8 ∧ (i : Int) < n then decide (p = 1) else decide (p ≠ 8)
mutual
/-- The program's own reckoning. -/
def mayT : Tr → Bool
  | .node k s n a l =>
    match shapeV k with
    | some h => fitsV h k s.data.toList n a l.length && mayL k n 0 l
    | none => false
def mayL (k n : Int) : Nat → List Tr → Bool
  | _, [] => true
  | i, t :: r => standsV k n i t.kind && (mayT t && mayL k n (i + 1) r)
end
/-- The reference's reckoning. -/
def nameOkV (k : Int) (s : List UInt8) : Bool :=
  if k = 1 ∨ k = 2 ∨ k = 4 ∨ k = 5 then nameV s else if k = 6 ∨ k = 8 then conV s else if k = 10 then opV s else s == []
def partsV (k n : Int) (m : Nat) : Bool :=
  if k = 1 then decide (m = 0) && decide (n = 0) else if k = 2 then decide (m = 1) && decide (n = 0)
  else if k = 3 ∨ k = 4 ∨ k = 5 ∨ k = 10 then decide (m = 2) && decide (n = 0) else if k = 6 then decide (m ≤ 8) && decide (n = 0)
  else if k = 7 then decide (2 ≤ m) && (decide (m ≤ 9) && decide (n = 0)) else if k = 8 then decide (0 ≤ n) && (decide (n ≤ 8) && decide ((m : Int) = n + 1))
  else if k = 9 then decide (m = 0) && (decide (0 ≤ n) && decide (n < 1000000000000000000)) else false
mutual
def mayRT : Tr → Bool → Bool
  | .node k s n a l, alt => (decide (k = 8) == alt) && (nameOkV k s.data.toList && (partsV k n l.length && (decide (0 ≤ a) && mayRL k n 0 l)))
def mayRL (k n : Int) : Nat → List Tr → Bool
  | _, [] => true
  | i, t :: r => !(decide (k = 8) && (decide ((i : Int) < n) && decide (t.kind ≠ 1))) && (mayRT t (decide (k = 7) && decide (0 < i)) && mayRL k n (i + 1) r)
end

theorem fits_eq (k : Int) (s : List UInt8) (n a : Int) (m : Nat) :
    (match shapeV k with | some h => fitsV h k s n a m | none => false) = (nameOkV k s && (partsV k n m && decide (0 ≤ a))) := by
  by_cases ha : 0 ≤ a
  · have ha' : ¬ a < 0 := by omega
    rcases (by omega : k = 1 ∨ k = 2 ∨ k = 3 ∨ k = 4 ∨ k = 5 ∨ k = 6 ∨ k = 7 ∨ k = 8 ∨ k = 9 ∨ k = 10 ∨ (k < 1 ∨ 10 < k)) with rfl | rfl | rfl | rfl | rfl | rfl | rfl | rfl | rfl | rfl | hk
    case inr.inr.inr.inr.inr.inr.inr.inr.inr.inr =>
      have e : ∀ j : Int, 1 ≤ j → j ≤ 10 → k ≠ j := by omega
      simp [shapeV, partsV, e 1, e 2, e 3, e 4, e 5, e 6, e 7, e 8, e 9, e 10]
    all_goals
      simp only [shapeV, fitsV, nameOkV, partsV, whatV]
      simp [ha, ha']
      generalize nameV s = b1
      generalize conV s = b2
      generalize opV s = b3
      rw [Bool.eq_iff_iff]
      by_cases e0 : s = []
      all_goals
        cases b1 <;> cases b2 <;> cases b3 <;> simp [e0] <;> omega
  · have ha' : a < 0 := by omega
    have e : decide (0 ≤ a) = false := by simp; omega
    rw [e]
    simp only [Bool.and_false]
    cases shapeV k <;> simp [fitsV, ha']

mutual
theorem may_eq : ∀ (t : Tr) (alt : Bool), mayRT t alt = ((decide (t.kind = 8) == alt) && mayT t)
  | .node k s n a l, alt => by
    rw [mayRT, mayT, may_eqL k n l 0]
    have h := fits_eq k s.data.toList n a l.length
    show _ = ((decide (k = 8) == alt) && _)
    cases hs : shapeV k with
    | none =>
      rw [hs] at h
      have h' : (nameOkV k s.data.toList && (partsV k n l.length && decide (0 ≤ a))) = false := h.symm
      show ((decide (k = 8) == alt) && (nameOkV k s.data.toList && (partsV k n l.length && (decide (0 ≤ a) && mayL k n 0 l)))) = ((decide (k = 8) == alt) && false)
      cases h1 : nameOkV k s.data.toList <;> cases h2 : partsV k n l.length <;> cases h3 : decide (0 ≤ a) <;> simp_all
    | some h0 =>
      rw [hs] at h
      have h' : fitsV h0 k s.data.toList n a l.length = (nameOkV k s.data.toList && (partsV k n l.length && decide (0 ≤ a))) := h
      show _ = ((decide (k = 8) == alt) && (fitsV h0 k s.data.toList n a l.length && mayL k n 0 l))
      rw [h']
      simp [Bool.and_assoc]
theorem may_eqL : ∀ (k n : Int) (l : List Tr) (i : Nat), mayRL k n i l = mayL k n i l
  | k, n, [], i => rfl
  | k, n, t :: r, i => by
    rw [mayRL, mayL, may_eqL k n r (i + 1), may_eq t]
    unfold standsV
    cases mayT t
    · simp
    · by_cases h7 : k = 7
      · subst h7
        by_cases hi : 0 < i <;> simp [hi]
      · by_cases h8 : k = 8
        · subst h8
          by_cases hi : (i : Int) < n
          · by_cases h1 : t.kind = 1
            · simp [h1, hi]
            · simp [h1, hi]
          · simp [hi]
        · simp [h7, h8]
end

theorem depthL_snoc (l : List Tr) (t : Tr) : depthL (l ++ [t]) = max (depthL l) (depthT t) := by
  induction l with
  | nil => simp [depthL]
  | cons a r ih => simp only [List.cons_append, depthL, ih]; omega
theorem sizeL_snoc (l : List Tr) (t : Tr) : sizeL (l ++ [t]) = sizeL l + sizeT t := by
  induction l with
  | nil => simp [sizeL]
  | cons a r ih => simp only [List.cons_append, sizeL, ih]; omega
theorem bareL_map (l : List Tr) : bareL l = l.map bareT := by
  induction l with
  | nil => rfl
  | cons a r ih => simp [bareL, ih]
theorem depth_pos (t : Tr) : 0 < depthT t := by cases t; simp [depthT]
theorem size_pos (t : Tr) : 0 < sizeT t := by cases t; simp [sizeT]
theorem depthL_mem : ∀ (l : List Tr) (t : Tr), t ∈ l → depthT t ≤ depthL l
  | [], t, h => by simp at h
  | a :: r, t, h => by
    rw [depthL]
    rcases List.mem_cons.1 h with rfl | h
    · omega
    · have := depthL_mem r t h; omega
theorem sizeL_mem : ∀ (l : List Tr) (t : Tr), t ∈ l → sizeT t ≤ sizeL l
  | [], t, h => by simp at h
  | a :: r, t, h => by
    rw [sizeL]
    rcases List.mem_cons.1 h with rfl | h
    · omega
    · have := sizeL_mem r t h; omega
theorem sizeL_len : ∀ l : List Tr, l.length ≤ sizeL l
  | [] => by simp [sizeL]
  | a :: r => by
    have := sizeL_len r
    have := size_pos a
    simp only [List.length_cons, sizeL]; omega
mutual
theorem depth_le_size : ∀ t : Tr, depthT t ≤ sizeT t
  | .node _ _ _ _ l => by rw [depthT, sizeT]; have := depthL_le_size l; omega
theorem depthL_le_size : ∀ l : List Tr, depthL l ≤ sizeL l
  | [] => by simp [depthL]
  | t :: r => by rw [depthL, sizeL]; have := depth_le_size t; have := depthL_le_size r; omega
end
theorem depthL_take (l : List Tr) (i : Nat) : depthL (l.take i) ≤ depthL l := by
  induction l generalizing i with
  | nil => simp
  | cons a r ih =>
    cases i with
    | zero => simp [depthL]
    | succ i => simp only [List.take_succ_cons, depthL]; have := ih i; omega
theorem sizeL_take (l : List Tr) (i : Nat) : sizeL (l.take i) ≤ sizeL l := by
  induction l generalizing i with
  | nil => simp
  | cons a r ih =>
    cases i with
    | zero => simp [sizeL]
    | succ i => simp only [List.take_succ_cons, sizeL]; have := ih i; omega

theorem sameL_len : ∀ l l' : List Tr, sameL l l' = true → l.length = l'.length
  | [], [], _ => rfl
  | [], _ :: _, h => by simp [sameL] at h
  | _ :: _, [], h => by simp [sameL] at h
  | a :: r, a' :: r', h => by
    rw [sameL, Bool.and_eq_true] at h
    simp [sameL_len r r' h.2]
theorem oneL_len : ∀ l l' : List Tr, oneL l l' = true → l.length = l'.length
  | [], [], _ => rfl
  | [], _ :: _, h => by simp [oneL] at h
  | _ :: _, [], h => by simp [oneL] at h
  | a :: r, a' :: r', h => by
    rw [oneL, Bool.and_eq_true] at h
    simp [oneL_len r r' h.2]
mutual
theorem few_size : ∀ (t : Tr) (a d : Int), 0 ≤ fewT t a d → (sizeT t : Int) + fewT t a d = a ∧ (depthT t : Int) ≤ d
  | .node _ _ _ _ l, a, d, h => by
    rw [fewT] at h ⊢
    split at h
    · omega
    · rename_i h1
      rw [if_neg h1]
      have h2 := few_sizeL l (a - 1) (d - 1) h
      rw [sizeT, depthT]
      rcases h2.2 with h4 | rfl
      · omega
      · simp only [depthL, sizeL] at h2 ⊢
        omega
theorem few_sizeL : ∀ (l : List Tr) (a d : Int), 0 ≤ fewL l a d → (sizeL l : Int) + fewL l a d = a ∧ ((depthL l : Int) ≤ d ∨ l = [])
  | [], a, d, h => by simp [fewL, sizeL]
  | t :: r, a, d, h => by
    rw [fewL] at h ⊢
    split at h
    · omega
    · rename_i h1
      rw [if_neg h1]
      have h2 := few_size t a d (by omega)
      have h3 := few_sizeL r (fewT t a d) d h
      rw [sizeL, depthL]
      refine ⟨by omega, .inl ?_⟩
      rcases h3.2 with h4 | rfl
      · omega
      · simp [depthL]; omega
end
end Lx
end Go.Proofs.YtobdoahdjbmflaaGreatDoor
namespace Go.Proofs.YtobdoahdjbmflaaGreatDoor
namespace Lx
set_option maxRecDepth 100000
/-- Is a name in a list? -/
def inN : List ByteArray → ByteArray → Bool
  | [], _ => false
  | x :: r, s => decide (x = s) || inN r s
/-- The names of the parts ahead of number n. -/
def varsN : Int → List Tr → List ByteArray
  | _, [] => []
  | n, t :: r => if n < 1 then [] else t.name :: varsN (n - 1) r
/-- What is bound in part number i, the newest last. -/
def innerN (k n : Int) (s : ByteArray) (i : Nat) (l : List Tr) (b : List ByteArray) : List ByteArray :=
  if k = 2 ∨ k = 5 then b ++ [s] else if k = 4 then (if i = 1 then b ++ [s] else b) else if k = 8 then b ++ varsN n l else b
/-- The first part that is gone through. -/
def fromN (k n : Int) : Nat := if k = 8 then n.toNat else 0
mutual
/-- The uses of names that nothing binds, as they are met. -/
def looseT (b : List ByteArray) : Tr → List ByteArray
  | .node k s n _ l => (if k = 1 ∧ inN b s = false then [s] else []) ++ looseL k n s l b 0 l
def looseL (k n : Int) (s : ByteArray) (all : List Tr) (b : List ByteArray) : Nat → List Tr → List ByteArray
  | _, [] => []
  | i, t :: r => (if i < fromN k n then [] else looseT (innerN k n s i all b) t) ++ looseL k n s all b (i + 1) r
end
/-- How many parts a constructor has here; -1: it is none. -/
def ownN (k n : Int) (l : List Tr) : Int := if k = 6 then l.length else if k = 8 then n else -1
mutual
/-- The constructors and their arities, as they are met. -/
def metT : Tr → List (ByteArray × Int)
  | .node k s n _ l => (if 0 ≤ ownN k n l then [(s, ownN k n l)] else []) ++ metL k n 0 l
def metL (k n : Int) : Nat → List Tr → List (ByteArray × Int)
  | _, [] => []
  | i, t :: r => (if i < fromN k n then [] else metT t) ++ metL k n (i + 1) r
end
/-- A list of arities: that of a name; -1: none. -/
def ofN : List (ByteArray × Int) → ByteArray → Int
  | [], _ => -1
  | (x, n) :: r, s => if x = s then n else ofN r s
/-- Each name once, the first one of it, behind others. -/
def onceN : List (ByteArray × Int) → List (ByteArray × Int) → List (ByteArray × Int)
  | a, [] => a
  | a, (x, n) :: r => if ofN a x < 0 then onceN (a ++ [(x, n)]) r else onceN a r
/-- True and False. -/
def heads5 : List (ByteArray × Int) := [(⟨#[84, 114, 117, 101]⟩, 0), (⟨#[70, 97, 108, 115, 101]⟩, 0)]
def consT (t : Tr) : List (ByteArray × Int) := onceN heads5 (metT t)
/-- Have two names of a list one text? -/
def twiceN : List ByteArray → Bool
  | [] => false
  | s :: r => inN r s || twiceN r
mutual
/-- The first thing that is wrong: its place, and the error (0: nothing). -/
def badT (A : List (ByteArray × Int)) (b ahead : List ByteArray) : Tr → Int × Int
  | .node k s n a l =>
    if k = 1 ∧ inN b s = false then (a, 50) else
    if 0 ≤ ownN k n l ∧ ofN A s ≠ ownN k n l then (a, 51) else
    if k = 8 ∧ (twiceN (varsN n l) = true ∨ inN ahead s = true) then (a, 52) else
    badL A k n s l b 0 [] l
def badL (A : List (ByteArray × Int)) (k n : Int) (s : ByteArray) (all : List Tr) (b : List ByteArray) : Nat → List ByteArray → List Tr → Int × Int
  | _, _, [] => (0, 0)
  | i, ahead, t :: r =>
    if i < fromN k n then badL A k n s all b (i + 1) ahead r else
    if (badT A (innerN k n s i all b) ahead t).2 ≠ 0 then badT A (innerN k n s i all b) ahead t else
    badL A k n s all b (i + 1) (if k = 7 ∧ 0 < i then ahead ++ [t.name] else ahead) r
end
end Lx
end Go.Proofs.YtobdoahdjbmflaaGreatDoor
namespace Go.Proofs.YtobdoahdjbmflaaGreatDoor
namespace Lx
set_option maxRecDepth 100000
/-- A tree that is met, whether it is a variable that nothing binds, and whether an alternative ahead has its name. -/
structure Spot where
  t : Tr
  free : Bool
  twin : Bool
mutual
def spotsT (b : List ByteArray) (twin : Bool) : Tr → List Spot
  | .node k s n a l => ⟨.node k s n a l, decide (k = 1) && !inN b s, twin⟩ :: spotsL k n s l b 0 [] l
def spotsL (k n : Int) (s : ByteArray) (all : List Tr) (b : List ByteArray) : Nat → List ByteArray → List Tr → List Spot
  | _, _, [] => []
  | i, ah, t :: r =>
    if i < fromN k n then spotsL k n s all b (i + 1) ah r
    else spotsT (innerN k n s i all b) (decide (t.kind = 8) && inN ah t.name) t ++ spotsL k n s all b (i + 1) (if t.kind = 8 then ah ++ [t.name] else ah) r
end
/-- How often a name is bound. -/
def countN : List ByteArray → ByteArray → Int
  | [], _ => 0
  | x :: r, s => (if s = x then 1 else 0) + countN r s
theorem countN_nn : ∀ (b : List ByteArray) (s : ByteArray), 0 ≤ countN b s ∧ countN b s ≤ b.length
  | [], s => by simp [countN]
  | x :: r, s => by
    have := countN_nn r s
    rw [countN, List.length_cons]
    split <;> omega
theorem countN_app : ∀ (b c : List ByteArray) (s : ByteArray), countN (b ++ c) s = countN b s + countN c s
  | [], c, s => by simp [countN]
  | x :: r, c, s => by rw [List.cons_append, countN, countN, countN_app r c s]; omega
theorem countN_in : ∀ (b : List ByteArray) (s : ByteArray), (countN b s == 0) = !inN b s
  | [], s => by simp [countN, inN]
  | x :: r, s => by
    have h1 := countN_nn r s
    have h2 := countN_in r s
    rw [countN, inN]
    by_cases h : s = x
    · subst h
      simp
      omega
    · have h' : ¬ x = s := fun e => h e.symm
      rw [if_neg h, Int.zero_add, h2, decide_eq_false h', Bool.false_or]
/-- The free ones' names, as they are met. -/
def freesS (l : List Spot) : List ByteArray := (l.filter Spot.free).map fun s => s.t.name
theorem freesS_app (l m : List Spot) : freesS (l ++ m) = freesS l ++ freesS m := by simp [freesS]
mutual
theorem frees_spots : ∀ (t : Tr) (b : List ByteArray) (tw : Bool), freesS (spotsT b tw t) = looseT b t
  | .node k s n a l, b, tw => by
    rw [spotsT, looseT]
    have h := frees_spotsL k n s l b l 0 []
    by_cases hk : k = 1
    · cases hi : inN b s with
      | true => simpa [freesS, hk, hi] using h
      | false => simpa [freesS, hk, hi, Tr.name] using h
    · simpa [freesS, hk] using h
theorem frees_spotsL (k n : Int) (s : ByteArray) (all : List Tr) (b : List ByteArray) : ∀ (l : List Tr) (i : Nat) (ah : List ByteArray), freesS (spotsL k n s all b i ah l) = looseL k n s all b i l
  | [], i, ah => by rw [spotsL, looseL]; rfl
  | t :: r, i, ah => by
    rw [spotsL, looseL]
    split
    · rw [List.nil_append]; exact frees_spotsL k n s all b r (i + 1) ah
    · rw [freesS_app, frees_spots t, frees_spotsL k n s all b r]
end
/-- The constructors, as they are met. -/
def metsS (l : List Spot) : List (ByteArray × Int) := l.filterMap fun s => if 0 ≤ ownN s.t.kind s.t.n s.t.parts then some (s.t.name, ownN s.t.kind s.t.n s.t.parts) else none
theorem metsS_app (l m : List Spot) : metsS (l ++ m) = metsS l ++ metsS m := by simp [metsS]
mutual
theorem mets_spots : ∀ (t : Tr) (b : List ByteArray) (tw : Bool), metsS (spotsT b tw t) = metT t
  | .node k s n a l, b, tw => by
    rw [spotsT, metT]
    have h := mets_spotsL k n s l b l 0 []
    by_cases h8 : 0 ≤ ownN k n l
    · simpa [metsS, Tr.kind, Tr.n, Tr.parts, Tr.name, h8] using h
    · simpa [metsS, Tr.kind, Tr.n, Tr.parts, Tr.name, h8] using h
theorem mets_spotsL (k n : Int) (s : ByteArray) (all : List Tr) (b : List ByteArray) : ∀ (l : List Tr) (i : Nat) (ah : List ByteArray), metsS (spotsL k n s all b i ah l) = metL k n i l
  | [], i, ah => by rw [spotsL, metL]; rfl
  | t :: r, i, ah => by
    rw [spotsL, metL]
    split
    · rw [List.nil_append]; exact mets_spotsL k n s all b r (i + 1) ah
    · rw [metsS_app, mets_spots t, mets_spotsL k n s all b r]
end
/-- What is wrong with a place itself; 0: nothing. -/
def badS (A : List (ByteArray × Int)) (x : Spot) : Int :=
  if x.free = true then 50 else if 0 ≤ ownN x.t.kind x.t.n x.t.parts ∧ ofN A x.t.name ≠ ownN x.t.kind x.t.n x.t.parts then 51
  else if x.twin = true ∨ (x.t.kind = 8 ∧ twiceN (varsN x.t.n x.t.parts) = true) then 52 else 0
/-- The first place with which something is wrong. -/
def firstS (A : List (ByteArray × Int)) : List Spot → Int × Int
  | [] => (0, 0)
  | x :: r => if badS A x ≠ 0 then (x.t.place, badS A x) else firstS A r
theorem firstS_app (A : List (ByteArray × Int)) : ∀ (l m : List Spot), firstS A (l ++ m) = if (firstS A l).2 ≠ 0 then firstS A l else firstS A m
  | [], m => by simp [firstS]
  | x :: r, m => by
    rw [List.cons_append, firstS, firstS]
    by_cases h : badS A x ≠ 0
    · rw [if_pos h, if_pos h, if_pos h]
    · rw [if_neg h, if_neg h, firstS_app A r m]
/-- Alternatives stand behind the first part of a case alone. -/
def AltOk (k : Int) : Nat → List Tr → Prop
  | _, [] => True
  | i, t :: r => (t.kind = 8 ↔ k = 7 ∧ 0 < i) ∧ AltOk k (i + 1) r
mutual
def AltT : Tr → Prop
  | .node k _ n _ l => (∀ i, fromN k n ≤ i → AltOk k i (l.drop i)) ∧ AltTL l
def AltTL : List Tr → Prop
  | [] => True
  | t :: r => AltT t ∧ AltTL r
end
mutual
theorem first_spots (A : List (ByteArray × Int)) : ∀ (t : Tr) (b ah : List ByteArray) (tw : Bool), AltT t → (tw = (decide (t.kind = 8) && inN ah t.name)) → firstS A (spotsT b tw t) = badT A b ah t
  | .node k s n a l, b, ah, tw, hA, htw => by
    rw [AltT] at hA
    rw [spotsT, badT, firstS]
    have h := first_spotsL A k n s l b l 0 [] (fun i hi => by have := hA.1 i (by omega); simpa using this) (by simp) hA.2
    have hb : badS A ⟨.node k s n a l, decide (k = 1) && !inN b s, tw⟩ = if k = 1 ∧ inN b s = false then 50 else if 0 ≤ ownN k n l ∧ ofN A s ≠ ownN k n l then 51 else if k = 8 ∧ (twiceN (varsN n l) = true ∨ inN ah s = true) then 52 else 0 := by
      rw [badS]
      simp only [Tr.kind, Tr.n, Tr.parts, Tr.name, htw, Bool.and_eq_true, decide_eq_true_eq, Bool.not_eq_true']
      congr 1
      congr 1
      by_cases hk : k = 8
      · by_cases h1 : twiceN (varsN n l) = true
        · simp [hk, h1]
        · by_cases h2 : inN ah s = true
          · simp [hk, h2]
          · simp [hk, h1, h2]
      · simp [hk]
    rw [hb]
    by_cases h1 : k = 1 ∧ inN b s = false
    · simp [h1, Tr.place]
    · rw [if_neg h1, if_neg h1]
      by_cases h2 : 0 ≤ ownN k n l ∧ ofN A s ≠ ownN k n l
      · rw [if_pos h2, if_pos h2]; simp [Tr.place]
      · rw [if_neg h2, if_neg h2]
        by_cases h3 : k = 8 ∧ (twiceN (varsN n l) = true ∨ inN ah s = true)
        · rw [if_pos h3, if_pos h3]; simp [Tr.place]
        · rw [if_neg h3, if_neg h3]
          simpa using h
theorem first_spotsL (A : List (ByteArray × Int)) (k n : Int) (s : ByteArray) (all : List Tr) (b : List ByteArray) : ∀ (l : List Tr) (i : Nat) (ah : List ByteArray),
    (∀ j, fromN k n ≤ i + j → AltOk k (i + j) (l.drop j)) → (True) → AltTL l → firstS A (spotsL k n s all b i ah l) = badL A k n s all b i ah l
  | [], i, ah, _, _, _ => by rw [spotsL, badL, firstS]
  | t :: r, i, ah, hO, _, hT => by
    rw [AltTL] at hT
    rw [spotsL, badL]
    have hr : ∀ j, fromN k n ≤ i + 1 + j → AltOk k (i + 1 + j) (r.drop j) := fun j hj => by
      have := hO (j + 1) (by omega)
      rw [show i + (j + 1) = i + 1 + j from by omega] at this
      simpa using this
    by_cases hi : i < fromN k n
    · rw [if_pos hi, if_pos hi]
      exact first_spotsL A k n s all b r (i + 1) ah hr trivial hT.2
    · rw [if_neg hi, if_neg hi]
      have h0 := hO 0 (by omega)
      rw [List.drop_zero, Nat.add_zero, AltOk] at h0
      rw [firstS_app, first_spots A t _ ah _ hT.1 rfl, first_spotsL A k n s all b r (i + 1) _ hr trivial hT.2]
      have he : (if t.kind = 8 then ah ++ [t.name] else ah) = (if k = 7 ∧ 0 < i then ah ++ [t.name] else ah) := by
        by_cases h8 : t.kind = 8
        · rw [if_pos h8, if_pos (h0.1.1 h8)]
        · rw [if_neg h8, if_neg (fun h => h8 (h0.1.2 h))]
      rw [he]
end
end Lx
end Go.Proofs.YtobdoahdjbmflaaGreatDoor
namespace Go.Proofs.YtobdoahdjbmflaaGreatDoor
namespace Lx
set_option maxRecDepth 100000
mutual
/-- A tree's parts are as many as its kind wants. -/
def okT : Tr → Prop
  | .node k _ n _ l => ((k = 8 → 0 ≤ n ∧ n + 1 = (l.length : Int)) ∧ (k = 1 → l = [] ∧ n = 0) ∧ (k = 2 → l.length = 1 ∧ n = 0) ∧ (k = 3 ∨ k = 4 ∨ k = 5 ∨ k = 10 → l.length = 2 ∧ n = 0) ∧ (k = 9 → l = [] ∧ 0 ≤ n ∧ n < 1000000000000000000) ∧ (k ≠ 8 → k ≠ 9 → n = 0) ∧ l.length ≤ 9) ∧ okL l
def okL : List Tr → Prop
  | [] => True
  | t :: r => okT t ∧ okL r
end
theorem okL_mem : ∀ (l : List Tr) (t : Tr), t ∈ l → okL l → okT t
  | [], t, h, _ => by simp at h
  | a :: r, t, h, ht => by
    rw [okL] at ht
    rcases List.mem_cons.1 h with rfl | h
    · exact ht.1
    · exact okL_mem r t h ht.2
theorem parts_ok {k n : Int} {m : Nat} (h : partsV k n m = true) : (k = 8 → 0 ≤ n ∧ n + 1 = (m : Int)) ∧ (k = 1 → m = 0 ∧ n = 0) ∧ (k = 2 → m = 1 ∧ n = 0) ∧ (k = 3 ∨ k = 4 ∨ k = 5 ∨ k = 10 → m = 2 ∧ n = 0) ∧ (k = 9 → m = 0 ∧ 0 ≤ n ∧ n < 1000000000000000000) ∧ (k ≠ 8 → k ≠ 9 → n = 0) ∧ m ≤ 9 := by
  unfold partsV at h
  split at h
  · simp at h; omega
  · split at h
    · simp at h; omega
    · split at h
      · simp at h; omega
      · split at h
        · simp at h; omega
        · split at h
          · simp at h; omega
          · split at h
            · simp at h; omega
            · split at h
              · simp at h; omega
              · cases h
mutual
theorem mayR_ok : ∀ (t : Tr) (alt : Bool), mayRT t alt = true → okT t
  | .node k s n a l, alt, h => by
    rw [mayRT] at h
    simp only [Bool.and_eq_true] at h
    obtain ⟨_, _, h2, _, h3⟩ := h
    rw [okT]
    have := parts_ok h2
    exact ⟨⟨this.1, fun e => ⟨List.eq_nil_of_length_eq_zero (this.2.1 e).1, (this.2.1 e).2⟩, this.2.2.1, this.2.2.2.1, fun e => ⟨List.eq_nil_of_length_eq_zero (this.2.2.2.2.1 e).1, (this.2.2.2.2.1 e).2⟩, this.2.2.2.2.2⟩, mayRL_ok l k n 0 h3⟩
theorem mayRL_ok : ∀ (l : List Tr) (k n : Int) (i : Nat), mayRL k n i l = true → okL l
  | [], _, _, _, _ => by rw [okL]; trivial
  | t :: r, k, n, i, h => by
    rw [mayRL] at h
    simp only [Bool.and_eq_true] at h
    rw [okL]
    exact ⟨mayR_ok t _ h.2.1, mayRL_ok r k n (i + 1) h.2.2⟩
end
theorem onceN_app (a x y : List (ByteArray × Int)) : onceN a (x ++ y) = onceN (onceN a x) y := by
  induction x generalizing a with
  | nil => rfl
  | cons p r ih =>
    obtain ⟨s, n⟩ := p
    simp only [List.cons_append, onceN]
    split
    · exact ih _
    · exact ih _
theorem onceN_len (a x : List (ByteArray × Int)) : a.length ≤ (onceN a x).length ∧ (onceN a x).length ≤ a.length + x.length := by
  induction x generalizing a with
  | nil => simp [onceN]
  | cons p r ih =>
    obtain ⟨s, n⟩ := p
    simp only [onceN, List.length_cons]
    split
    · have := ih (a ++ [(s, n)]); simp only [List.length_append, List.length_singleton] at this; omega
    · have := ih a; omega
theorem metL_skip (k n : Int) (l : List Tr) (j : Nat) (h : j ≤ fromN k n) (hl : fromN k n ≤ l.length) : metL k n j (l.drop j) = metL k n (fromN k n) (l.drop (fromN k n)) := by
  obtain ⟨d, hd⟩ : ∃ d, fromN k n = j + d := ⟨fromN k n - j, by omega⟩
  induction d generalizing j with
  | zero => rw [show fromN k n = j from by omega]
  | succ d ih =>
    have hj : j < l.length := by omega
    rw [List.drop_eq_getElem_cons hj, metL, if_pos (by omega), List.nil_append]
    exact ih (j + 1) (by omega) (by omega)
theorem badL_skip (A : List (ByteArray × Int)) (k n : Int) (s : ByteArray) (l : List Tr) (b : List ByteArray) (j : Nat) (h : j ≤ fromN k n) (hl : fromN k n ≤ l.length) : badL A k n s l b j [] (l.drop j) = badL A k n s l b (fromN k n) [] (l.drop (fromN k n)) := by
  obtain ⟨d, hd⟩ : ∃ d, fromN k n = j + d := ⟨fromN k n - j, by omega⟩
  induction d generalizing j with
  | zero => rw [show fromN k n = j from by omega]
  | succ d ih =>
    have hj : j < l.length := by omega
    rw [List.drop_eq_getElem_cons hj, badL, if_pos (by omega)]
    exact ih (j + 1) (by omega) (by omega)
mutual
theorem metT_len : ∀ t : Tr, (metT t).length ≤ sizeT t
  | .node k s n a l => by
    rw [metT, sizeT, List.length_append]
    have := metL_len l k n 0
    split <;> simp <;> omega
theorem metL_len : ∀ (l : List Tr) (k n : Int) (i : Nat), (metL k n i l).length ≤ sizeL l
  | [], _, _, _ => by simp [metL, sizeL]
  | t :: r, k, n, i => by
    rw [metL, sizeL, List.length_append]
    have := metT_len t
    have := metL_len r k n (i + 1)
    split <;> simp <;> omega
end
theorem sizeL_drop (l : List Tr) (i : Nat) (h : i < l.length) : sizeL (l.drop i) = sizeT (l[i]'h) + sizeL (l.drop (i + 1)) := by
  rw [List.drop_eq_getElem_cons h, sizeL]
end Lx
end Go.Proofs.YtobdoahdjbmflaaGreatDoor
namespace Go.Proofs.YtobdoahdjbmflaaGreatDoor
namespace Lx
set_option maxRecDepth 100000
theorem mayRL_drop (k n : Int) : ∀ (l : List Tr) (i j : Nat), mayRL k n i l = true → mayRL k n (i + j) (l.drop j) = true
  | [], i, j, _ => by rw [List.drop_nil, mayRL]
  | t :: r, i, 0, h => by simpa using h
  | t :: r, i, j + 1, h => by
    rw [mayRL] at h
    simp only [Bool.and_eq_true] at h
    have := mayRL_drop k n r (i + 1) j h.2.2
    rw [show i + 1 + j = i + (j + 1) from by omega] at this
    exact this
theorem altOk_of (k n : Int) : ∀ (l : List Tr) (i : Nat), mayRL k n i l = true → AltOk k i l
  | [], i, _ => by rw [AltOk]; trivial
  | t :: r, i, h => by
    rw [mayRL] at h
    simp only [Bool.and_eq_true] at h
    rw [AltOk]
    refine ⟨?_, altOk_of k n r (i + 1) h.2.2⟩
    obtain ⟨tk, ts, tn, ta, tl⟩ := t
    have h1 := h.2.1
    rw [mayRT] at h1
    simp only [Bool.and_eq_true, beq_iff_eq] at h1
    have h2 := h1.1
    rw [Bool.eq_iff_iff] at h2
    simpa [Tr.kind] using h2
mutual
theorem altT_of : ∀ (t : Tr) (alt : Bool), mayRT t alt = true → AltT t
  | .node k s n a l, alt, h => by
    rw [mayRT] at h
    simp only [Bool.and_eq_true] at h
    rw [AltT]
    refine ⟨fun i _ => altOk_of k n _ _ (by have := mayRL_drop k n l 0 i h.2.2.2.2; rwa [Nat.zero_add] at this), altTL_of l k n 0 h.2.2.2.2⟩
theorem altTL_of : ∀ (l : List Tr) (k n : Int) (i : Nat), mayRL k n i l = true → AltTL l
  | [], k, n, i, _ => by rw [AltTL]; trivial
  | t :: r, k, n, i, h => by
    rw [mayRL] at h
    simp only [Bool.and_eq_true] at h
    rw [AltTL]
    exact ⟨altT_of t _ h.2.1, altTL_of r k n (i + 1) h.2.2⟩
end
/-- What a map holds behind a row of arities: the last one of a name. -/
def arN (l : List (ByteArray × Int)) : ByteArray → Int := l.foldl (fun C p v => if v = p.1 then p.2 else C v) fun _ => 0
theorem arN_snoc (l : List (ByteArray × Int)) (p : ByteArray × Int) : arN (l ++ [p]) = fun v => if v = p.1 then p.2 else arN l v := by
  unfold arN
  rw [List.foldl_append]
  rfl
theorem ofN_app (a b : List (ByteArray × Int)) (v : ByteArray) (h : 0 ≤ ofN a v) : ofN (a ++ b) v = ofN a v := by
  induction a with
  | nil => rw [ofN] at h; omega
  | cons x r ih =>
    obtain ⟨s, n⟩ := x
    rw [List.cons_append, ofN, ofN]
    by_cases e : s = v
    · rw [if_pos e, if_pos e]
    · rw [ofN, if_neg e] at h
      rw [if_neg e, if_neg e]
      exact ih h
/-- All are numbers, and a name stands once. -/
def goodA (l : List (ByteArray × Int)) : Prop := (∀ p ∈ l, 0 ≤ p.2) ∧ ∀ v, 0 ≤ ofN l v → arN l v = ofN l v
theorem ofN_last (l : List (ByteArray × Int)) (s v : ByteArray) (n : Int) (hl : ∀ p ∈ l, 0 ≤ p.2) : ofN (l ++ [(s, n)]) v = if 0 ≤ ofN l v then ofN l v else if s = v then n else -1 := by
  induction l with
  | nil => rw [List.nil_append, ofN, ofN, ofN]; simp
  | cons a r ih =>
    obtain ⟨x, y⟩ := a
    rw [List.cons_append, ofN, ofN]
    by_cases h : x = v
    · rw [if_pos h, if_pos h, if_pos (hl (x, y) List.mem_cons_self)]
    · rw [if_neg h, if_neg h]
      exact ih fun p hp => hl p (List.mem_cons_of_mem _ hp)
theorem goodA.snoc {l : List (ByteArray × Int)} (h : goodA l) (s : ByteArray) (n : Int) (hn : 0 ≤ n) (ho : ofN l s < 0) : goodA (l ++ [(s, n)]) := by
  refine ⟨fun p hp => ?_, fun v hv => ?_⟩
  · rcases List.mem_append.1 hp with hp | hp
    · exact h.1 p hp
    · simp at hp; subst hp; exact hn
  · rw [ofN_last l s v n h.1] at hv ⊢
    rw [arN_snoc]
    by_cases hv0 : 0 ≤ ofN l v
    · have e : ¬ v = s := fun e => by subst e; omega
      simp only [if_neg e]
      rw [if_pos hv0]
      exact h.2 v hv0
    · rw [if_neg hv0] at hv ⊢
      by_cases e : s = v
      · subst e; simp
      · rw [if_neg e] at hv; omega
theorem goodA.once : ∀ {l : List (ByteArray × Int)} (r : List (ByteArray × Int)), goodA l → (∀ p ∈ r, 0 ≤ p.2) → goodA (onceN l r)
  | l, [], h, _ => h
  | l, (x, n) :: r, h, hr => by
    rw [onceN]
    have hr' : ∀ p ∈ r, 0 ≤ p.2 := fun p hp => hr p (List.mem_cons_of_mem _ hp)
    by_cases ho : ofN l x < 0
    · rw [if_pos ho]
      exact goodA.once r (h.snoc x n (hr (x, n) List.mem_cons_self) ho) hr'
    · rw [if_neg ho]
      exact goodA.once r h hr'
theorem ofN_once_mono : ∀ (r l : List (ByteArray × Int)) (v : ByteArray), 0 ≤ ofN l v → ofN (onceN l r) v = ofN l v
  | [], l, v, h => rfl
  | (x, n) :: r, l, v, h => by
    rw [onceN]
    by_cases ho : ofN l x < 0
    · rw [if_pos ho]
      have h2 := ofN_app l [(x, n)] v h
      rw [ofN_once_mono r (l ++ [(x, n)]) v (by rw [h2]; exact h), h2]
    · rw [if_neg ho]
      exact ofN_once_mono r l v h
theorem ofN_once_mem : ∀ (r l : List (ByteArray × Int)), goodA l → (∀ p ∈ r, 0 ≤ p.2) → ∀ p ∈ r, 0 ≤ ofN (onceN l r) p.1
  | [], l, _, _, p, hp => by simp at hp
  | (x, n) :: r, l, h, hr, p, hp => by
    have hr' : ∀ p ∈ r, 0 ≤ p.2 := fun p hp => hr p (List.mem_cons_of_mem _ hp)
    have hn : 0 ≤ n := hr (x, n) List.mem_cons_self
    rw [onceN]
    rcases List.mem_cons.1 hp with rfl | hp
    · by_cases ho : ofN l x < 0
      · rw [if_pos ho]
        have h2 : ofN (l ++ [(x, n)]) x = n := by rw [ofN_last l x x n h.1, if_neg (by omega), if_pos rfl]
        rw [ofN_once_mono r _ x (by rw [h2]; exact hn), h2]
        exact hn
      · rw [if_neg ho, ofN_once_mono r l x (by omega)]
        omega
    · by_cases ho : ofN l x < 0
      · rw [if_pos ho]; exact ofN_once_mem r _ (h.snoc x n hn ho) hr' p hp
      · rw [if_neg ho]; exact ofN_once_mem r l h hr' p hp
theorem goodA_heads : goodA heads5 := by
  have h0 : goodA [] := ⟨by simp, fun v hv => by rw [ofN] at hv; omega⟩
  have h1 := h0.snoc ⟨#[84, 114, 117, 101]⟩ 0 (by omega) (by rw [ofN]; omega)
  exact h1.snoc ⟨#[70, 97, 108, 115, 101]⟩ 0 (by omega) (by decide)
theorem mets_nn : ∀ (l : List Spot) (p : ByteArray × Int), p ∈ metsS l → 0 ≤ p.2 := fun l p hp => by
  unfold metsS at hp
  rw [List.mem_filterMap] at hp
  obtain ⟨x, _, hx⟩ := hp
  split at hx
  · rename_i h
    injection hx with hx
    rw [← hx]
    exact h
  · cases hx
/-- The constructors of a tree: each place's own name is there, and the map tells its arity. -/
theorem cons_has {t : Tr} {x : Spot} (hx : x ∈ spotsT [] false t) (h : 0 ≤ ownN x.t.kind x.t.n x.t.parts) : arN (consT t) x.t.name = ofN (consT t) x.t.name := by
  have hm : (x.t.name, ownN x.t.kind x.t.n x.t.parts) ∈ metT t := by
    rw [← mets_spots t [] false]
    unfold metsS
    rw [List.mem_filterMap]
    exact ⟨x, hx, by rw [if_pos h]⟩
  have hnn : ∀ p ∈ metT t, 0 ≤ p.2 := by
    rw [← mets_spots t [] false]
    exact mets_nn _
  exact (goodA_heads.once (metT t) hnn).2 _ (ofN_once_mem (metT t) heads5 goodA_heads hnn _ hm)
end Lx
end Go.Proofs.YtobdoahdjbmflaaGreatDoor
namespace Go.Proofs.YtobdoahdjbmflaaGreatDoor
open Go
namespace Lx
set_option maxRecDepth 100000
section
variable {P : Program} {ops : Array Oper} {Q : Exit → Act → World → Prop} {md : Region.Mode} {S : World → Prop} {last : Nat}

/-- Whatever order is picked from here on, and S holds behind every operation but the last. -/
def wpAnyK (P : Program) (md : Region.Mode) (ops : Array Oper) (Q : Exit → Act → World → Prop) (S : World → Prop) (last : Nat) : Nat → Array Bool → Act → World → Prop
  | 0, listed, a, w => Region.ready md ops listed = [] ∧ Q .normal a w
  | fuel + 1, listed, a, w =>
    (Region.ready md ops listed = [] → Q .normal a w) ∧
    ∀ i ∈ Region.ready md ops listed, wpOp P ops Q i (fun a' w' => (i ≠ last → S w') ∧ wpAnyK P md ops Q S last fuel (listed.setIfInBounds i true) a' w') a w
theorem wpAny_of_K : ∀ (fuel : Nat) (listed : Array Bool) (a : Act) (w : World), wpAnyK P md ops Q S last fuel listed a w → wpAny P md ops Q fuel listed a w
  | 0, _, _, _, h => h
  | fuel + 1, _, _, _, h => ⟨h.1, fun i hi => wpOp_mono (fun a' w' h' => wpAny_of_K fuel _ a' w' h'.2) (h.2 i hi)⟩
/-- The last operation waits for number i. -/
def waitsB (md : Region.Mode) (ops : Array Oper) (last i : Nat) : Bool :=
  match ops[last]? with
  | some o => o.after.any fun e => Region.binds md e && e.on == i
  | none => false
theorem waits_ready {i : Nat} {listed : Array Bool} (h : waitsB md ops last i = true) (hl : last ∈ Region.ready md ops listed) : listed.getD i false = true := by
  obtain ⟨_, o, ho, hall⟩ := mem_ready.1 hl
  unfold waitsB at h
  rw [ho] at h
  obtain ⟨e, he, hb⟩ := Array.any_eq_true'.1 h
  simp only [Bool.and_eq_true, beq_iff_eq] at hb
  have := hall e he hb.1
  rwa [hb.2] at this
theorem unlisted {i : Nat} {listed : Array Bool} (h : listed.getD i true = false) : listed.getD i false ≠ true := by
  intro h'
  rcases Nat.lt_or_ge i listed.size with hl | hl
  · simp [hl] at h h'; rw [h] at h'; cases h'
  · simp [Array.getElem?_eq_none hl] at h
theorem wpAnyK_first {i : Nat} {oi : Oper} {v : Value} (hi : ops[i]? = some oi) (hsel : ∀ (j : Nat) (o : Oper) cs b, ops[j]? = some o → o.op ≠ .select cs b)
    (hQ : ∀ c a w, Q (.panic c) (a.put oi.dst v) w → Q (.panic c) a w) (hwt : waitsB md ops last i = true) :
    ∀ (fuel : Nat) (listed : Array Bool) (a : Act) (w : World),
      (∀ j oj, ops[j]? = some oj → j ≠ i → listed.getD j true = false → (∀ e ∈ oj.after, Region.binds md e = true → e.on ≠ i) → oi.apart ops oj = true) →
      i ∈ Region.ready md ops listed → YieldsIf P ops S oi v a → S w →
      wpAnyK P md ops Q S last fuel (listed.setIfInBounds i true) (a.put oi.dst v) w → wpAnyK P md ops Q S last (fuel + 1) listed a w := by
  intro fuel
  induction fuel with
  | zero =>
    intro listed a w _ hr hy hS H
    refine ⟨fun h => (by rw [h] at hr; cases hr), fun j hj => ?_⟩
    by_cases hji : j = i
    · subst hji; exact hy.wpOp hi hS ⟨fun _ => hS, H⟩
    · have := ready_mono hj hji
      rw [H.1] at this
      cases this
  | succ fuel ih =>
    intro listed a w hfree hr hy hS H
    refine ⟨fun h => (by rw [h] at hr; cases hr), fun j hj => ?_⟩
    by_cases hji : j = i
    · subst hji; exact hy.wpOp hi hS ⟨fun _ => hS, H⟩
    · have hjl : j ≠ last := fun e => by
        subst e
        exact unlisted (mem_ready.1 hr).1 (waits_ready hwt hj)
      have h1 := H.2 j (ready_mono hj hji)
      obtain ⟨hjun, oj, hoj, hall⟩ := mem_ready.1 hj
      have hnot : ∀ e ∈ oj.after, Region.binds md e = true → e.on ≠ i := fun e he hb heq => by
        have h1 := hall e he hb
        rw [heq] at h1
        exact unlisted (mem_ready.1 hr).1 h1
      have h2 := wpOp_putIf hoj (hfree j oj hoj hji hjun hnot) (fun cs b => hsel i oi cs b hi) (fun cs b => hsel j oj cs b hoj) hQ hy h1
      have hfree' : ∀ k ok, ops[k]? = some ok → k ≠ i → (listed.setIfInBounds j true).getD k true = false →
          (∀ e ∈ ok.after, Region.binds md e = true → e.on ≠ i) → oi.apart ops ok = true := fun k ok hk hki hun hno => by
        refine hfree k ok hk hki ?_ hno
        by_cases hjk : j = k
        · subst hjk; exact hjun
        · rw [getD_set_ne true hjk] at hun; exact hun
      refine wpOp_mono (fun a' w' h3 => ⟨h3.2.1, ih (listed.setIfInBounds j true) a' w' hfree' (ready_mono hr (Ne.symm hji)) h3.1 (h3.2.1 hjl) ?_⟩) h2
      rw [Array.setIfInBounds_comm _ _ hji]
      exact h3.2.2
theorem wpAnyK_take {i : Nat} {oi : Oper} {v : Value} {fuel : Nat} {listed : Array Bool} {a : Act} {w : World} (hi : ops[i]? = some oi)
    (hs : Region.noSelect ops = true) (hwt : waitsB md ops last i = true) (hf : Region.free md ops listed i = true) (hr : (Region.ready md ops listed).contains i = true)
    (hQ : ∀ c a w, Q (.panic c) (a.put oi.dst v) w → Q (.panic c) a w) (hy : YieldsIf P ops S oi v a) (hS : S w)
    (h : wpAnyK P md ops Q S last fuel (listed.setIfInBounds i true) (a.put oi.dst v) w) : wpAnyK P md ops Q S last (fuel + 1) listed a w :=
  wpAnyK_first hi (Region.noSelect_spec hs) hQ hwt fuel listed a w (Region.free_spec hi hf) (by simpa using hr) hy hS h
/-- One operation alone may come up. -/
theorem wpAnyK_one {i : Nat} {o : Oper} {fuel : Nat} {listed : Array Bool} {a : Act} {w : World} (ho : ops[i]? = some o) (hg : o.guard = none) (hr : Region.ready md ops listed = [i])
    (h : ∀ K' : Act → World → Prop, Shut (∀ a w, (i ≠ last → S w) → ((i ≠ last → S w) → wpAnyK P md ops Q S last fuel (listed.setIfInBounds i true) a w) → K' a w) → Oper.wp P o a w K' Q) :
    wpAnyK P md ops Q S last (fuel + 1) listed a w := by
  refine ⟨fun h0 => (by rw [hr] at h0; cases h0), fun j hj => ?_⟩
  rw [hr] at hj
  obtain rfl : j = i := by simpa using hj
  refine wpOp_step ho fun K' hK => ?_
  rw [if_pos (by simp [Region.wanted, hg])]
  exact h K' (fun a w hS hW => hK a w ⟨hS, hW hS⟩)
theorem wpAnyK_done {listed : Array Bool} {a : Act} {w : World} (hr : Region.ready md ops listed = []) (h : Q .normal a w) : ∀ fuel, wpAnyK P md ops Q S last fuel listed a w
  | 0 => ⟨hr, h⟩
  | _ + 1 => ⟨fun _ => h, by rw [hr]; simp⟩
theorem wp_region_K {id : Nat} {a : Act} {w : World} (last : Nat) (hm : P.follows .mixedOrders = true) (hS : S w.drew)
    (h : S w.drew → wpAnyK P .any ops Q S last ops.size (Array.replicate ops.size false) a w.drew) : (Code.region id ops true).wp P Q a w :=
  wp_region_any hm (wpAny_of_K _ _ _ _ (h hS))
end
end Lx
end Go.Proofs.YtobdoahdjbmflaaGreatDoor
