/-
  Texts that lie one behind the other: Plain Tr Te Leaf Shelf Words Tok Sign Scan Toks Rec All Rows4 Tin Ein.
-/
import Derived.Test.YtgnafcnokenogaaProg
import Derived.Lib.Strings
import Derived.WalkKit
import Derived.BigCall
import Derived.WalkLawsBesides
import Derived.Below
import Derived.Lib.Hide
import Derived.Lib.OthersKept
import Derived.Shelf.Abstract
import Derived.Shelf.LaysM
import Derived.Shelf.Strconv.Clone
import Derived.Shelf.Strings.Prefix
import Derived.Laws.OwnMore
import Derived.Laws.Rows
import Derived.Deep.Draws
import Derived.Lib.IndexBytes
import Derived.OwnWalk
import Derived.Recover
import Derived.Defers
import Derived.Tactics
import Derived.Calls
import Derived.RegionTactic
import Derived.BigRegion
import Derived.Lib.SmallJoins
import Derived.Laws.StructEq
import Derived.BigQuiet
import Derived.Deep.QuietTactic
namespace Go.Proofs.Ytgnafcnokenogaa
namespace Lx
set_option maxRecDepth 100000

def lowR (r : Int) : Bool := decide (97 ≤ r) && decide (r ≤ 122)
def upR (r : Int) : Bool := decide (65 ≤ r) && decide (r ≤ 90)
def digR (r : Int) : Bool := decide (48 ≤ r) && decide (r ≤ 57)
def blkR (r : Int) : Bool := (r == 32 || r == 10) || r == 9
def ldR (r : Int) : Bool := lowR r || (upR r || digR r)

/-- How many bytes at the beginning fit. -/
def run (P : Int → Bool) : List UInt8 → Nat
  | [] => 0
  | c :: r => if P (c.toNat : Int) then run P r + 1 else 0

theorem run_le (P : Int → Bool) : ∀ l : List UInt8, run P l ≤ l.length
  | [] => by simp [run]
  | c :: r => by
    have := run_le P r
    by_cases h : P (c.toNat : Int) <;> simp [run, h]; omega

theorem run_drop (P : Int → Bool) (l : List UInt8) (k : Nat) (h : k < l.length) : run P (l.drop k) = if P ((l[k]'h).toNat : Int) then run P (l.drop (k + 1)) + 1 else 0 := by
  rw [List.drop_eq_getElem_cons h, run]
theorem run_nil (P : Int → Bool) (l : List UInt8) (k : Nat) (h : l.length ≤ k) : run P (l.drop k) = 0 := by
  rw [List.drop_eq_nil_of_le h, run]

/-- The number of a text of digits. -/
def numV (l : List UInt8) : Int := l.foldl (fun n c => n * 10 + ((c.toNat : Int) - 48)) 0
theorem numV_nil : numV [] = 0 := rfl
theorem numV_snoc (l : List UInt8) (c : UInt8) : numV (l ++ [c]) = numV l * 10 + ((c.toNat : Int) - 48) := by
  simp [numV, List.foldl_append]
theorem dig_of (P : Int → Bool) : ∀ (l : List UInt8), run P l = l.length → ∀ c ∈ l, P (c.toNat : Int) = true
  | [], _, c, hc => by simp at hc
  | d :: r, h, c, hc => by
    cases hd : P (d.toNat : Int)
    · simp [run, hd] at h
    · simp only [run, hd, if_true, List.length_cons] at h
      rcases List.mem_cons.1 hc with rfl | hc
      · exact hd
      · exact dig_of P r (by omega) c hc
theorem numV_bd : ∀ (k : Nat) (l : List UInt8), l.length = k → (∀ c ∈ l, digR (c.toNat : Int) = true) → 0 ≤ numV l ∧ numV l < 10 ^ k := by
  intro k
  induction k with
  | zero => intro l hl _; have : l = [] := List.eq_nil_of_length_eq_zero hl; subst this; simp [numV]
  | succ k ih =>
    intro l hl h
    have hne : l ≠ [] := by intro e; subst e; simp at hl
    have e := (List.dropLast_concat_getLast hne).symm
    have hc := h (l.getLast hne) (List.getLast_mem hne)
    obtain ⟨a, b⟩ := ih l.dropLast (by simp; omega) (fun c hc => h c (List.dropLast_subset _ hc))
    rw [e, numV_snoc]
    simp only [digR, Bool.and_eq_true, decide_eq_true_eq] at hc
    rw [Int.pow_succ]
    omega
theorem pow_le17 (k : Nat) (h : k < 18) : (10 : Int) ^ k ≤ 100000000000000000 := by
  have : ∀ j : Fin 18, (10 : Int) ^ j.val ≤ 100000000000000000 := by decide
  exact this ⟨k, h⟩
theorem take_snoc (l : List UInt8) (k : Nat) (h : k < l.length) : l.take (k + 1) = l.take k ++ [l[k]'h] := by
  rw [List.take_succ_eq_append_getElem h]

/-- The words that are no names. -/
def wordS (l : List UInt8) : Bool := l == [108, 101, 116] || (l == [108, 101, 116, 114, 101, 99] || (l == [105, 110] || (l == [99, 97, 115, 101] || l == [111, 102])))
/-- A text of letters and digits: its kind and its number, or its error. -/
def numK (l : List UInt8) : Except Int (Int × Int) :=
  if run digR l < l.length then .error 10 else if 18 < l.length ∨ (1 < l.length ∧ l.head? = some 48) then .error 11 else .ok (3, numV l)
def runK (l : List UInt8) : Except Int (Int × Int) :=
  if 0 < run digR l then numK l else if 16 < l.length then .error 11 else if wordS l = true then .ok (4, 0) else if 0 < run lowR l then .ok (1, 0) else .ok (2, 0)

/-- The signs, in the program's order. -/
def signsS : List (List UInt8) := [[45, 62], [61, 61], [92], [46], [40], [41], [61], [123], [125], [124], [43], [45], [42], [47], [60]]
def signOf (l : List UInt8) : Option (List UInt8) := signsS.find? fun g => Lib.hasPrefix l g
theorem find_first {α : Type} (p : α → Bool) (d : α) : ∀ (L : List α) (m : Nat), m < L.length → (∀ j, j < m → p (L.getD j d) = false) → p (L.getD m d) = true → L.find? p = some (L.getD m d)
  | [], m, h, _, _ => by simp at h
  | a :: L, 0, _, _, h => by
    have h1 : p a = true := by simpa using h
    rw [List.find?_cons_of_pos h1]
    rfl
  | a :: L, m + 1, hm, hf, h => by
    have h0 : p a = false := by simpa using hf 0 (by omega)
    rw [List.find?_cons_of_neg (by simp [h0])]
    have := find_first p d L m (by simpa using hm) (fun j hj => by simpa using hf (j + 1) (by omega)) (by simpa using h)
    simpa using this
theorem find_none {α : Type} (p : α → Bool) (d : α) : ∀ (L : List α), (∀ j, j < L.length → p (L.getD j d) = false) → L.find? p = none
  | [], _ => rfl
  | a :: L, hf => by
    have h0 : p a = false := by simpa using hf 0 (by simp)
    rw [List.find?_cons_of_neg (by simp [h0])]
    exact find_none p d L (fun j hj => by simpa using hf (j + 1) (by simpa using hj))
/-- The token at the beginning of a text that begins with no blank: its kind, its number, its text; or its error. -/
def tokK (l : List UInt8) : Except Int (Int × Int × List UInt8) :=
  if 0 < run ldR l then
    match runK (l.take (run ldR l)) with
    | .ok (k, n) => .ok (k, n, l.take (run ldR l))
    | .error e => .error e
  else
    match signOf l with
    | some g => .ok (5, 0, g)
    | none => .error 10

end Lx
end Go.Proofs.Ytgnafcnokenogaa
namespace Go.Proofs.Ytgnafcnokenogaa
namespace Lx
set_option maxRecDepth 100000

inductive Tr where
  | node (kind : Int) (name : ByteArray) (n : Int) (place : Int) (l : List Tr)

def Tr.kind : Tr → Int | .node k _ _ _ _ => k
def Tr.name : Tr → ByteArray | .node _ s _ _ _ => s
def Tr.n : Tr → Int | .node _ _ n _ _ => n
def Tr.place : Tr → Int | .node _ _ _ a _ => a
def Tr.parts : Tr → List Tr | .node _ _ _ _ l => l

mutual
def depthT : Tr → Nat
  | .node _ _ _ _ l => depthL l + 1
def depthL : List Tr → Nat
  | [] => 0
  | t :: r => max (depthT t) (depthL r)
end
mutual
def sizeT : Tr → Nat
  | .node _ _ _ _ l => sizeL l + 1
def sizeL : List Tr → Nat
  | [] => 0
  | t :: r => sizeT t + sizeL r
end
mutual
/-- How many of so many parts are left; -1: there are more, or they lie deeper. -/
def fewT : Tr → Int → Int → Int
  | .node _ _ _ _ l, left, deep => if left < 1 ∨ deep < 1 then -1 else fewL l (left - 1) (deep - 1)
def fewL : List Tr → Int → Int → Int
  | [], left, _ => left
  | t :: r, left, deep => if fewT t left deep < 0 then -1 else fewL r (fewT t left deep) deep
end
mutual
/-- Bare. -/
def bareT : Tr → Tr
  | .node k s n _ l => .node k s n 0 (bareL l)
def bareL : List Tr → List Tr
  | [] => []
  | t :: r => bareT t :: bareL r
end
mutual
/-- The same, but for places. -/
def sameT : Tr → Tr → Bool
  | .node k s n _ l, .node k' s' n' _ l' => decide (k = k') && (decide (s = s') && (decide (n = n') && sameL l l'))
def sameL : List Tr → List Tr → Bool
  | [], [] => true
  | t :: r, t' :: r' => sameT t t' && sameL r r'
  | _, _ => false
end
mutual
/-- The same, places and all. -/
def oneT : Tr → Tr → Bool
  | .node k s n a l, .node k' s' n' a' l' => decide (k = k') && (decide (s = s') && (decide (n = n') && (decide (a = a') && oneL l l')))
def oneL : List Tr → List Tr → Bool
  | [], [] => true
  | t :: r, t' :: r' => oneT t t' && oneL r r'
  | _, _ => false
end

/-- Is a text a token's of kind 1, or of kind 2? -/
def nameV (l : List UInt8) : Bool := decide (0 < run lowR l) && (decide (run ldR l = l.length) && (decide (l.length ≤ 16) && !wordS l))
def conV (l : List UInt8) : Bool := decide (0 < run upR l) && (decide (run ldR l = l.length) && decide (l.length ≤ 16))
def opV (l : List UInt8) : Bool := l == [43] || (l == [45] || (l == [42] || (l == [47] || (l == [60] || l == [61, 61]))))
/-- What a tree's Name is to be, by number: 0 empty, 1 a name, 2 a constructor's, 3 an operator's. -/
def whatV (w : Int) (l : List UInt8) : Bool := if w = 1 then nameV l else if w = 2 then conV l else if w = 3 then opV l else l == []

/-- What trees of a kind have: what their Name is, N at most, parts at least and at most. -/
def shapeV (k : Int) : Option (Int × Int × Int × Int) :=
  if k = 1 then some (1, 0, 0, 0) else if k = 2 then some (1, 0, 1, 1) else if k = 3 then some (0, 0, 2, 2) else if k = 4 then some (1, 0, 2, 2) else if k = 5 then some (1, 0, 2, 2)
  else if k = 6 then some (2, 0, 0, 8) else if k = 7 then some (0, 0, 2, 9) else if k = 8 then some (2, 8, 1, 9) else if k = 9 then some (0, 999999999999999999, 0, 0) else if k = 10 then some (3, 0, 2, 2) else none
/-- Does a tree fit a shape, whatever its parts are? -/
def fitsV (h : Int × Int × Int × Int) (k : Int) (s : List UInt8) (n a : Int) (m : Nat) : Bool :=
  if a < 0 ∨ n < 0 ∨ h.2.1 < n then false
  else if (m : Int) < h.2.2.1 ∨ h.2.2.2 < (m : Int) then false
  else if k = 8 ∧ (m : Int) ≠ n + 1 then false
  else whatV h.1 s
/-- May part number i of a tree be of kind p? -/
def standsV (k n : Int) (i : Nat) (p : Int) : Bool :=
  if k = 7 ∧ 0 < i then decide (p = 8) else if k = 8 ∧ (i : Int) < n then decide (p = 1) else decide (p ≠ 8)
mutual
/-- The program's own reckoning. -/
def mayT : Tr → Bool
  | .node k s n a l =>
    match shapeV k with
    | some h => fitsV h k s.data.toList n a l.length && mayL k n 0 l
    | none => false
def mayL (k n : Int) : Nat → List Tr → Bool
  | _, [] => true
  | i, t :: r => standsV k n i t.kind && (mayT t && mayL k n (i + 1) r)
end
/-- The reference's reckoning. -/
def nameOkV (k : Int) (s : List UInt8) : Bool :=
  if k = 1 ∨ k = 2 ∨ k = 4 ∨ k = 5 then nameV s else if k = 6 ∨ k = 8 then conV s else if k = 10 then opV s else s == []
def partsV (k n : Int) (m : Nat) : Bool :=
  if k = 1 then decide (m = 0) && decide (n = 0) else if k = 2 then decide (m = 1) && decide (n = 0)
  else if k = 3 ∨ k = 4 ∨ k = 5 ∨ k = 10 then decide (m = 2) && decide (n = 0) else if k = 6 then decide (m ≤ 8) && decide (n = 0)
  else if k = 7 then decide (2 ≤ m) && (decide (m ≤ 9) && decide (n = 0)) else if k = 8 then decide (0 ≤ n) && (decide (n ≤ 8) && decide ((m : Int) = n + 1))
  else if k = 9 then decide (m = 0) && (decide (0 ≤ n) && decide (n < 1000000000000000000)) else false
mutual
def mayRT : Tr → Bool → Bool
  | .node k s n a l, alt => (decide (k = 8) == alt) && (nameOkV k s.data.toList && (partsV k n l.length && (decide (0 ≤ a) && mayRL k n 0 l)))
def mayRL (k n : Int) : Nat → List Tr → Bool
  | _, [] => true
  | i, t :: r => !(decide (k = 8) && (decide ((i : Int) < n) && decide (t.kind ≠ 1))) && (mayRT t (decide (k = 7) && decide (0 < i)) && mayRL k n (i + 1) r)
end

theorem fits_eq (k : Int) (s : List UInt8) (n a : Int) (m : Nat) :
    (match shapeV k with | some h => fitsV h k s n a m | none => false) = (nameOkV k s && (partsV k n m && decide (0 ≤ a))) := by
  by_cases ha : 0 ≤ a
  · have ha' : ¬ a < 0 := by omega
    rcases (by omega : k = 1 ∨ k = 2 ∨ k = 3 ∨ k = 4 ∨ k = 5 ∨ k = 6 ∨ k = 7 ∨ k = 8 ∨ k = 9 ∨ k = 10 ∨ (k < 1 ∨ 10 < k)) with rfl | rfl | rfl | rfl | rfl | rfl | rfl | rfl | rfl | rfl | hk
    case inr.inr.inr.inr.inr.inr.inr.inr.inr.inr =>
      have e : ∀ j : Int, 1 ≤ j → j ≤ 10 → k ≠ j := by omega
      simp [shapeV, partsV, e 1, e 2, e 3, e 4, e 5, e 6, e 7, e 8, e 9, e 10]
    all_goals
      simp only [shapeV, fitsV, nameOkV, partsV, whatV]
      simp [ha, ha']
      generalize nameV s = b1
      generalize conV s = b2
      generalize opV s = b3
      rw [Bool.eq_iff_iff]
      by_cases e0 : s = []
      all_goals
        cases b1 <;> cases b2 <;> cases b3 <;> simp [e0] <;> omega
  · have ha' : a < 0 := by omega
    have e : decide (0 ≤ a) = false := by simp; omega
    rw [e]
    simp only [Bool.and_false]
    cases shapeV k <;> simp [fitsV, ha']

mutual
theorem may_eq : ∀ (t : Tr) (alt : Bool), mayRT t alt = ((decide (t.kind = 8) == alt) && mayT t)
  | .node k s n a l, alt => by
    rw [mayRT, mayT, may_eqL k n l 0]
    have h := fits_eq k s.data.toList n a l.length
    show _ = ((decide (k = 8) == alt) && _)
    cases hs : shapeV k with
    | none =>
      rw [hs] at h
      have h' : (nameOkV k s.data.toList && (partsV k n l.length && decide (0 ≤ a))) = false := h.symm
      show ((decide (k = 8) == alt) && (nameOkV k s.data.toList && (partsV k n l.length && (decide (0 ≤ a) && mayL k n 0 l)))) = ((decide (k = 8) == alt) && false)
      cases h1 : nameOkV k s.data.toList <;> cases h2 : partsV k n l.length <;> cases h3 : decide (0 ≤ a) <;> simp_all
    | some h0 =>
      rw [hs] at h
      have h' : fitsV h0 k s.data.toList n a l.length = (nameOkV k s.data.toList && (partsV k n l.length && decide (0 ≤ a))) := h
      show _ = ((decide (k = 8) == alt) && (fitsV h0 k s.data.toList n a l.length && mayL k n 0 l))
      rw [h']
      simp [Bool.and_assoc]
theorem may_eqL : ∀ (k n : Int) (l : List Tr) (i : Nat), mayRL k n i l = mayL k n i l
  | k, n, [], i => rfl
  | k, n, t :: r, i => by
    rw [mayRL, mayL, may_eqL k n r (i + 1), may_eq t]
    unfold standsV
    cases mayT t
    · simp
    · by_cases h7 : k = 7
      · subst h7
        by_cases hi : 0 < i <;> simp [hi]
      · by_cases h8 : k = 8
        · subst h8
          by_cases hi : (i : Int) < n
          · by_cases h1 : t.kind = 1
            · simp [h1, hi]
            · simp [h1, hi]
          · simp [hi]
        · simp [h7, h8]
end

theorem depthL_snoc (l : List Tr) (t : Tr) : depthL (l ++ [t]) = max (depthL l) (depthT t) := by
  induction l with
  | nil => simp [depthL]
  | cons a r ih => simp only [List.cons_append, depthL, ih]; omega
theorem sizeL_snoc (l : List Tr) (t : Tr) : sizeL (l ++ [t]) = sizeL l + sizeT t := by
  induction l with
  | nil => simp [sizeL]
  | cons a r ih => simp only [List.cons_append, sizeL, ih]; omega
theorem bareL_map (l : List Tr) : bareL l = l.map bareT := by
  induction l with
  | nil => rfl
  | cons a r ih => simp [bareL, ih]
theorem depth_pos (t : Tr) : 0 < depthT t := by cases t; simp [depthT]
theorem size_pos (t : Tr) : 0 < sizeT t := by cases t; simp [sizeT]
theorem depthL_mem : ∀ (l : List Tr) (t : Tr), t ∈ l → depthT t ≤ depthL l
  | [], t, h => by simp at h
  | a :: r, t, h => by
    rw [depthL]
    rcases List.mem_cons.1 h with rfl | h
    · omega
    · have := depthL_mem r t h; omega
theorem sizeL_mem : ∀ (l : List Tr) (t : Tr), t ∈ l → sizeT t ≤ sizeL l
  | [], t, h => by simp at h
  | a :: r, t, h => by
    rw [sizeL]
    rcases List.mem_cons.1 h with rfl | h
    · omega
    · have := sizeL_mem r t h; omega
theorem sizeL_len : ∀ l : List Tr, l.length ≤ sizeL l
  | [] => by simp [sizeL]
  | a :: r => by
    have := sizeL_len r
    have := size_pos a
    simp only [List.length_cons, sizeL]; omega
mutual
theorem depth_le_size : ∀ t : Tr, depthT t ≤ sizeT t
  | .node _ _ _ _ l => by rw [depthT, sizeT]; have := depthL_le_size l; omega
theorem depthL_le_size : ∀ l : List Tr, depthL l ≤ sizeL l
  | [] => by simp [depthL]
  | t :: r => by rw [depthL, sizeL]; have := depth_le_size t; have := depthL_le_size r; omega
end
theorem depthL_take (l : List Tr) (i : Nat) : depthL (l.take i) ≤ depthL l := by
  induction l generalizing i with
  | nil => simp
  | cons a r ih =>
    cases i with
    | zero => simp [depthL]
    | succ i => simp only [List.take_succ_cons, depthL]; have := ih i; omega
theorem sizeL_take (l : List Tr) (i : Nat) : sizeL (l.take i) ≤ sizeL l := by
  induction l generalizing i with
  | nil => simp
  | cons a r ih =>
    cases i with
    | zero => simp [sizeL]
    | succ i => simp only [List.take_succ_cons, sizeL]; have := ih i; omega

theorem sameL_len : ∀ l l' : List Tr, sameL l l' = true → l.length = l'.length
  | [], [], _ => rfl
  | [], _ :: _, h => by simp [sameL] at h
  | _ :: _, [], h => by simp [sameL] at h
  | a :: r, a' :: r', h => by
    rw [sameL, Bool.and_eq_true] at h
    simp [sameL_len r r' h.2]
theorem oneL_len : ∀ l l' : List Tr, oneL l l' = true → l.length = l'.length
  | [], [], _ => rfl
  | [], _ :: _, h => by simp [oneL] at h
  | _ :: _, [], h => by simp [oneL] at h
  | a :: r, a' :: r', h => by
    rw [oneL, Bool.and_eq_true] at h
    simp [oneL_len r r' h.2]
mutual
theorem few_size : ∀ (t : Tr) (a d : Int), 0 ≤ fewT t a d → (sizeT t : Int) + fewT t a d = a ∧ (depthT t : Int) ≤ d
  | .node _ _ _ _ l, a, d, h => by
    rw [fewT] at h ⊢
    split at h
    · omega
    · rename_i h1
      rw [if_neg h1]
      have h2 := few_sizeL l (a - 1) (d - 1) h
      rw [sizeT, depthT]
      rcases h2.2 with h4 | rfl
      · omega
      · simp only [depthL, sizeL] at h2 ⊢
        omega
theorem few_sizeL : ∀ (l : List Tr) (a d : Int), 0 ≤ fewL l a d → (sizeL l : Int) + fewL l a d = a ∧ ((depthL l : Int) ≤ d ∨ l = [])
  | [], a, d, h => by simp [fewL, sizeL]
  | t :: r, a, d, h => by
    rw [fewL] at h ⊢
    split at h
    · omega
    · rename_i h1
      rw [if_neg h1]
      have h2 := few_size t a d (by omega)
      have h3 := few_sizeL r (fewT t a d) d h
      rw [sizeL, depthL]
      refine ⟨by omega, .inl ?_⟩
      rcases h3.2 with h4 | rfl
      · omega
      · simp [depthL]; omega
end
end Lx
end Go.Proofs.Ytgnafcnokenogaa
namespace Go.Proofs.Ytgnafcnokenogaa
namespace Lx
set_option maxRecDepth 100000

inductive Te where
  | node (kind : Int) (n : Int) (name : ByteArray) (l : List Te)

def Te.kind : Te → Int | .node k _ _ _ => k
def Te.n : Te → Int | .node _ n _ _ => n
def Te.name : Te → ByteArray | .node _ _ s _ => s
def Te.parts : Te → List Te | .node _ _ _ l => l

mutual
def depthE : Te → Nat
  | .node _ _ _ l => depthEL l + 1
def depthEL : List Te → Nat
  | [] => 0
  | t :: r => max (depthE t) (depthEL r)
end
mutual
def sizeE : Te → Nat
  | .node _ _ _ l => sizeEL l + 1
def sizeEL : List Te → Nat
  | [] => 0
  | t :: r => sizeE t + sizeEL r
end
mutual
/-- How many of so many parts are left; -1: there are more, or they lie deeper. -/
def fewE : Te → Int → Int → Int
  | .node _ _ _ l, left, deep => if left < 1 ∨ deep < 1 then -1 else fewEL l (left - 1) (deep - 1)
def fewEL : List Te → Int → Int → Int
  | [], left, _ => left
  | t :: r, left, deep => if fewE t left deep < 0 then -1 else fewEL r (fewE t left deep) deep
end
mutual
/-- All is the same. -/
def sameE : Te → Te → Bool
  | .node k n s l, .node k' n' s' l' => decide (k = k') && (decide (n = n') && (decide (s = s') && sameEL l l'))
def sameEL : List Te → List Te → Bool
  | [], [] => true
  | t :: r, t' :: r' => sameE t t' && sameEL r r'
  | _, _ => false
end

/-- Which part of a term may be of which kind: alternatives in a case alone, behind its first part. -/
def standsE (k : Int) (i : Nat) (p : Int) : Bool := decide (k = 5 ∧ 0 < i) == decide (p = 6)
/-- How many variables more the parts have. -/
def moreE (k n : Int) : Int := if k = 2 then 1 else if k = 6 then n else 0
/-- Kind, N, Name and the number of parts, of so many free variables and so many bound. -/
def headE (k n : Int) (s : List UInt8) (m : Nat) (free bound : Int) : Bool :=
  if k = 1 then s == [] && (decide (0 ≤ n) && (decide (n - bound < free) && decide (m = 0)))
  else if k = 2 then s == [] && (decide (n = 0) && decide (m = 1))
  else if k = 3 then s == [] && (decide (n = 0) && decide (m = 2))
  else if k = 4 then conV s && (decide (n = 0) && decide (m ≤ 8))
  else if k = 5 then s == [] && (decide (n = 0) && (decide (2 ≤ m) && decide (m ≤ 9)))
  else if k = 6 then conV s && (decide (0 ≤ n) && (decide (n ≤ 8) && decide (m = 1)))
  else if k = 7 then s == [] && decide (m = 0)
  else if k = 8 then opV s && (decide (n = 0) && decide (m = 2))
  else if k = 9 then s == [] && (decide (n = 0) && decide (m = 0))
  else false
/-- No two of these have one name, nor one that was met. -/
def unlikeF : List Te → List Te → Bool
  | _, [] => true
  | met, t :: r => !(met.any fun u => decide (t.name = u.name)) && unlikeF (met ++ [t]) r
def unlikeE (l : List Te) : Bool := unlikeF [] l
mutual
def mayE : Te → Int → Int → Bool
  | .node k n s l, free, bound => headE k n s.data.toList l.length free bound && (mayEL k 0 l free (bound + moreE k n) && (!(decide (k = 5)) || unlikeE (l.drop 1)))
def mayEL (k : Int) : Nat → List Te → Int → Int → Bool
  | _, [], _, _ => true
  | i, t :: r, free, bound => standsE k i t.kind && (mayE t free bound && mayEL k (i + 1) r free bound)
end
/-- May a term be, as a whole one, of so many free variables? -/
def mayV6 (t : Te) (free : Int) : Bool := decide (0 ≤ free) && (decide (t.kind ≠ 6) && mayE t free 0)

theorem depthEL_snoc (l : List Te) (t : Te) : depthEL (l ++ [t]) = max (depthEL l) (depthE t) := by
  induction l with
  | nil => simp [depthEL]
  | cons a r ih => simp only [List.cons_append, depthEL, ih]; omega
theorem sizeEL_snoc (l : List Te) (t : Te) : sizeEL (l ++ [t]) = sizeEL l + sizeE t := by
  induction l with
  | nil => simp [sizeEL]
  | cons a r ih => simp only [List.cons_append, sizeEL, ih]; omega
theorem depthE_pos (t : Te) : 0 < depthE t := by cases t; simp [depthE]
theorem sizeE_pos (t : Te) : 0 < sizeE t := by cases t; simp [sizeE]
theorem depthEL_mem : ∀ (l : List Te) (t : Te), t ∈ l → depthE t ≤ depthEL l
  | [], t, h => by simp at h
  | a :: r, t, h => by
    rw [depthEL]
    rcases List.mem_cons.1 h with rfl | h
    · omega
    · have := depthEL_mem r t h; omega
theorem sizeEL_mem : ∀ (l : List Te) (t : Te), t ∈ l → sizeE t ≤ sizeEL l
  | [], t, h => by simp at h
  | a :: r, t, h => by
    rw [sizeEL]
    rcases List.mem_cons.1 h with rfl | h
    · omega
    · have := sizeEL_mem r t h; omega
theorem sizeEL_len : ∀ l : List Te, l.length ≤ sizeEL l
  | [] => by simp [sizeEL]
  | a :: r => by
    have := sizeEL_len r
    have := sizeE_pos a
    simp only [List.length_cons, sizeEL]; omega
mutual
theorem depthE_le_size : ∀ t : Te, depthE t ≤ sizeE t
  | .node _ _ _ l => by rw [depthE, sizeE]; have := depthEL_le_size l; omega
theorem depthEL_le_size : ∀ l : List Te, depthEL l ≤ sizeEL l
  | [] => by simp [depthEL]
  | t :: r => by rw [depthEL, sizeEL]; have := depthE_le_size t; have := depthEL_le_size r; omega
end
theorem depthEL_take (l : List Te) (i : Nat) : depthEL (l.take i) ≤ depthEL l := by
  induction l generalizing i with
  | nil => simp
  | cons a r ih =>
    cases i with
    | zero => simp [depthEL]
    | succ i => simp only [List.take_succ_cons, depthEL]; have := ih i; omega
theorem sizeEL_take (l : List Te) (i : Nat) : sizeEL (l.take i) ≤ sizeEL l := by
  induction l generalizing i with
  | nil => simp
  | cons a r ih =>
    cases i with
    | zero => simp [sizeEL]
    | succ i => simp only [List.take_succ_cons, sizeEL]; have := ih i; omega
theorem sameEL_len : ∀ l l' : List Te, sameEL l l' = true → l.length = l'.length
  | [], [], _ => rfl
  | [], _ :: _, h => by simp [sameEL] at h
  | _ :: _, [], h => by simp [sameEL] at h
  | a :: r, a' :: r', h => by
    rw [sameEL, Bool.and_eq_true] at h
    simp [sameEL_len r r' h.2]
mutual
theorem fewE_size : ∀ (t : Te) (a d : Int), 0 ≤ fewE t a d → (sizeE t : Int) + fewE t a d = a ∧ (depthE t : Int) ≤ d
  | .node _ _ _ l, a, d, h => by
    rw [fewE] at h ⊢
    split at h
    · omega
    · rename_i h1
      rw [if_neg h1]
      have h2 := fewE_sizeL l (a - 1) (d - 1) h
      rw [sizeE, depthE]
      rcases h2.2 with h4 | rfl
      · omega
      · simp only [depthEL, sizeEL] at h2 ⊢
        omega
theorem fewE_sizeL : ∀ (l : List Te) (a d : Int), 0 ≤ fewEL l a d → (sizeEL l : Int) + fewEL l a d = a ∧ ((depthEL l : Int) ≤ d ∨ l = [])
  | [], a, d, h => by simp [fewEL, sizeEL]
  | t :: r, a, d, h => by
    rw [fewEL] at h ⊢
    split at h
    · omega
    · rename_i h1
      rw [if_neg h1]
      have h2 := fewE_size t a d (by omega)
      have h3 := fewE_sizeL r (fewE t a d) d h
      rw [sizeEL, depthEL]
      refine ⟨by omega, .inl ?_⟩
      rcases h3.2 with h4 | rfl
      · omega
      · simp [depthEL]; omega
end
mutual
/-- What is the same is one. -/
theorem sameE_eq : ∀ t u : Te, sameE t u = true → t = u
  | .node k n s l, .node k' n' s' l', h => by
    rw [sameE] at h
    simp only [Bool.and_eq_true, decide_eq_true_eq] at h
    obtain ⟨rfl, rfl, rfl, hl⟩ := h
    rw [sameEL_eq l l' hl]
theorem sameEL_eq : ∀ l m : List Te, sameEL l m = true → l = m
  | [], [], _ => rfl
  | [], _ :: _, h => by simp [sameEL] at h
  | _ :: _, [], h => by simp [sameEL] at h
  | t :: r, u :: q, h => by
    rw [sameEL, Bool.and_eq_true] at h
    rw [sameE_eq t u h.1, sameEL_eq r q h.2]
end
mutual
theorem sameE_refl : ∀ t : Te, sameE t t = true
  | .node k n s l => by rw [sameE]; simp [sameEL_refl l]
theorem sameEL_refl : ∀ l : List Te, sameEL l l = true
  | [] => by rw [sameEL]
  | t :: r => by rw [sameEL, sameE_refl t, sameEL_refl r]; rfl
end
theorem sameE_iff (t u : Te) : sameE t u = true ↔ t = u := ⟨sameE_eq t u, fun h => h ▸ sameE_refl t⟩
theorem sameE_comm (t u : Te) : sameE t u = sameE u t := by
  rw [Bool.eq_iff_iff, sameE_iff, sameE_iff]; exact eq_comm
end Lx
end Go.Proofs.Ytgnafcnokenogaa
namespace Go.Proofs.Ytgnafcnokenogaa
open Go.RowKit
namespace Lx
set_option maxRecDepth 100000
theorem ret_bool {a b : Bool} (h : a = b) : Ending.returned (.bool a) = .returned (.bool b) := by rw [h]
theorem ret_int {k : IntKind} {a b : Int} (h : a = b) : Ending.returned (.int k a) = .returned (.int k b) := by rw [h]

theorem decode_big (s : ByteArray) (pos : Nat) (h : pos < s.size) (hh : 128 ≤ (s[pos]'h).toNat) : 128 ≤ ((Utf8.decode s pos).1 : Int) := by
  have := (decode_high s pos h hh).1
  omega

end Lx
end Go.Proofs.Ytgnafcnokenogaa
namespace Go.Proofs
open Go.Shelf
end Go.Proofs
namespace Go.Proofs.Ytgnafcnokenogaa
open Go.RowKit
namespace Lx
set_option maxRecDepth 100000

/-- Block g holds just the cells cs, of element type t, and none of them is frozen. -/
def Lies (w : World) (g : Nat) (t : TypeId) (cs : Array Value) : Prop := w.heap[g]? = some (.cells cs t (0, 0))

section
variable {w w' : World} {g : Nat} {t : TypeId} {cs : Array Value}
theorem Lies.lt (h : Lies w g t cs) : g < w.heap.size := by
  by_cases hlt : g < w.heap.size
  · exact hlt
  · unfold Lies at h
    rw [Array.getElem?_eq_none (by omega)] at h
    cases h
theorem Lies.cell (h : Lies w g t cs) (i : Nat) : w.cell? ⟨g, i, none⟩ = cs[i]? := cell_of_row w g i cs t (0, 0) h
theorem Lies.frozen (h : Lies w g t cs) (i : Nat) : w.frozen? ⟨g, i, none⟩ = false := by
  unfold Lies at h
  simp [World.frozen?, h]
theorem Lies.new (w : World) (t : TypeId) (cs : Array Value) : Lies (w.alloc (.cells cs t)) w.heap.size t cs := by
  show (w.heap.push _)[w.heap.size]? = _
  simp
theorem Lies.old (h : Lies w g t cs) (o : Obj) : Lies (w.alloc o) g t cs := (Below.heap_alloc w o g h.lt).trans h
theorem Lies.drew (h : Lies w g t cs) : Lies w.drew g t cs := h
theorem Lies.drewN (h : Lies w g t cs) (n : Nat) : Lies (w.drewN n) g t cs := h
theorem Lies.below {B : Nat} (h : Lies w g t cs) (hb : Below B w w') (hg : g < B) : Lies w' g t cs := (hb.block g hg).trans h
theorem Lies.put (h : Lies w g t cs) (i : Nat) (u : Value) : Lies (w.setCell ⟨g, i, none⟩ u) g t (cs.setIfInBounds i u) := by
  unfold Lies at h ⊢
  simp [World.setCell, Array.getElem?_modify, h]
theorem Lies.far (h : Lies w g t cs) {p : Addr} (hp : g ≠ p.block) (u : Value) : Lies (w.setCell p u) g t cs := (Below.heap_setCell w p u g hp).trans h
theorem Lies.four {a b c d : Value} (h : Lies w g t #[a, b, c, d]) :
    (w.cell? ⟨g, 0, none⟩ = some a ∧ w.cell? ⟨g, 1, none⟩ = some b ∧ w.cell? ⟨g, 2, none⟩ = some c ∧ w.cell? ⟨g, 3, none⟩ = some d) ∧
    w.frozen? ⟨g, 0, none⟩ = false ∧ w.frozen? ⟨g, 1, none⟩ = false ∧ w.frozen? ⟨g, 2, none⟩ = false ∧ w.frozen? ⟨g, 3, none⟩ = false :=
  ⟨⟨h.cell 0, h.cell 1, h.cell 2, h.cell 3⟩, h.frozen 0, h.frozen 1, h.frozen 2, h.frozen 3⟩
end
end Lx
end Go.Proofs.Ytgnafcnokenogaa
namespace Go.Proofs.Ytgnafcnokenogaa
open Go.RowKit
namespace Lx
set_option maxRecDepth 100000
/-- A result that lies in a block of four cells, of type 33. -/
theorem res_tok {fn : Func} {p : Tmp} (h : fn.results = #[.cell p 82]) {tmps : Array Value} {g : Nat} {a b c d : Value} {w : World} (hp : tmps.getD p undef = .pointer (some ⟨g, 0, none⟩)) (L : Lies w g 82 #[a, b, c, d]) :
    (results fn tmps).run Try.prog w = .ok (.agg #[a, b, c, d]) w := by
  have hl := run_loadVar_row (P := Try.prog) w g 82 82 #[a, b, c, d] (0, 0) _ L Try.underlying82 rfl (by kernel_rfl)
  have hp' : tmps[p]?.getD undef = .pointer (some ⟨g, 0, none⟩) := by simpa using hp
  simp only [results, h]
  simp [hp', asAddr, hl]
theorem Lies.all {w : World} {g : Nat} {t : TypeId} {a b c d : Value} (h : Lies w g t #[a, b, c, d]) (x y z u : Value) : Lies ((((w.setCell ⟨g, 0, none⟩ x).setCell ⟨g, 1, none⟩ y).setCell ⟨g, 2, none⟩ z).setCell ⟨g, 3, none⟩ u) g t #[x, y, z, u] := by
  simpa using (((h.put 0 x).put 1 y).put 2 z).put 3 u
theorem Below.all {B : Nat} {a w : World} (h : Below B a w) {g : Nat} (hg : B ≤ g) (x y z u : Value) : Below B a ((((w.setCell ⟨g, 0, none⟩ x).setCell ⟨g, 1, none⟩ y).setCell ⟨g, 2, none⟩ z).setCell ⟨g, 3, none⟩ u) :=
  (((h.setCell (p := ⟨g, 0, none⟩) hg x).setCell (p := ⟨g, 1, none⟩) hg y).setCell (p := ⟨g, 2, none⟩) hg z).setCell (p := ⟨g, 3, none⟩) hg u

theorem data_list (s : ByteArray) : s.toList = s.data.toList := by
  have := Lib.extract_toList s 0 s.size
  rw [ByteArray.extract_zero_size] at this
  rw [this]
  exact List.take_of_length_le (by show s.data.toList.length ≤ s.size; rw [Lib.size_eq]; exact Nat.le_refl _)
theorem below_ac {w w1 : World} {o : Obj} (hb : Below (w.alloc o).heap.size (w.alloc o) w1) : Below w.heap.size w w1 :=
  ((Below.refl _ w).alloc (Nat.le_refl _) _).trans (hb.mono (by simp))
theorem head_eq (s : ByteArray) (h : 0 < s.size) : s.data.toList.head? = some (s[0]'h) := by
  obtain ⟨⟨l⟩⟩ := s
  cases l with
  | nil => simp [ByteArray.size] at h
  | cons a r => rfl
theorem b48 (c : UInt8) : ((c.toNat : Int) == 48) = decide (c = 48) := by
  rw [Bool.eq_iff_iff]
  simp only [beq_iff_eq, decide_eq_true_eq]
  constructor
  · intro h; apply UInt8.toNat_inj.1; simp; omega
  · rintro rfl; rfl

end Lx
end Go.Proofs.Ytgnafcnokenogaa
namespace Go.Proofs.Ytgnafcnokenogaa
open Go.RowKit
namespace Lx
set_option maxRecDepth 100000
/-- The cells of the package's table of signs. -/
def signCells : Array Value := (signsS.map fun g => Value.string ⟨g.toArray⟩).toArray
/-- The table of signs, in its variable. -/
def Signs (w : World) : Prop := ∃ t fr, w.heap[0]? = some (.cells signCells t fr)
theorem Signs.pos {w : World} (h : Signs w) : 0 < w.heap.size := by
  obtain ⟨t, fr, h⟩ := h
  exact (Array.getElem?_eq_some_iff.1 h).1
theorem Signs.below {w w' : World} {B : Nat} (h : Signs w) (hb : Below B w w') (hB : 0 < B) : Signs w' := by
  obtain ⟨t, fr, h⟩ := h
  exact ⟨t, fr, (hb.block 0 hB).trans h⟩
theorem toBytes (s : ByteArray) : (⟨s.data.toList.toArray⟩ : ByteArray) = s := by
  cases s; simp
theorem cut_twice (s : ByteArray) (k n : Nat) : ((s.extract k s.size).extract 0 n).data.toList = (s.data.toList.drop k).take n := by
  rw [Lib.extract_data, Lib.extract_to_end]
  simp
theorem cut_eq (s : ByteArray) (k n : Nat) : (s.extract k s.size).extract 0 n = ⟨((s.data.toList.drop k).take n).toArray⟩ := by
  rw [← cut_twice, toBytes]

end Lx
end Go.Proofs.Ytgnafcnokenogaa
namespace Go.Proofs.Ytgnafcnokenogaa
namespace Lx
set_option maxRecDepth 100000
structure Tok where
  kind : Int
  text : List UInt8
  n : Int
  place : Int
deriving DecidableEq
def Tok.cells (t : Tok) : List Value := [.int .i64 t.kind, .string ⟨t.text.toArray⟩, .int .i64 t.n, .int .i64 t.place]
def cellsOf (l : List Tok) : List Value := l.flatMap Tok.cells
theorem cellsOf_length (l : List Tok) : (cellsOf l).length = l.length * 4 := by
  induction l with
  | nil => rfl
  | cons a r ih => simp only [cellsOf, List.flatMap_cons, List.length_append, List.length_cons] at ih ⊢; rw [ih]; simp [Tok.cells]; omega
theorem cellsOf_snoc (l : List Tok) (t : Tok) : cellsOf (l ++ [t]) = cellsOf l ++ t.cells := by
  simp [cellsOf, List.flatMap_append]

/-- The tokens from a place on, the text standing at no blank. -/
def scan : Nat → List UInt8 → Nat → Except (Int × Int) (List Tok)
  | 0, _, _ => .ok []
  | f + 1, l, k =>
    if l = [] then .ok [] else
    match tokK l with
    | .error e => .error (k, e)
    | .ok (kd, n, t) =>
      match scan f ((l.drop t.length).drop (run blkR (l.drop t.length))) (k + t.length + run blkR (l.drop t.length)) with
      | .error e => .error e
      | .ok r => .ok (⟨kd, t, n, k⟩ :: r)
def allK (l : List UInt8) : Except (Int × Int) (List Tok) := scan (l.length + 1) (l.drop (run blkR l)) (run blkR l)
def glue (acc : List Tok) : Except (Int × Int) (List Tok) → Except (Int × Int) (List Tok)
  | .ok r => .ok (acc ++ r)
  | .error e => .error e

theorem scan_end (f k : Nat) : scan f [] k = .ok [] := by
  cases f <;> simp [scan]
theorem scan_bad {f k : Nat} {l : List UInt8} {e : Int} (hl : l ≠ []) (h : tokK l = .error e) : scan (f + 1) l k = .error (k, e) := by
  simp [scan, hl, h]
theorem scan_good {f k : Nat} {l t : List UInt8} {kd n : Int} (acc : List Tok) (hl : l ≠ []) (h : tokK l = .ok (kd, n, t)) :
    glue acc (scan (f + 1) l k) = glue (acc ++ [⟨kd, t, n, k⟩]) (scan f ((l.drop t.length).drop (run blkR (l.drop t.length))) (k + t.length + run blkR (l.drop t.length))) := by
  simp only [scan, hl, if_false, h]
  cases scan f ((l.drop t.length).drop (run blkR (l.drop t.length))) (k + t.length + run blkR (l.drop t.length)) <;> simp [glue]

theorem signs_pos : ∀ g ∈ signsS, 0 < g.length := by decide
/-- A token's text is what stands there, and it is not empty. -/
theorem tok_text {l t : List UInt8} {kd n : Int} (h : tokK l = .ok (kd, n, t)) : 0 < t.length ∧ t.length ≤ l.length ∧ l.take t.length = t := by
  unfold tokK at h
  have hr := run_le ldR l
  split at h
  · rename_i h0
    split at h
    · simp only [Except.ok.injEq, Prod.mk.injEq] at h
      obtain ⟨_, _, rfl⟩ := h
      simp only [List.length_take]
      refine ⟨by omega, by omega, by congr 1; omega⟩
    · cases h
  · split at h
    · rename_i g h1
      simp only [Except.ok.injEq, Prod.mk.injEq] at h
      obtain ⟨_, _, rfl⟩ := h
      have hp := List.find?_some h1
      have hm := signs_pos _ (List.mem_of_find?_eq_some h1)
      have hpre : g <+: l := List.isPrefixOf_iff_prefix.1 hp
      exact ⟨hm, hpre.length_le, (List.prefix_iff_eq_take.1 hpre).symm⟩
    · cases h
theorem scan_step {l : List UInt8} {acc : List Tok} {k f : Nat} {kd n : Int} {t : List UInt8} (hlt : k < l.length) (hf : l.length < k + (f + 1)) (ha : acc.length ≤ k) (h : tokK (l.drop k) = .ok (kd, n, t))
    (hs : allK l = glue acc (scan (f + 1) (l.drop k) k)) :
    k + t.length ≤ l.length ∧ k + t.length + run blkR (l.drop (k + t.length)) ≤ l.length ∧ l.length < k + t.length + run blkR (l.drop (k + t.length)) + f ∧
      (acc ++ [(⟨kd, t, n, k⟩ : Tok)]).length ≤ k + t.length + run blkR (l.drop (k + t.length)) ∧
      allK l = glue (acc ++ [⟨kd, t, n, k⟩]) (scan f (l.drop (k + t.length + run blkR (l.drop (k + t.length)))) (k + t.length + run blkR (l.drop (k + t.length)))) := by
  obtain ⟨h1, h2, _⟩ := tok_text h
  have hr := run_le blkR (l.drop (k + t.length))
  simp only [List.length_drop] at h2 hr
  refine ⟨by omega, by omega, by omega, by simp; omega, ?_⟩
  rw [hs, scan_good acc (by intro e; have := congrArg List.length e; simp at this; omega) h]
  simp only [List.drop_drop, Nat.add_assoc]
end Lx
end Go.Proofs.Ytgnafcnokenogaa
namespace Go.Proofs.Ytgnafcnokenogaa
open Go.RowKit
namespace Lx
set_option maxRecDepth 100000
theorem own_below {w w' : World} {base : Nat} {e : TypeId} {size : Nat} {v : Value} {n : Nat} {xs : List Value} {B : Nat} (h : w.ownsRow base e size v n xs) (hb : Below B w w') (hB : w.heap.size ≤ B) : w'.ownsRow base e size v n xs := by
  obtain ⟨h1, h2⟩ := h
  refine ⟨h1, ?_⟩
  rcases h2 with h2 | ⟨g, cap, cur, hv, hg, hh, r⟩
  · exact .inl h2
  · have hlt : g < w.heap.size := (Array.getElem?_eq_some_iff.1 hh).1
    exact .inr ⟨g, cap, cur, hv, hg, (hb.block g (by omega)).trans hh, r⟩
theorem Lies.grown {w w' : World} {g : Nat} {t : TypeId} {cs : Array Value} {row : Option Nat} (h : Lies w g t cs) (hb : w.grownBy w' row) (hg : some g ≠ row) : Lies w' g t cs := (hb.block g h.lt hg).trans h

theorem new_cells (w : World) (t : TypeId) (cs : List Value) (g : Nat) (hg : g = w.heap.size) : ∀ (j : Nat) (u : Value), cs[j]? = some u → (w.alloc (.cells cs.toArray t)).cell? ((⟨g, 0, none⟩ : Addr).add j) = some u := by
  intro j u hu
  subst hg
  have hadd : (⟨w.heap.size, 0, none⟩ : Addr).add j = ⟨w.heap.size, j, none⟩ := by unfold Addr.add; split <;> simp_all
  rw [hadd, (Lies.new w t cs.toArray).cell j]
  simpa using hu
theorem info33 : (Try.prog.info? 82).map (fun i => (i.zero, i.size, i.bytes)) = some (some (.agg #[.int .i64 0, .string ⟨#[]⟩, .int .i64 0, .int .i64 0]), 4, 40) := by kernel_rfl

end Lx
end Go.Proofs.Ytgnafcnokenogaa
namespace Go.Proofs.Ytgnafcnokenogaa
namespace Lx
set_option maxRecDepth 100000
section
variable {P : Program} {Q : Exit → Act → List Frame → World → Prop} {cs : List Frame}

theorem upon_more {o : Oper} {a : Act} {n1 n2 : Act → World → Prop} {q : Exit → Act → World → Prop} {r : Result Next} (hn : ∀ a w, n1 a w → n2 a w) (h : o.upon P a n1 q r) : o.upon P a n2 q r := by
  unfold Oper.upon at h ⊢
  split at h
  · exact hn _ _ h
  · exact hn _ _ h
  · exact hn _ _ h
  · refine Calls.mono h (fun e w hh => ?_)
    cases e with
    | returned v => exact hn _ _ hh
    | panicked c => exact hh
    | outgrown => exact hh
  · exact Rows.mono h (fun v w hh => hn _ _ hh)
  · exact h
  · exact h

theorem opsS_of_list {ops : Array Oper} (hno : ¬ LetsOut (fun e a w => Q e a cs w)) (l : List Oper) : ∀ (k : Nat) (a : Act) (w : World), (∀ j, l[j]? = ops[k + j]?) → wpList P ops (fun e a w => Q e a cs w) l a w → wpOpsS P ops Q (List.range' k l.length) a cs w := by
  induction l with
  | nil => intro k a w _ h; simpa [wpOpsS, wpList] using h
  | cons o l ih =>
    intro k a w hk h
    have h0 : ops[k]? = some o := by simpa using (hk 0).symm
    have ih' := fun a w => ih (k + 1) a w (fun j => by have := hk (j + 1); simpa [Nat.add_assoc, Nat.add_comm 1 j] using this)
    simp only [List.length_cons, List.range'_succ, wpOpsS, h0]
    unfold wpList at h
    split at h
    · rename_i hw
      rw [if_pos hw]
      rcases h with h | h
      · have h2 := upon_more (n2 := fun a' w' => wpOpsS P ops Q (List.range' (k + 1) l.length) a' cs w') ih' h
        split
        · rename_i w' hr
          rw [hr] at h2
          exact h2.elim
        · exact h2
      · exact absurd h.2 hno
    · rename_i hw
      rw [if_neg hw]
      exact ih' _ _ h

theorem opsS_recover {ops : Array Oper} {i : Nat} {rest : List Nat} {o : Oper} {a : Act} {w w' : World} {v : Value} {cs' : List Frame} (ho : ops[i]? = some o) (hg : o.guard = none)
    (hr : (execOp a.eval o).run P w = .ok .recover w') (hc : recoverD cs = some (v, cs')) (h : wpOpsS P ops Q rest (a.put o.dst v) cs' w') : wpOpsS P ops Q (i :: rest) a cs w := by
  have hw : Region.wanted o (yielded ops a.tmps) = true := by simp [Region.wanted, hg]
  simp only [wpOpsS, ho, hw, if_true, hr, hc]
  exact h
theorem opsS_recover_nil {ops : Array Oper} {i : Nat} {rest : List Nat} {o : Oper} {a : Act} {w w' : World} (ho : ops[i]? = some o) (hg : o.guard = none)
    (hr : (execOp a.eval o).run P w = .ok .recover w') (hc : recoverD cs = none) (h : wpOpsS P ops Q rest (a.put o.dst .nilIface) cs w') : wpOpsS P ops Q (i :: rest) a cs w := by
  have hw : Region.wanted o (yielded ops a.tmps) = true := by simp [Region.wanted, hg]
  simp only [wpOpsS, ho, hw, if_true, hr, hc]
  exact h
theorem region_recover {id : Nat} {ops : Array Oper} {o : Oper} {l : List Oper} {a : Act} {w w' : World} {v : Value} {cs' : List Frame} (hops : ops.toList = o :: l) (hg : o.guard = none)
    (hr : (execOp a.eval o).run P w = .ok .recover w') (hc : recoverD cs = some (v, cs')) (hno : ¬ LetsOut (fun e a w => Q e a cs' w)) (h : wpList P ops (fun e a w => Q e a cs' w) l (a.put o.dst v) w') :
    (Code.region id ops false).wpS P Q a cs w := by
  obtain ⟨L⟩ := ops
  obtain rfl : L = o :: l := hops
  refine wpS_region ?_
  rw [List.range_eq_range', show (o :: l).toArray.size = l.length + 1 from rfl, List.range'_succ]
  refine opsS_recover (by simp) hg hr hc ?_
  exact opsS_of_list hno l 1 _ _ (fun j => by simp [Nat.add_comm]) h
theorem region_recover_nil {id : Nat} {ops : Array Oper} {o : Oper} {l : List Oper} {a : Act} {w w' : World} (hops : ops.toList = o :: l) (hg : o.guard = none)
    (hr : (execOp a.eval o).run P w = .ok .recover w') (hc : recoverD cs = none) (hno : ¬ LetsOut (fun e a w => Q e a cs w)) (h : wpList P ops (fun e a w => Q e a cs w) l (a.put o.dst .nilIface) w') :
    (Code.region id ops false).wpS P Q a cs w := by
  obtain ⟨L⟩ := ops
  obtain rfl : L = o :: l := hops
  refine wpS_region ?_
  rw [List.range_eq_range', show (o :: l).toArray.size = l.length + 1 from rfl, List.range'_succ]
  refine opsS_recover_nil (by simp) hg hr hc ?_
  exact opsS_of_list hno l 1 _ _ (fun j => by simp [Nat.add_comm]) h
end
end Lx
end Go.Proofs.Ytgnafcnokenogaa
namespace Go.Proofs.Ytgnafcnokenogaa
open Go.RowKit
namespace Lx
set_option maxRecDepth 100000
theorem own_slice {w : World} {base : Nat} {e : TypeId} {size : Nat} {v : Value} {n : Nat} {xs : List Value} (h : w.ownsRow base e size v n xs) : ∃ A c, v = .slice A n c := by
  rcases h.2 with ⟨rfl, rfl⟩ | ⟨g, cap, cur, rfl, _⟩
  · exact ⟨_, _, rfl⟩
  · exact ⟨_, _, rfl⟩

/-- What the call owns above three result variables stays owned while these are written. -/
theorem own_stored3 {w : World} {base B : Nat} {e : TypeId} {size : Nat} {v : Value} {n : Nat} {xs : List Value} (h : w.ownsRow B e size v n xs) (_hB : B ≤ w.heap.size) (hb : base + 3 ≤ B) {x y z : Value} :
    (((w.setCell ⟨base, 0, none⟩ x).setCell ⟨base + 1, 0, none⟩ y).setCell ⟨base + 1 + 1, 0, none⟩ z).ownsRow base e size v n xs :=
  Joins.ownsRow_le (ownsRow_setCell_below (ownsRow_setCell_below (ownsRow_setCell_below h (by show base < B; omega) x) (by show base + 1 < B; omega) y) (by show base + 1 + 1 < B; omega) z) (by omega)

end Lx
end Go.Proofs.Ytgnafcnokenogaa
namespace Go.Proofs.Ytgnafcnokenogaa
open Go.RowKit
namespace Lx
set_option maxRecDepth 100000
/-- The slice with the address A reads as the tokens of l. -/
def Row (w : World) (A : Option Addr) (l : List Tok) : Prop :=
  l ≠ [] → ∃ g o, A = some ⟨g, o, none⟩ ∧ ∀ n u, (cellsOf l)[n]? = some u → w.cell? ⟨g, o + n, none⟩ = some u

theorem cell_lt {w : World} {g o : Nat} {u : Value} (h : w.cell? ⟨g, o, none⟩ = some u) : g < w.heap.size := by
  by_cases hlt : g < w.heap.size
  · exact hlt
  · simp [World.cell?, Array.getElem?_eq_none (Nat.le_of_not_lt hlt)] at h

theorem cellsOf_pos {l : List Tok} (h : l ≠ []) : 0 < (cellsOf l).length := by
  rw [cellsOf_length]
  have := List.length_pos_iff.2 h
  omega
theorem Row.below {w w' : World} {A : Option Addr} {l : List Tok} {B : Nat} (h : Row w A l) (hb : Below B w w') (hB : w.heap.size ≤ B) : Row w' A l := by
  intro hl
  obtain ⟨g, o, rfl, hc⟩ := h hl
  refine ⟨g, o, rfl, fun n u hu => ?_⟩
  have h1 := hc n u hu
  have := cell_lt h1
  rw [hb.cell (p := ⟨g, o + n, none⟩) (by show g < B; omega)]
  exact h1
theorem Row.of_own {w : World} {base : Nat} {A : Option Addr} {n c : Nat} {l : List Tok} (h : w.ownsRow base 82 4 (.slice A n c) n (cellsOf l)) : Row w A l := by
  intro hl
  have hp := cellsOf_pos hl
  have hn : 0 < n := by
    have := h.1
    omega
  obtain ⟨g, cap, hv⟩ := Joins.ownsRow_form h hn
  have hA : A = some ⟨g, 0, none⟩ := by injection hv
  subst hA
  refine ⟨g, 0, rfl, fun j u hu => ?_⟩
  have h1 := h.cells (g := g) rfl j u hu
  have hadd : (⟨g, 0, none⟩ : Addr).add j = ⟨g, 0 + j, none⟩ := by unfold Addr.add; split <;> simp_all
  rw [hadd] at h1
  exact h1

theorem cellsOf_at (l : List Tok) (i : Nat) (h : i < l.length) (j : Nat) (hj : j < 4) : (cellsOf l)[i * 4 + j]? = (l[i]'h).cells[j]? := by
  induction l generalizing i with
  | nil => simp at h
  | cons a r ih =>
    have hc : cellsOf (a :: r) = a.cells ++ cellsOf r := by simp [cellsOf]
    have ha : a.cells.length = 4 := rfl
    cases i with
    | zero =>
      rw [hc, List.getElem?_append_left (by omega)]
      simp
    | succ i =>
      rw [hc, List.getElem?_append_right (by omega), ha]
      have := ih i (by simpa using h)
      rw [show (i + 1) * 4 + j - 4 = i * 4 + j from by omega, this]
      simp

/-- The four cells of token i. -/
theorem Row.at_ {w : World} {A : Option Addr} {l : List Tok} (h : Row w A l) {i : Nat} (hi : i < l.length) :
    ∃ g o, A = some ⟨g, o, none⟩ ∧ w.cell? ⟨g, o + i * 4, none⟩ = some (.int .i64 (l[i]'hi).kind) ∧ w.cell? ⟨g, o + i * 4 + 1, none⟩ = some (.string ⟨(l[i]'hi).text.toArray⟩) ∧
      w.cell? ⟨g, o + i * 4 + 2, none⟩ = some (.int .i64 (l[i]'hi).n) ∧ w.cell? ⟨g, o + i * 4 + 3, none⟩ = some (.int .i64 (l[i]'hi).place) := by
  obtain ⟨g, o, rfl, hc⟩ := h (by intro e; subst e; simp at hi)
  refine ⟨g, o, rfl, hc _ _ ?_, ?_, ?_, ?_⟩
  · have := cellsOf_at l i hi 0 (by omega); simpa [Tok.cells] using this
  · have := hc (i * 4 + 1) _ ((cellsOf_at l i hi 1 (by omega)).trans rfl); simpa [Nat.add_assoc] using this
  · have := hc (i * 4 + 2) _ ((cellsOf_at l i hi 2 (by omega)).trans rfl); simpa [Nat.add_assoc] using this
  · have := hc (i * 4 + 3) _ ((cellsOf_at l i hi 3 (by omega)).trans rfl); simpa [Nat.add_assoc] using this

theorem neq_tok (t u : Tok) (w : World) : (binOp .neq 82 (.agg #[.int .i64 t.kind, .string ⟨t.text.toArray⟩, .int .i64 t.n, .int .i64 t.place]) (.agg #[.int .i64 u.kind, .string ⟨u.text.toArray⟩, .int .i64 u.n, .int .i64 u.place])).run Try.prog w = .ok (.bool (decide (t ≠ u))) w := by
  obtain ⟨k1, x1, n1, p1⟩ := t
  obtain ⟨k2, x2, n2, p2⟩ := u
  simp [go_sem]
  by_cases h1 : k1 = k2 <;> by_cases h2 : x1 = x2 <;> by_cases h3 : n1 = n2 <;> by_cases h4 : p1 = p2 <;> simp [h1, h2, h3, h4]

end Lx
end Go.Proofs.Ytgnafcnokenogaa
namespace Go.Proofs.Ytgnafcnokenogaa
open Go.RowKit
namespace Lx
set_option maxRecDepth 100000
/-- A capacity is no less than the length. -/
def capF (n c : Nat) : Nat := max n c
theorem le_capF (n c : Nat) : n ≤ capF n c := Nat.le_max_left n c
theorem capF_of {n c : Nat} (h : n ≤ c) : capF n c = c := Nat.max_eq_right h
theorem own_sliceF {w : World} {base : Nat} {e : TypeId} {size : Nat} {v : Value} {n : Nat} {xs : List Value} (h : w.ownsRow base e size v n xs) : ∃ A c, v = .slice A n (capF n c) := by
  rcases h.2 with ⟨rfl, rfl⟩ | ⟨g, cap, cur, rfl, _, _, hle, _⟩
  · exact ⟨_, 0, rfl⟩
  · exact ⟨_, cap, by rw [capF_of hle]⟩
/-- Whatever block. -/
def Any : Nat → Prop := fun _ => True
mutual
/-- The parts of a tree lie from A on, in blocks of which X holds. -/
def TIn (w : World) (X : Nat → Prop) : Tr → Option Addr → Prop
  | .node _ s _ _ l, A => s.size ≤ 140737488351232 ∧ l.length ≤ 140737488351232 ∧ LIn w X l A 0
def LIn (w : World) (X : Nat → Prop) : List Tr → Option Addr → Nat → Prop
  | [], _, _ => True
  | t :: r, A, i => (∃ g o A' c, (A = some ⟨g, o, none⟩ ∧ X g) ∧ w.cell? ⟨g, o + i * 5, none⟩ = some (.int .i64 t.kind) ∧ w.cell? ⟨g, o + i * 5 + 1, none⟩ = some (.string t.name) ∧
      w.cell? ⟨g, o + i * 5 + 2, none⟩ = some (.int .i64 t.n) ∧ w.cell? ⟨g, o + i * 5 + 3, none⟩ = some (.int .i64 t.place) ∧
      w.cell? ⟨g, o + i * 5 + 4, none⟩ = some (.slice A' t.parts.length (capF t.parts.length c)) ∧ TIn w X t A') ∧ LIn w X r A (i + 1)
end
/-- A tree as a value. -/
def tv (t : Tr) (A : Option Addr) (c : Nat) : Value := .agg #[.int .i64 t.kind, .string t.name, .int .i64 t.n, .int .i64 t.place, .slice A t.parts.length (capF t.parts.length c)]

mutual
theorem TIn.keep : ∀ (t : Tr) {w w' : World} {X Y : Nat → Prop} {A : Option Addr}, TIn w X t A → (∀ g j, X g → g < w.heap.size → w'.cell? ⟨g, j, none⟩ = w.cell? ⟨g, j, none⟩ ∧ Y g) → TIn w' Y t A
  | .node k s n a l, w, w', X, Y, A, h, hk => by
    rw [TIn] at h ⊢
    exact ⟨h.1, h.2.1, LIn.keep l h.2.2 hk⟩
theorem LIn.keep : ∀ (l : List Tr) {w w' : World} {X Y : Nat → Prop} {A : Option Addr} {i : Nat}, LIn w X l A i → (∀ g j, X g → g < w.heap.size → w'.cell? ⟨g, j, none⟩ = w.cell? ⟨g, j, none⟩ ∧ Y g) → LIn w' Y l A i
  | [], w, w', X, Y, A, i, _, _ => by rw [LIn]; trivial
  | t :: r, w, w', X, Y, A, i, h, hk => by
    rw [LIn] at h ⊢
    obtain ⟨⟨g, o, A', c, ⟨e, hX⟩, h0, h1, h2, h3, h4, ht⟩, hr⟩ := h
    have hlt := cell_lt h0
    have hc : ∀ j, w'.cell? ⟨g, j, none⟩ = w.cell? ⟨g, j, none⟩ := fun j => (hk g j hX hlt).1
    exact ⟨⟨g, o, A', c, ⟨e, (hk g 0 hX hlt).2⟩, by rw [hc]; exact h0, by rw [hc]; exact h1, by rw [hc]; exact h2, by rw [hc]; exact h3, by rw [hc]; exact h4, TIn.keep t ht hk⟩, LIn.keep r hr hk⟩
end
theorem TIn.below (t : Tr) {w w' : World} {X : Nat → Prop} {A : Option Addr} {B : Nat} (h : TIn w X t A) (hb : Below B w w') (hB : w.heap.size ≤ B) : TIn w' X t A :=
  TIn.keep t h fun g j hX hlt => ⟨hb.cell (p := ⟨g, j, none⟩) (by show g < B; omega), hX⟩
theorem TIn.wide (t : Tr) {w : World} {X Y : Nat → Prop} {A : Option Addr} (h : TIn w X t A) (hXY : ∀ g, X g → g < w.heap.size → Y g) : TIn w Y t A :=
  TIn.keep t h fun g _ hX hlt => ⟨rfl, hXY g hX hlt⟩
theorem TIn.any (t : Tr) {w : World} {X : Nat → Prop} {A : Option Addr} (h : TIn w X t A) : TIn w Any t A := TIn.wide t h fun _ _ _ => trivial
theorem TIn.setCell (t : Tr) {w : World} {X : Nat → Prop} {A : Option Addr} (h : TIn w X t A) (p : Addr) (u : Value) (hp : ¬ X p.block) : TIn (w.setCell p u) X t A :=
  TIn.keep t h fun g j hX _ => ⟨World.cell?_setCell_other w p ⟨g, j, none⟩ u (fun e => by subst e; exact hp hX), hX⟩
theorem TIn.grown (t : Tr) {w w' : World} {X : Nat → Prop} {A : Option Addr} {row : Option Nat} (h : TIn w X t A) (hg : w.grownBy w' row) (hp : ∀ g, row = some g → ¬ X g) : TIn w' X t A :=
  TIn.keep t h fun g _ hX hlt => ⟨World.cell?_of_block (hg.block g hlt (fun e => hp g e.symm hX)), hX⟩

theorem LIn.at_ : ∀ (l : List Tr) {w : World} {X : Nat → Prop} {A : Option Addr} {j : Nat}, LIn w X l A j → ∀ (i : Nat) (hi : i < l.length),
    ∃ g o A' c, (A = some ⟨g, o, none⟩ ∧ X g) ∧ w.cell? ⟨g, o + (j + i) * 5, none⟩ = some (.int .i64 (l[i]'hi).kind) ∧ w.cell? ⟨g, o + (j + i) * 5 + 1, none⟩ = some (.string (l[i]'hi).name) ∧
      w.cell? ⟨g, o + (j + i) * 5 + 2, none⟩ = some (.int .i64 (l[i]'hi).n) ∧ w.cell? ⟨g, o + (j + i) * 5 + 3, none⟩ = some (.int .i64 (l[i]'hi).place) ∧
      w.cell? ⟨g, o + (j + i) * 5 + 4, none⟩ = some (.slice A' (l[i]'hi).parts.length (capF (l[i]'hi).parts.length c)) ∧ TIn w X (l[i]'hi) A'
  | [], w, X, A, j, _, i, hi => by simp at hi
  | t :: r, w, X, A, j, h, 0, hi => by
    rw [LIn] at h
    simpa using h.1
  | t :: r, w, X, A, j, h, i + 1, hi => by
    rw [LIn] at h
    have := LIn.at_ r h.2 i (by simpa using hi)
    rw [show j + 1 + i = j + (i + 1) from by omega] at this
    simpa using this
theorem LIn.mk : ∀ (l : List Tr) {w : World} {X : Nat → Prop} {A : Option Addr} (j : Nat), (∀ (i : Nat) (hi : i < l.length),
    ∃ g o A' c, (A = some ⟨g, o, none⟩ ∧ X g) ∧ w.cell? ⟨g, o + (j + i) * 5, none⟩ = some (.int .i64 (l[i]'hi).kind) ∧ w.cell? ⟨g, o + (j + i) * 5 + 1, none⟩ = some (.string (l[i]'hi).name) ∧
      w.cell? ⟨g, o + (j + i) * 5 + 2, none⟩ = some (.int .i64 (l[i]'hi).n) ∧ w.cell? ⟨g, o + (j + i) * 5 + 3, none⟩ = some (.int .i64 (l[i]'hi).place) ∧
      w.cell? ⟨g, o + (j + i) * 5 + 4, none⟩ = some (.slice A' (l[i]'hi).parts.length (capF (l[i]'hi).parts.length c)) ∧ TIn w X (l[i]'hi) A') → LIn w X l A j
  | [], w, X, A, j, _ => by rw [LIn]; trivial
  | t :: r, w, X, A, j, h => by
    rw [LIn]
    refine ⟨(by have := h 0 (by simp); rw [Nat.add_zero] at this; exact this), LIn.mk r (j + 1) fun i hi => ?_⟩
    have := h (i + 1) (by simpa using hi)
    rw [show j + 1 + i = j + (i + 1) from by omega]
    simpa using this
/-- The five cells of part i, and its own parts. -/
theorem TIn.part {t : Tr} {w : World} {X : Nat → Prop} {A : Option Addr} (h : TIn w X t A) (i : Nat) (hi : i < t.parts.length) :
    ∃ g o A' c, (A = some ⟨g, o, none⟩ ∧ X g) ∧ w.cell? ⟨g, o + i * 5, none⟩ = some (.int .i64 (t.parts[i]'hi).kind) ∧ w.cell? ⟨g, o + i * 5 + 1, none⟩ = some (.string (t.parts[i]'hi).name) ∧
      w.cell? ⟨g, o + i * 5 + 2, none⟩ = some (.int .i64 (t.parts[i]'hi).n) ∧ w.cell? ⟨g, o + i * 5 + 3, none⟩ = some (.int .i64 (t.parts[i]'hi).place) ∧
      w.cell? ⟨g, o + i * 5 + 4, none⟩ = some (.slice A' (t.parts[i]'hi).parts.length (capF (t.parts[i]'hi).parts.length c)) ∧ TIn w X (t.parts[i]'hi) A' := by
  obtain ⟨k, s, n, a, l⟩ := t
  rw [TIn] at h
  have := LIn.at_ l h.2.2 i hi
  rw [Nat.zero_add] at this
  exact this
end Lx
end Go.Proofs.Ytgnafcnokenogaa
namespace Go.Proofs.Ytgnafcnokenogaa
open Go.RowKit
namespace Lx
set_option maxRecDepth 100000
mutual
/-- The parts of a term lie from A on, in blocks of which X holds. -/
def EIn (w : World) (X : Nat → Prop) : Te → Option Addr → Prop
  | .node _ n s l, A => (s.size ≤ 140737488351232 ∧ -9223372036854775808 ≤ n ∧ n ≤ 9223372036854775807) ∧ l.length ≤ 140737488351232 ∧ ELIn w X l A 0
def ELIn (w : World) (X : Nat → Prop) : List Te → Option Addr → Nat → Prop
  | [], _, _ => True
  | t :: r, A, i => (∃ g o A' c, (A = some ⟨g, o, none⟩ ∧ X g) ∧ w.cell? ⟨g, o + i * 4, none⟩ = some (.int .i64 t.kind) ∧ w.cell? ⟨g, o + i * 4 + 1, none⟩ = some (.int .i64 t.n) ∧
      w.cell? ⟨g, o + i * 4 + 2, none⟩ = some (.string t.name) ∧
      w.cell? ⟨g, o + i * 4 + 3, none⟩ = some (.slice A' t.parts.length (capF t.parts.length c)) ∧ EIn w X t A') ∧ ELIn w X r A (i + 1)
end
/-- A term as a value. -/
def ev (t : Te) (A : Option Addr) (c : Nat) : Value := .agg #[.int .i64 t.kind, .int .i64 t.n, .string t.name, .slice A t.parts.length (capF t.parts.length c)]

mutual
theorem EIn.keep : ∀ (t : Te) {w w' : World} {X Y : Nat → Prop} {A : Option Addr}, EIn w X t A → (∀ g j, X g → g < w.heap.size → w'.cell? ⟨g, j, none⟩ = w.cell? ⟨g, j, none⟩ ∧ Y g) → EIn w' Y t A
  | .node k n s l, w, w', X, Y, A, h, hk => by
    rw [EIn] at h ⊢
    exact ⟨h.1, h.2.1, ELIn.keep l h.2.2 hk⟩
theorem ELIn.keep : ∀ (l : List Te) {w w' : World} {X Y : Nat → Prop} {A : Option Addr} {i : Nat}, ELIn w X l A i → (∀ g j, X g → g < w.heap.size → w'.cell? ⟨g, j, none⟩ = w.cell? ⟨g, j, none⟩ ∧ Y g) → ELIn w' Y l A i
  | [], w, w', X, Y, A, i, _, _ => by rw [ELIn]; trivial
  | t :: r, w, w', X, Y, A, i, h, hk => by
    rw [ELIn] at h ⊢
    obtain ⟨⟨g, o, A', c, ⟨e, hX⟩, h0, h1, h2, h3, ht⟩, hr⟩ := h
    have hlt := cell_lt h0
    have hc : ∀ j, w'.cell? ⟨g, j, none⟩ = w.cell? ⟨g, j, none⟩ := fun j => (hk g j hX hlt).1
    exact ⟨⟨g, o, A', c, ⟨e, (hk g 0 hX hlt).2⟩, by rw [hc]; exact h0, by rw [hc]; exact h1, by rw [hc]; exact h2, by rw [hc]; exact h3, EIn.keep t ht hk⟩, ELIn.keep r hr hk⟩
end
theorem EIn.below (t : Te) {w w' : World} {X : Nat → Prop} {A : Option Addr} {B : Nat} (h : EIn w X t A) (hb : Below B w w') (hB : w.heap.size ≤ B) : EIn w' X t A :=
  EIn.keep t h fun g j hX hlt => ⟨hb.cell (p := ⟨g, j, none⟩) (by show g < B; omega), hX⟩
theorem EIn.wide (t : Te) {w : World} {X Y : Nat → Prop} {A : Option Addr} (h : EIn w X t A) (hXY : ∀ g, X g → g < w.heap.size → Y g) : EIn w Y t A :=
  EIn.keep t h fun g _ hX hlt => ⟨rfl, hXY g hX hlt⟩
theorem EIn.any (t : Te) {w : World} {X : Nat → Prop} {A : Option Addr} (h : EIn w X t A) : EIn w Any t A := EIn.wide t h fun _ _ _ => trivial
theorem EIn.setCell (t : Te) {w : World} {X : Nat → Prop} {A : Option Addr} (h : EIn w X t A) (p : Addr) (u : Value) (hp : ¬ X p.block) : EIn (w.setCell p u) X t A :=
  EIn.keep t h fun g j hX _ => ⟨World.cell?_setCell_other w p ⟨g, j, none⟩ u (fun e => by subst e; exact hp hX), hX⟩
theorem EIn.grown (t : Te) {w w' : World} {X : Nat → Prop} {A : Option Addr} {row : Option Nat} (h : EIn w X t A) (hg : w.grownBy w' row) (hp : ∀ g, row = some g → ¬ X g) : EIn w' X t A :=
  EIn.keep t h fun g _ hX hlt => ⟨World.cell?_of_block (hg.block g hlt (fun e => hp g e.symm hX)), hX⟩

theorem ELIn.at_ : ∀ (l : List Te) {w : World} {X : Nat → Prop} {A : Option Addr} {j : Nat}, ELIn w X l A j → ∀ (i : Nat) (hi : i < l.length),
    ∃ g o A' c, (A = some ⟨g, o, none⟩ ∧ X g) ∧ w.cell? ⟨g, o + (j + i) * 4, none⟩ = some (.int .i64 (l[i]'hi).kind) ∧ w.cell? ⟨g, o + (j + i) * 4 + 1, none⟩ = some (.int .i64 (l[i]'hi).n) ∧
      w.cell? ⟨g, o + (j + i) * 4 + 2, none⟩ = some (.string (l[i]'hi).name) ∧
      w.cell? ⟨g, o + (j + i) * 4 + 3, none⟩ = some (.slice A' (l[i]'hi).parts.length (capF (l[i]'hi).parts.length c)) ∧ EIn w X (l[i]'hi) A'
  | [], w, X, A, j, _, i, hi => by simp at hi
  | t :: r, w, X, A, j, h, 0, hi => by
    rw [ELIn] at h
    simpa using h.1
  | t :: r, w, X, A, j, h, i + 1, hi => by
    rw [ELIn] at h
    have := ELIn.at_ r h.2 i (by simpa using hi)
    rw [show j + 1 + i = j + (i + 1) from by omega] at this
    simpa using this
theorem ELIn.mk : ∀ (l : List Te) {w : World} {X : Nat → Prop} {A : Option Addr} (j : Nat), (∀ (i : Nat) (hi : i < l.length),
    ∃ g o A' c, (A = some ⟨g, o, none⟩ ∧ X g) ∧ w.cell? ⟨g, o + (j + i) * 4, none⟩ = some (.int .i64 (l[i]'hi).kind) ∧ w.cell? ⟨g, o + (j + i) * 4 + 1, none⟩ = some (.int .i64 (l[i]'hi).n) ∧
      w.cell? ⟨g, o + (j + i) * 4 + 2, none⟩ = some (.string (l[i]'hi).name) ∧
      w.cell? ⟨g, o + (j + i) * 4 + 3, none⟩ = some (.slice A' (l[i]'hi).parts.length (capF (l[i]'hi).parts.length c)) ∧ EIn w X (l[i]'hi) A') → ELIn w X l A j
  | [], w, X, A, j, _ => by rw [ELIn]; trivial
  | t :: r, w, X, A, j, h => by
    rw [ELIn]
    refine ⟨(by have := h 0 (by simp); rw [Nat.add_zero] at this; exact this), ELIn.mk r (j + 1) fun i hi => ?_⟩
    have := h (i + 1) (by simpa using hi)
    rw [show j + 1 + i = j + (i + 1) from by omega]
    simpa using this
/-- The four cells of part i, and its own parts. -/
theorem EIn.part {t : Te} {w : World} {X : Nat → Prop} {A : Option Addr} (h : EIn w X t A) (i : Nat) (hi : i < t.parts.length) :
    ∃ g o A' c, (A = some ⟨g, o, none⟩ ∧ X g) ∧ w.cell? ⟨g, o + i * 4, none⟩ = some (.int .i64 (t.parts[i]'hi).kind) ∧ w.cell? ⟨g, o + i * 4 + 1, none⟩ = some (.int .i64 (t.parts[i]'hi).n) ∧
      w.cell? ⟨g, o + i * 4 + 2, none⟩ = some (.string (t.parts[i]'hi).name) ∧
      w.cell? ⟨g, o + i * 4 + 3, none⟩ = some (.slice A' (t.parts[i]'hi).parts.length (capF (t.parts[i]'hi).parts.length c)) ∧ EIn w X (t.parts[i]'hi) A' := by
  obtain ⟨k, n, s, l⟩ := t
  rw [EIn] at h
  have := ELIn.at_ l h.2.2 i hi
  rw [Nat.zero_add] at this
  exact this
end Lx
end Go.Proofs.Ytgnafcnokenogaa
