/-
  Plain functions on lists of bytes: what the reader of tokens computes. No program is named here.
-/
import Derived.Lib.Strings
namespace Go.Proofs.YtnljlocogfacfaaDoor
namespace Lx
set_option maxRecDepth 100000

def lowR (r : Int) : Bool := decide (97 ≤ r) && decide (r ≤ 122)
def upR (r : Int) : Bool := decide (65 ≤ r) && decide (r ≤ 90)
def digR (r : Int) : Bool := decide (48 ≤ r) && decide (r ≤ 57)
def blkR (r : Int) : Bool := (r == 32 || r == 10) || r == 9
def ldR (r : Int) : Bool := lowR r || (upR r || digR r)

/-- How many bytes at the beginning fit. -/
def run (P : Int → Bool) : List UInt8 → Nat
  | [] => 0
  | c :: r => if P (c.toNat : Int) then run P r + 1 else 0

theorem run_le (P : Int → Bool) : ∀ l : List UInt8, run P l ≤ l.length
  | [] => by simp [run]
  | c :: r => by
    have := run_le P r
    by_cases h : P (c.toNat : Int) <;> simp [run, h]; omega

theorem run_drop (P : Int → Bool) (l : List UInt8) (k : Nat) (h : k < l.length) : run P (l.drop k) = if P ((l[k]'h).toNat : Int) then run P (l.drop (k + 1)) + 1 else 0 := by
  rw [List.drop_eq_getElem_cons h, run]
theorem run_nil (P : Int → Bool) (l : List UInt8) (k : Nat) (h : l.length ≤ k) : run P (l.drop k) = 0 := by
  rw [List.drop_eq_nil_of_le h, run]

/-- The number of a text of digits. -/
def numV (l : List UInt8) : Int := l.foldl (fun n c => n * 10 + ((c.toNat : Int) - 48)) 0
theorem numV_nil : numV [] = 0 := rfl
theorem numV_snoc (l : List UInt8) (c : UInt8) : numV (l ++ [c]) = numV l * 10 + ((c.toNat : Int) - 48) := by
  simp [numV, List.foldl_append]
theorem dig_of (P : Int → Bool) : ∀ (l : List UInt8), run P l = l.length → ∀ c ∈ l, P (c.toNat : Int) = true
  | [], _, c, hc => by simp at hc
  | d :: r, h, c, hc => by
    cases hd : P (d.toNat : Int)
    · simp [run, hd] at h
    · simp only [run, hd, if_true, List.length_cons] at h
      rcases List.mem_cons.1 hc with rfl | hc
      · exact hd
      · exact dig_of P r (by omega) c hc
theorem numV_bd : ∀ (k : Nat) (l : List UInt8), l.length = k → (∀ c ∈ l, digR (c.toNat : Int) = true) → 0 ≤ numV l ∧ numV l < 10 ^ k := by
  intro k
  induction k with
  | zero => intro l hl _; have : l = [] := List.eq_nil_of_length_eq_zero hl; subst this; simp [numV]
  | succ k ih =>
    intro l hl h
    have hne : l ≠ [] := by intro e; subst e; simp at hl
    have e := (List.dropLast_concat_getLast hne).symm
    have hc := h (l.getLast hne) (List.getLast_mem hne)
    obtain ⟨a, b⟩ := ih l.dropLast (by simp; omega) (fun c hc => h c (List.dropLast_subset _ hc))
    rw [e, numV_snoc]
    simp only [digR, Bool.and_eq_true, decide_eq_true_eq] at hc
    rw [Int.pow_succ]
    omega
theorem pow_le17 (k : Nat) (h : k < 18) : (10 : Int) ^ k ≤ 100000000000000000 := by
  have : ∀ j : Fin 18, (10 : Int) ^ j.val ≤ 100000000000000000 := by decide
  exact this ⟨k, h⟩
theorem take_snoc (l : List UInt8) (k : Nat) (h : k < l.length) : l.take (k + 1) = l.take k ++ [l[k]'h] := by
  rw [List.take_succ_eq_append_getElem h]

/-- The words that are no names. -/
def wordS (l : List UInt8) : Bool := l == [108, 101, 116] || (l == [108, 101, 116, 114, 101, 99] || (l == [105, 110] || (l == [99, 97, 115, 101] || l == [111, 102])))
/-- A text of letters and digits: its kind and its number, or its error. -/
def numK (l : List UInt8) : Except Int (Int × Int) :=
  if run digR l < l.length then .error 10 else if 18 < l.length ∨ (1 < l.length ∧ l.head? = some 48) then .error 11 else .ok (3, numV l)
def runK (l : List UInt8) : Except Int (Int × Int) :=
  if 0 < run digR l then numK l else if 16 < l.length then .error 11 else if wordS l = true then .ok (4, 0) else if 0 < run lowR l then .ok (1, 0) else .ok (2, 0)

/-- The signs, in the program's order. -/
def signsS : List (List UInt8) := [[45, 62], [61, 61], [92], [46], [40], [41], [61], [123], [125], [124], [43], [45], [42], [47], [60]]
def signOf (l : List UInt8) : Option (List UInt8) := signsS.find? fun g => Lib.hasPrefix l g
theorem find_first {α : Type} (p : α → Bool) (d : α) : ∀ (L : List α) (m : Nat), m < L.length → (∀ j, j < m → p (L.getD j d) = false) → p (L.getD m d) = true → L.find? p = some (L.getD m d)
  | [], m, h, _, _ => by simp at h
  | a :: L, 0, _, _, h => by
    have h1 : p a = true := by simpa using h
    rw [List.find?_cons_of_pos h1]
    rfl
  | a :: L, m + 1, hm, hf, h => by
    have h0 : p a = false := by simpa using hf 0 (by omega)
    rw [List.find?_cons_of_neg (by simp [h0])]
    have := find_first p d L m (by simpa using hm) (fun j hj => by simpa using hf (j + 1) (by omega)) (by simpa using h)
    simpa using this
theorem find_none {α : Type} (p : α → Bool) (d : α) : ∀ (L : List α), (∀ j, j < L.length → p (L.getD j d) = false) → L.find? p = none
  | [], _ => rfl
  | a :: L, hf => by
    have h0 : p a = false := by simpa using hf 0 (by simp)
    rw [List.find?_cons_of_neg (by simp [h0])]
    exact find_none p d L (fun j hj => by simpa using hf (j + 1) (by simpa using hj))
/-- The token at the beginning of a text that begins with no blank: its kind, its number, its text; or its error. -/
def tokK (l : List UInt8) : Except Int (Int × Int × List UInt8) :=
  if 0 < run ldR l then
    match runK (l.take (run ldR l)) with
    | .ok (k, n) => .ok (k, n, l.take (run ldR l))
    | .error e => .error e
  else
    match signOf l with
    | some g => .ok (5, 0, g)
    | none => .error 10

end Lx
end Go.Proofs.YtnljlocogfacfaaDoor
