/-
  Texts that lie one behind the other: Tr Tin OwnLe RowTr Depth HeldK RBare Ref RefRun RefSign RefOne Name RefTok RefMay MayL Map May MayTop RefMayT Lit Open RowsT Few Same RefAll.
-/
import Derived.Test.YteabbkhlgnoliaaGreatDoorK1
import Derived.Test.YteabbkhlgnoliaaGreatDoorProg
import Derived.Test.YteabbkhlgnoliaaGreatDoorRows
import Derived.Test.YteabbkhlgnoliaaGreatDoorK7
import Derived.WalkKit
import Derived.Deep.RegionHeld3
import Derived.Deep.DrawnRows
import Derived.Deep.RegionHeld
import Derived.Maps.AppendAt
import Derived.Deep.AppendLies
import Derived.OwnWalk
import Derived.Deep.QuietTactic
import Derived.BigQuiet
import Derived.Maps.Own
import Derived.StillTailTactics
import Derived.ProofKit
import Derived.OpenShut
import Derived.ChangeArms
import Derived.Carry
import Derived.WideKeyArgs
namespace Go.Proofs.YteabbkhlgnoliaaGreatDoor
namespace Lx
set_option maxRecDepth 100000

inductive Tr where
  | node (kind : Int) (name : ByteArray) (n : Int) (place : Int) (l : List Tr)

def Tr.kind : Tr → Int | .node k _ _ _ _ => k
def Tr.name : Tr → ByteArray | .node _ s _ _ _ => s
def Tr.n : Tr → Int | .node _ _ n _ _ => n
def Tr.place : Tr → Int | .node _ _ _ a _ => a
def Tr.parts : Tr → List Tr | .node _ _ _ _ l => l

mutual
def depthT : Tr → Nat
  | .node _ _ _ _ l => depthL l + 1
def depthL : List Tr → Nat
  | [] => 0
  | t :: r => max (depthT t) (depthL r)
end
mutual
def sizeT : Tr → Nat
  | .node _ _ _ _ l => sizeL l + 1
def sizeL : List Tr → Nat
  | [] => 0
  | t :: r => sizeT t + sizeL r
end
mutual
/-- How many of so many parts are left; -1: there are more, or they lie deeper. -/
def fewT : Tr → Int → Int → Int
  | .node _ _ _ _ l, left, deep => if left < 1 ∨ deep < 1 then -1 else fewL l (left - 1) (deep - 1)
def fewL : List Tr → Int → Int → Int
  | [], left, _ => left
  | t :: r, left, deep => if fewT t left deep < 0 then -1 else fewL r (fewT t left deep) deep
end
mutual
/-- Bare. -/
def bareT : Tr → Tr
  | .node k s n _ l => .node k s n 0 (bareL l)
def bareL : List Tr → List Tr
  | [] => []
  | t :: r => bareT t :: bareL r
end
mutual
/-- The same, but for places. -/
def sameT : Tr → Tr → Bool
  | .node k s n _ l, .node k' s' n' _ l' => decide (k = k') && (decide (s = s') && (decide (n = n') && sameL l l'))
def sameL : List Tr → List Tr → Bool
  | [], [] => true
  | t :: r, t' :: r' => sameT t t' && sameL r r'
  | _, _ => false
end
mutual
/-- The same, places and all. -/
def oneT : Tr → Tr → Bool
  | .node k s n a l, .node k' s' n' a' l' => decide (k = k') && (decide (s = s') && (decide (n = n') && (decide (a = a') && oneL l l')))
def oneL : List Tr → List Tr → Bool
  | [], [] => true
  | t :: r, t' :: r' => oneT t t' && oneL r r'
  | _, _ => false
end

/-- Is a text a token's of kind 1, or of kind 2? -/
def nameV (l : List UInt8) : Bool := decide (0 < run lowR l) && (decide (run ldR l = l.length) && (decide (l.length ≤ 16) && !wordS l))
def conV (l : List UInt8) : Bool := decide (0 < run upR l) && (decide (run ldR l = l.length) && decide (l.length ≤ 16))
def opV (l : List UInt8) : Bool := l == [43] || (l == [45] || (l == [42] || (l == [47] || (l == [60] || l == [61, 61]))))
/-- What a tree's Name is to be, by number: 0 empty, 1 a name, 2 a constructor's, 3 an operator's. -/
def whatV (w : Int) (l : List UInt8) : Bool := if w = 1 then nameV l else if w = 2 then conV l else if w = 3 then opV l else l == []

/-- What trees of a kind have: what their Name is, N at most, parts at least and at most. -/
def shapeV (k : Int) : Option (Int × Int × Int × Int) :=
  if k = 1 then some (1, 0, 0, 0) else if k = 2 then some (1, 0, 1, 1) else if k = 3 then some (0, 0, 2, 2) else if k = 4 then some (1, 0, 2, 2) else if k = 5 then some (1, 0, 2, 2)
  else if k = 6 then some (2, 0, 0, 8) else if k = 7 then some (0, 0, 2, 9) else if k = 8 then some (2, 8, 1, 9) else if k = 9 then some (0, 999999999999999999, 0, 0) else if k = 10 then some (3, 0, 2, 2) else none
/-- Does a tree fit a shape, whatever its parts are? -/
def fitsV (h : Int × Int × Int × Int) (k : Int) (s : List UInt8) (n a : Int) (m : Nat) : Bool :=
  if a < 0 ∨ n < 0 ∨ h.2.1 < n then false
  else if (m : Int) < h.2.2.1 ∨ h.2.2.2 < (m : Int) then false
  else if k = 8 ∧ (m : Int) ≠ n + 1 then false
  else whatV h.1 s
/-- May part number i of a tree be of kind p? -/
def standsV (k n : Int) (i : Nat) (p : Int) : Bool :=
  if k = 7 ∧ 0 < i then decide (p = 8) else if k = 8 ∧ (i : Int) < n then decide (p = 1) else decide (p ≠ 8)
mutual
/-- The program's own reckoning. -/
def mayT : Tr → Bool
  | .node k s n a l =>
    match shapeV k with
    | some h => fitsV h k s.data.toList n a l.length && mayL k n 0 l
    | none => false
def mayL (k n : Int) : Nat → List Tr → Bool
  | _, [] => true
  | i, t :: r => standsV k n i t.kind && (mayT t && mayL k n (i + 1) r)
end
/-- The reference's reckoning. -/
def nameOkV (k : Int) (s : List UInt8) : Bool :=
  if k = 1 ∨ k = 2 ∨ k = 4 ∨ k = 5 then nameV s else if k = 6 ∨ k = 8 then conV s else if k = 10 then opV s else s == []
def partsV (k n : Int) (m : Nat) : Bool :=
  if k = 1 then decide (m = 0) && decide (n = 0) else if k = 2 then decide (m = 1) && decide (n = 0)
  else if k = 3 ∨ k = 4 ∨ k = 5 ∨ k = 10 then decide (m = 2) && decide (n = 0) else if k = 6 then decide (m ≤ 8) && decide (n = 0)
  else if k = 7 then decide (2 ≤ m) && (decide (m ≤ 9) && decide (n = 0)) else if k = 8 then decide (0 ≤ n) && (decide (n ≤ 8) && decide ((m : Int) = n + 1))
  else if k = 9 then decide (m = 0) && (decide (0 ≤ n) && decide (n < 1000000000000000000)) else false
mutual
def mayRT : Tr → Bool → Bool
  | .node k s n a l, alt => (decide (k = 8) == alt) && (nameOkV k s.data.toList && (partsV k n l.length && (decide (0 ≤ a) && mayRL k n 0 l)))
def mayRL (k n : Int) : Nat → List Tr → Bool
  | _, [] => true
  | i, t :: r => !(decide (k = 8) && (decide ((i : Int) < n) && decide (t.kind ≠ 1))) && (mayRT t (decide (k = 7) && decide (0 < i)) && mayRL k n (i + 1) r)
end

theorem fits_eq (k : Int) (s : List UInt8) (n a : Int) (m : Nat) :
    (match shapeV k with | some h => fitsV h k s n a m | none => false) = (nameOkV k s && (partsV k n m && decide (0 ≤ a))) := by
  by_cases ha : 0 ≤ a
  · have ha' : ¬ a < 0 := by omega
    rcases (by omega : k = 1 ∨ k = 2 ∨ k = 3 ∨ k = 4 ∨ k = 5 ∨ k = 6 ∨ k = 7 ∨ k = 8 ∨ k = 9 ∨ k = 10 ∨ (k < 1 ∨ 10 < k)) with rfl | rfl | rfl | rfl | rfl | rfl | rfl | rfl | rfl | rfl | hk
    case inr.inr.inr.inr.inr.inr.inr.inr.inr.inr =>
      have e : ∀ j : Int, 1 ≤ j → j ≤ 10 → k ≠ j := by omega
      simp [shapeV, partsV, e 1, e 2, e 3, e 4, e 5, e 6, e 7, e 8, e 9, e 10]
    all_goals
      simp only [shapeV, fitsV, nameOkV, partsV, whatV]
      simp [ha, ha']
      generalize nameV s = b1
      generalize conV s = b2
      generalize opV s = b3
      rw [Bool.eq_iff_iff]
      by_cases e0 : s = []
      all_goals
        cases b1 <;> cases b2 <;> cases b3 <;> simp [e0] <;> omega
  · have ha' : a < 0 := by omega
    have e : decide (0 ≤ a) = false := by simp; omega
    rw [e]
    simp only [Bool.and_false]
    cases shapeV k <;> simp [fitsV, ha']

mutual
theorem may_eq : ∀ (t : Tr) (alt : Bool), mayRT t alt = ((decide (t.kind = 8) == alt) && mayT t)
  | .node k s n a l, alt => by
    rw [mayRT, mayT, may_eqL k n l 0]
    have h := fits_eq k s.data.toList n a l.length
    show _ = ((decide (k = 8) == alt) && _)
    cases hs : shapeV k with
    | none =>
      rw [hs] at h
      have h' : (nameOkV k s.data.toList && (partsV k n l.length && decide (0 ≤ a))) = false := h.symm
      show ((decide (k = 8) == alt) && (nameOkV k s.data.toList && (partsV k n l.length && (decide (0 ≤ a) && mayL k n 0 l)))) = ((decide (k = 8) == alt) && false)
      cases h1 : nameOkV k s.data.toList <;> cases h2 : partsV k n l.length <;> cases h3 : decide (0 ≤ a) <;> simp_all
    | some h0 =>
      rw [hs] at h
      have h' : fitsV h0 k s.data.toList n a l.length = (nameOkV k s.data.toList && (partsV k n l.length && decide (0 ≤ a))) := h
      show _ = ((decide (k = 8) == alt) && (fitsV h0 k s.data.toList n a l.length && mayL k n 0 l))
      rw [h']
      simp [Bool.and_assoc]
theorem may_eqL : ∀ (k n : Int) (l : List Tr) (i : Nat), mayRL k n i l = mayL k n i l
  | k, n, [], i => rfl
  | k, n, t :: r, i => by
    rw [mayRL, mayL, may_eqL k n r (i + 1), may_eq t]
    unfold standsV
    cases mayT t
    · simp
    · by_cases h7 : k = 7
      · subst h7
        by_cases hi : 0 < i <;> simp [hi]
      · by_cases h8 : k = 8
        · subst h8
          by_cases hi : (i : Int) < n
          · by_cases h1 : t.kind = 1
            · simp [h1, hi]
            · simp [h1, hi]
          · simp [hi]
        · simp [h7, h8]
end

theorem depthL_snoc (l : List Tr) (t : Tr) : depthL (l ++ [t]) = max (depthL l) (depthT t) := by
  induction l with
  | nil => simp [depthL]
  | cons a r ih => simp only [List.cons_append, depthL, ih]; omega
theorem sizeL_snoc (l : List Tr) (t : Tr) : sizeL (l ++ [t]) = sizeL l + sizeT t := by
  induction l with
  | nil => simp [sizeL]
  | cons a r ih => simp only [List.cons_append, sizeL, ih]; omega
theorem bareL_map (l : List Tr) : bareL l = l.map bareT := by
  induction l with
  | nil => rfl
  | cons a r ih => simp [bareL, ih]
theorem depth_pos (t : Tr) : 0 < depthT t := by cases t; simp [depthT]
theorem size_pos (t : Tr) : 0 < sizeT t := by cases t; simp [sizeT]
theorem depthL_mem : ∀ (l : List Tr) (t : Tr), t ∈ l → depthT t ≤ depthL l
  | [], t, h => by simp at h
  | a :: r, t, h => by
    rw [depthL]
    rcases List.mem_cons.1 h with rfl | h
    · omega
    · have := depthL_mem r t h; omega
theorem sizeL_mem : ∀ (l : List Tr) (t : Tr), t ∈ l → sizeT t ≤ sizeL l
  | [], t, h => by simp at h
  | a :: r, t, h => by
    rw [sizeL]
    rcases List.mem_cons.1 h with rfl | h
    · omega
    · have := sizeL_mem r t h; omega
theorem sizeL_len : ∀ l : List Tr, l.length ≤ sizeL l
  | [] => by simp [sizeL]
  | a :: r => by
    have := sizeL_len r
    have := size_pos a
    simp only [List.length_cons, sizeL]; omega
mutual
theorem depth_le_size : ∀ t : Tr, depthT t ≤ sizeT t
  | .node _ _ _ _ l => by rw [depthT, sizeT]; have := depthL_le_size l; omega
theorem depthL_le_size : ∀ l : List Tr, depthL l ≤ sizeL l
  | [] => by simp [depthL]
  | t :: r => by rw [depthL, sizeL]; have := depth_le_size t; have := depthL_le_size r; omega
end
theorem depthL_take (l : List Tr) (i : Nat) : depthL (l.take i) ≤ depthL l := by
  induction l generalizing i with
  | nil => simp
  | cons a r ih =>
    cases i with
    | zero => simp [depthL]
    | succ i => simp only [List.take_succ_cons, depthL]; have := ih i; omega
theorem sizeL_take (l : List Tr) (i : Nat) : sizeL (l.take i) ≤ sizeL l := by
  induction l generalizing i with
  | nil => simp
  | cons a r ih =>
    cases i with
    | zero => simp [sizeL]
    | succ i => simp only [List.take_succ_cons, sizeL]; have := ih i; omega

theorem sameL_len : ∀ l l' : List Tr, sameL l l' = true → l.length = l'.length
  | [], [], _ => rfl
  | [], _ :: _, h => by simp [sameL] at h
  | _ :: _, [], h => by simp [sameL] at h
  | a :: r, a' :: r', h => by
    rw [sameL, Bool.and_eq_true] at h
    simp [sameL_len r r' h.2]
theorem oneL_len : ∀ l l' : List Tr, oneL l l' = true → l.length = l'.length
  | [], [], _ => rfl
  | [], _ :: _, h => by simp [oneL] at h
  | _ :: _, [], h => by simp [oneL] at h
  | a :: r, a' :: r', h => by
    rw [oneL, Bool.and_eq_true] at h
    simp [oneL_len r r' h.2]
mutual
theorem few_size : ∀ (t : Tr) (a d : Int), 0 ≤ fewT t a d → (sizeT t : Int) + fewT t a d = a ∧ (depthT t : Int) ≤ d
  | .node _ _ _ _ l, a, d, h => by
    rw [fewT] at h ⊢
    split at h
    · omega
    · rename_i h1
      rw [if_neg h1]
      have h2 := few_sizeL l (a - 1) (d - 1) h
      rw [sizeT, depthT]
      rcases h2.2 with h4 | rfl
      · omega
      · simp only [depthL, sizeL] at h2 ⊢
        omega
theorem few_sizeL : ∀ (l : List Tr) (a d : Int), 0 ≤ fewL l a d → (sizeL l : Int) + fewL l a d = a ∧ ((depthL l : Int) ≤ d ∨ l = [])
  | [], a, d, h => by simp [fewL, sizeL]
  | t :: r, a, d, h => by
    rw [fewL] at h ⊢
    split at h
    · omega
    · rename_i h1
      rw [if_neg h1]
      have h2 := few_size t a d (by omega)
      have h3 := few_sizeL r (fewT t a d) d h
      rw [sizeL, depthL]
      refine ⟨by omega, .inl ?_⟩
      rcases h3.2 with h4 | rfl
      · omega
      · simp [depthL]; omega
end
end Lx
end Go.Proofs.YteabbkhlgnoliaaGreatDoor
namespace Go.Proofs.YteabbkhlgnoliaaGreatDoor
open Go.RowKit
namespace Lx
set_option maxRecDepth 100000
/-- A capacity is no less than the length. -/
def capF (n c : Nat) : Nat := max n c
theorem le_capF (n c : Nat) : n ≤ capF n c := Nat.le_max_left n c
theorem capF_of {n c : Nat} (h : n ≤ c) : capF n c = c := Nat.max_eq_right h
theorem own_sliceF {w : World} {base : Nat} {e : TypeId} {size : Nat} {v : Value} {n : Nat} {xs : List Value} (h : w.ownsRow base e size v n xs) : ∃ A c, v = .slice A n (capF n c) := by
  rcases h.2 with ⟨rfl, rfl⟩ | ⟨g, cap, cur, rfl, _, _, hle, _⟩
  · exact ⟨_, 0, rfl⟩
  · exact ⟨_, cap, by rw [capF_of hle]⟩
/-- Whatever block. -/
def Any : Nat → Prop := fun _ => True
mutual
/-- The parts of a tree lie from A on, in blocks of which X holds. -/
def TIn (w : World) (X : Nat → Prop) : Tr → Option Addr → Prop
  | .node _ s _ _ l, A => s.size ≤ 140737488351232 ∧ l.length ≤ 140737488351232 ∧ LIn w X l A 0
def LIn (w : World) (X : Nat → Prop) : List Tr → Option Addr → Nat → Prop
  | [], _, _ => True
  | t :: r, A, i => (∃ g o A' c, (A = some ⟨g, o, none⟩ ∧ X g) ∧ w.cell? ⟨g, o + i * 5, none⟩ = some (.int .i64 t.kind) ∧ w.cell? ⟨g, o + i * 5 + 1, none⟩ = some (.string t.name) ∧
      w.cell? ⟨g, o + i * 5 + 2, none⟩ = some (.int .i64 t.n) ∧ w.cell? ⟨g, o + i * 5 + 3, none⟩ = some (.int .i64 t.place) ∧
      w.cell? ⟨g, o + i * 5 + 4, none⟩ = some (.slice A' t.parts.length (capF t.parts.length c)) ∧ TIn w X t A') ∧ LIn w X r A (i + 1)
end
/-- A tree as a value. -/
def tv (t : Tr) (A : Option Addr) (c : Nat) : Value := .agg #[.int .i64 t.kind, .string t.name, .int .i64 t.n, .int .i64 t.place, .slice A t.parts.length (capF t.parts.length c)]

mutual
theorem TIn.keep : ∀ (t : Tr) {w w' : World} {X Y : Nat → Prop} {A : Option Addr}, TIn w X t A → (∀ g j, X g → g < w.heap.size → w'.cell? ⟨g, j, none⟩ = w.cell? ⟨g, j, none⟩ ∧ Y g) → TIn w' Y t A
  | .node k s n a l, w, w', X, Y, A, h, hk => by
    rw [TIn] at h ⊢
    exact ⟨h.1, h.2.1, LIn.keep l h.2.2 hk⟩
theorem LIn.keep : ∀ (l : List Tr) {w w' : World} {X Y : Nat → Prop} {A : Option Addr} {i : Nat}, LIn w X l A i → (∀ g j, X g → g < w.heap.size → w'.cell? ⟨g, j, none⟩ = w.cell? ⟨g, j, none⟩ ∧ Y g) → LIn w' Y l A i
  | [], w, w', X, Y, A, i, _, _ => by rw [LIn]; trivial
  | t :: r, w, w', X, Y, A, i, h, hk => by
    rw [LIn] at h ⊢
    obtain ⟨⟨g, o, A', c, ⟨e, hX⟩, h0, h1, h2, h3, h4, ht⟩, hr⟩ := h
    have hlt := cell_lt h0
    have hc : ∀ j, w'.cell? ⟨g, j, none⟩ = w.cell? ⟨g, j, none⟩ := fun j => (hk g j hX hlt).1
    exact ⟨⟨g, o, A', c, ⟨e, (hk g 0 hX hlt).2⟩, by rw [hc]; exact h0, by rw [hc]; exact h1, by rw [hc]; exact h2, by rw [hc]; exact h3, by rw [hc]; exact h4, TIn.keep t ht hk⟩, LIn.keep r hr hk⟩
end
theorem TIn.below (t : Tr) {w w' : World} {X : Nat → Prop} {A : Option Addr} {B : Nat} (h : TIn w X t A) (hb : Below B w w') (hB : w.heap.size ≤ B) : TIn w' X t A :=
  TIn.keep t h fun g j hX hlt => ⟨hb.cell (p := ⟨g, j, none⟩) (by show g < B; omega), hX⟩
theorem TIn.wide (t : Tr) {w : World} {X Y : Nat → Prop} {A : Option Addr} (h : TIn w X t A) (hXY : ∀ g, X g → g < w.heap.size → Y g) : TIn w Y t A :=
  TIn.keep t h fun g _ hX hlt => ⟨rfl, hXY g hX hlt⟩
theorem TIn.any (t : Tr) {w : World} {X : Nat → Prop} {A : Option Addr} (h : TIn w X t A) : TIn w Any t A := TIn.wide t h fun _ _ _ => trivial
theorem TIn.setCell (t : Tr) {w : World} {X : Nat → Prop} {A : Option Addr} (h : TIn w X t A) (p : Addr) (u : Value) (hp : ¬ X p.block) : TIn (w.setCell p u) X t A :=
  TIn.keep t h fun g j hX _ => ⟨World.cell?_setCell_other w p ⟨g, j, none⟩ u (fun e => by subst e; exact hp hX), hX⟩
theorem TIn.grown (t : Tr) {w w' : World} {X : Nat → Prop} {A : Option Addr} {row : Option Nat} (h : TIn w X t A) (hg : w.grownBy w' row) (hp : ∀ g, row = some g → ¬ X g) : TIn w' X t A :=
  TIn.keep t h fun g _ hX hlt => ⟨World.cell?_of_block (hg.block g hlt (fun e => hp g e.symm hX)), hX⟩

theorem LIn.at_ : ∀ (l : List Tr) {w : World} {X : Nat → Prop} {A : Option Addr} {j : Nat}, LIn w X l A j → ∀ (i : Nat) (hi : i < l.length),
    ∃ g o A' c, (A = some ⟨g, o, none⟩ ∧ X g) ∧ w.cell? ⟨g, o + (j + i) * 5, none⟩ = some (.int .i64 (l[i]'hi).kind) ∧ w.cell? ⟨g, o + (j + i) * 5 + 1, none⟩ = some (.string (l[i]'hi).name) ∧
      w.cell? ⟨g, o + (j + i) * 5 + 2, none⟩ = some (.int .i64 (l[i]'hi).n) ∧ w.cell? ⟨g, o + (j + i) * 5 + 3, none⟩ = some (.int .i64 (l[i]'hi).place) ∧
      w.cell? ⟨g, o + (j + i) * 5 + 4, none⟩ = some (.slice A' (l[i]'hi).parts.length (capF (l[i]'hi).parts.length c)) ∧ TIn w X (l[i]'hi) A'
  | [], w, X, A, j, _, i, hi => by simp at hi
  | t :: r, w, X, A, j, h, 0, hi => by
    rw [LIn] at h
    simpa using h.1
  | t :: r, w, X, A, j, h, i + 1, hi => by
    rw [LIn] at h
    have := LIn.at_ r h.2 i (by simpa using hi)
    rw [show j + 1 + i = j + (i + 1) from by omega] at this
    simpa using this
theorem LIn.mk : ∀ (l : List Tr) {w : World} {X : Nat → Prop} {A : Option Addr} (j : Nat), (∀ (i : Nat) (hi : i < l.length),
    ∃ g o A' c, (A = some ⟨g, o, none⟩ ∧ X g) ∧ w.cell? ⟨g, o + (j + i) * 5, none⟩ = some (.int .i64 (l[i]'hi).kind) ∧ w.cell? ⟨g, o + (j + i) * 5 + 1, none⟩ = some (.string (l[i]'hi).name) ∧
      w.cell? ⟨g, o + (j + i) * 5 + 2, none⟩ = some (.int .i64 (l[i]'hi).n) ∧ w.cell? ⟨g, o + (j + i) * 5 + 3, none⟩ = some (.int .i64 (l[i]'hi).place) ∧
      w.cell? ⟨g, o + (j + i) * 5 + 4, none⟩ = some (.slice A' (l[i]'hi).parts.length (capF (l[i]'hi).parts.length c)) ∧ TIn w X (l[i]'hi) A') → LIn w X l A j
  | [], w, X, A, j, _ => by rw [LIn]; trivial
  | t :: r, w, X, A, j, h => by
    rw [LIn]
    refine ⟨(by have := h 0 (by simp); rw [Nat.add_zero] at this; exact this), LIn.mk r (j + 1) fun i hi => ?_⟩
    have := h (i + 1) (by simpa using hi)
    rw [show j + 1 + i = j + (i + 1) from by omega]
    simpa using this
/-- The five cells of part i, and its own parts. -/
theorem TIn.part {t : Tr} {w : World} {X : Nat → Prop} {A : Option Addr} (h : TIn w X t A) (i : Nat) (hi : i < t.parts.length) :
    ∃ g o A' c, (A = some ⟨g, o, none⟩ ∧ X g) ∧ w.cell? ⟨g, o + i * 5, none⟩ = some (.int .i64 (t.parts[i]'hi).kind) ∧ w.cell? ⟨g, o + i * 5 + 1, none⟩ = some (.string (t.parts[i]'hi).name) ∧
      w.cell? ⟨g, o + i * 5 + 2, none⟩ = some (.int .i64 (t.parts[i]'hi).n) ∧ w.cell? ⟨g, o + i * 5 + 3, none⟩ = some (.int .i64 (t.parts[i]'hi).place) ∧
      w.cell? ⟨g, o + i * 5 + 4, none⟩ = some (.slice A' (t.parts[i]'hi).parts.length (capF (t.parts[i]'hi).parts.length c)) ∧ TIn w X (t.parts[i]'hi) A' := by
  obtain ⟨k, s, n, a, l⟩ := t
  rw [TIn] at h
  have := LIn.at_ l h.2.2 i hi
  rw [Nat.zero_add] at this
  exact this
end Lx
end Go.Proofs.YteabbkhlgnoliaaGreatDoor
namespace Go.Proofs.YteabbkhlgnoliaaGreatDoor
open Go.RowKit
namespace Lx
theorem own_le {w : World} {base : Nat} {e : TypeId} {size : Nat} {A : Option Addr} {m c : Nat} {n : Nat} {xs : List Value} (h : w.ownsRow base e size (.slice A m c) n xs) : n ≤ c := by
  rcases h.2 with ⟨h1, rfl⟩ | ⟨g, cap, cur, h1, _, _, hle, _⟩
  · exact Nat.zero_le _
  · injection h1 with _ _ h2
    omega
theorem tv_own {k n pc : Int} {nm : ByteArray} {pl : List Tr} {B : Option Addr} {bc : Nat} (h : pl.length ≤ bc) : Ending.returned (.agg #[.int .i64 k, .string nm, .int .i64 n, .int .i64 pc, .slice B pl.length bc]) = .returned (tv (.node k nm n pc pl) B bc) := by
  unfold tv
  simp only [Tr.kind, Tr.name, Tr.n, Tr.place, Tr.parts]
  rw [capF_of h]
end Lx
end Go.Proofs.YteabbkhlgnoliaaGreatDoor
namespace Go.Proofs.YteabbkhlgnoliaaGreatDoor
open Go.RowKit
namespace Lx
set_option maxRecDepth 100000
theorem infoT : (Tryz.prog.info? 24).map (fun i => (i.zero, i.size, i.bytes)) = some (some (.agg #[.int .i64 0, .string ⟨#[]⟩, .int .i64 0, .int .i64 0, .slice none 0 0]), 5, 64) := by kernel_rfl
/-- The five cells of a tree. -/
def cellsT (t : Tr) (A : Option Addr) (c : Nat) : List Value := [.int .i64 t.kind, .string t.name, .int .i64 t.n, .int .i64 t.place, .slice A t.parts.length (capF t.parts.length c)]
theorem cellsT_length (t : Tr) (A : Option Addr) (c : Nat) : (cellsT t A c).length = 5 := rfl
/-- The cells xs read as the trees of l. -/
def RowTr (w : World) (X : Nat → Prop) (l : List Tr) (xs : List Value) : Prop :=
  xs.length = l.length * 5 ∧ ∀ (j : Nat) (hj : j < l.length), ∃ A c, (∀ q, q < 5 → xs[j * 5 + q]? = (cellsT (l[j]'hj) A c)[q]?) ∧ TIn w X (l[j]'hj) A
theorem RowTr.nil (w : World) (X : Nat → Prop) : RowTr w X [] [] := ⟨rfl, fun j hj => by simp at hj⟩
theorem RowTr.keep {w w' : World} {X Y : Nat → Prop} {l : List Tr} {xs : List Value} (h : RowTr w X l xs) (hk : ∀ g j, X g → g < w.heap.size → w'.cell? ⟨g, j, none⟩ = w.cell? ⟨g, j, none⟩ ∧ Y g) : RowTr w' Y l xs :=
  ⟨h.1, fun j hj => by
    obtain ⟨A, c, hc, ht⟩ := h.2 j hj
    exact ⟨A, c, hc, TIn.keep _ ht hk⟩⟩
theorem RowTr.below {w w' : World} {X : Nat → Prop} {l : List Tr} {xs : List Value} {B : Nat} (h : RowTr w X l xs) (hb : Below B w w') (hB : w.heap.size ≤ B) : RowTr w' X l xs :=
  h.keep fun g j hX hlt => ⟨hb.cell (p := ⟨g, j, none⟩) (by show g < B; omega), hX⟩
theorem RowTr.wide {w : World} {X Y : Nat → Prop} {l : List Tr} {xs : List Value} (h : RowTr w X l xs) (hXY : ∀ g, X g → g < w.heap.size → Y g) : RowTr w Y l xs :=
  h.keep fun g _ hX hlt => ⟨rfl, hXY g hX hlt⟩
theorem RowTr.setCell {w : World} {X : Nat → Prop} {l : List Tr} {xs : List Value} (h : RowTr w X l xs) (p : Addr) (u : Value) (hp : ¬ X p.block) : RowTr (w.setCell p u) X l xs :=
  h.keep fun g j hX _ => ⟨World.cell?_setCell_other w p ⟨g, j, none⟩ u (fun e => by subst e; exact hp hX), hX⟩
theorem RowTr.grown {w w' : World} {X : Nat → Prop} {l : List Tr} {xs : List Value} {row : Option Nat} (h : RowTr w X l xs) (hg : w.grownBy w' row) (hp : ∀ g, row = some g → ¬ X g) : RowTr w' X l xs :=
  h.keep fun g _ hX hlt => ⟨World.cell?_of_block (hg.block g hlt (fun e => hp g e.symm hX)), hX⟩
theorem RowTr.snoc {w : World} {X : Nat → Prop} {l : List Tr} {xs : List Value} (h : RowTr w X l xs) {t : Tr} {A : Option Addr} {c : Nat} (ht : TIn w X t A) : RowTr w X (l ++ [t]) (xs ++ cellsT t A c) := by
  refine ⟨by simp [h.1, cellsT_length]; omega, fun j hj => ?_⟩
  rcases Nat.lt_or_ge j l.length with hlt | hge
  · obtain ⟨A', c', hc, ht'⟩ := h.2 j hlt
    rw [List.getElem_append_left hlt]
    refine ⟨A', c', fun q hq => ?_, ht'⟩
    rw [List.getElem?_append_left (by rw [h.1]; omega)]
    exact hc q hq
  · have hj' : j = l.length := by simp at hj; omega
    subst hj'
    rw [List.getElem_append_right (Nat.le_refl _)]
    simp only [Nat.sub_self, List.getElem_singleton]
    refine ⟨A, c, fun q hq => ?_, ht⟩
    rw [List.getElem?_append_right (by rw [h.1]; omega), h.1]
    congr 1
    omega
/-- Trees in a row of the call's own are parts. -/
theorem RowTr.parts {w : World} {X Y : Nat → Prop} {l : List Tr} {xs : List Value} {g o : Nat} (h : RowTr w X l xs) (hg : Y g) (hXY : ∀ b, X b → b < w.heap.size → Y b)
    (hc : ∀ j u, xs[j]? = some u → w.cell? ⟨g, o + j, none⟩ = some u) : LIn w Y l (some ⟨g, o, none⟩) 0 := by
  refine LIn.mk l 0 fun i hi => ?_
  obtain ⟨A, c, hx, ht⟩ := h.2 i hi
  rw [Nat.zero_add]
  refine ⟨g, o, A, c, ⟨rfl, hg⟩, hc (i * 5) _ ((hx 0 (by omega)).trans rfl), ?_, ?_, ?_, ?_, TIn.wide _ ht hXY⟩
  · have := hc (i * 5 + 1) _ ((hx 1 (by omega)).trans rfl); simpa [Nat.add_assoc] using this
  · have := hc (i * 5 + 2) _ ((hx 2 (by omega)).trans rfl); simpa [Nat.add_assoc] using this
  · have := hc (i * 5 + 3) _ ((hx 3 (by omega)).trans rfl); simpa [Nat.add_assoc] using this
  · have := hc (i * 5 + 4) _ ((hx 4 (by omega)).trans rfl); simpa [Nat.add_assoc] using this
/-- A row that the call owns. -/
theorem RowTr.owned {w : World} {X Y : Nat → Prop} {l : List Tr} {xs : List Value} {base n c : Nat} {A : Option Addr} (h : RowTr w X l xs) (ho : w.ownsRow base 24 5 (.slice A n c) n xs) (hX : ∀ g, base ≤ g → Y g) (hXY : ∀ b, X b → b < w.heap.size → Y b) :
    LIn w Y l A 0 := by
  by_cases hl : l = []
  · subst hl; rw [LIn]; trivial
  · have hn : 0 < n := by
      have h1 := ho.1
      have h2 := h.1
      have := List.length_pos_iff.2 hl
      omega
    obtain ⟨g, cap, hv⟩ := Joins.ownsRow_form ho hn
    have hA : A = some ⟨g, 0, none⟩ := by injection hv
    subst hA
    refine h.parts (hX g ?_) hXY fun j u hu => ?_
    · rcases ho.2 with ⟨e, _⟩ | ⟨g', _, _, e, hb, _⟩
      · cases e
      · injection e with e; injection e with e; injection e with e; subst e; exact hb
    · have h1 := ho.cells (g := g) rfl j u hu
      have hadd : (⟨g, 0, none⟩ : Addr).add j = ⟨g, 0 + j, none⟩ := by unfold Addr.add; split <;> simp_all
      rw [hadd] at h1
      exact h1
theorem res_tree {fn : Func} {p : Tmp} (h : fn.results = #[.cell p 24]) {tmps : Array Value} {g : Nat} {a b c d e : Value} {w : World} (hp : tmps.getD p undef = .pointer (some ⟨g, 0, none⟩)) (L : Lies w g 24 #[a, b, c, d, e]) :
    (results fn tmps).run Tryz.prog w = .ok (.agg #[a, b, c, d, e]) w := by
  have hl := run_loadVar_row (P := Tryz.prog) w g 24 24 #[a, b, c, d, e] (0, 0) _ L Tryz.underlying24 rfl (by kernel_rfl)
  have hp' : tmps[p]?.getD undef = .pointer (some ⟨g, 0, none⟩) := by simpa using hp
  simp only [results, h]
  simp [hp', asAddr, hl]
theorem Lies.five {w : World} {g : Nat} {t : TypeId} {a b c d e : Value} (h : Lies w g t #[a, b, c, d, e]) :
    (w.cell? ⟨g, 0, none⟩ = some a ∧ w.cell? ⟨g, 1, none⟩ = some b ∧ w.cell? ⟨g, 2, none⟩ = some c ∧ w.cell? ⟨g, 3, none⟩ = some d ∧ w.cell? ⟨g, 4, none⟩ = some e) ∧
    w.frozen? ⟨g, 0, none⟩ = false ∧ w.frozen? ⟨g, 1, none⟩ = false ∧ w.frozen? ⟨g, 2, none⟩ = false ∧ w.frozen? ⟨g, 3, none⟩ = false ∧ w.frozen? ⟨g, 4, none⟩ = false :=
  ⟨⟨h.cell 0, h.cell 1, h.cell 2, h.cell 3, h.cell 4⟩, h.frozen 0, h.frozen 1, h.frozen 2, h.frozen 3, h.frozen 4⟩
theorem Lies.all5 {w : World} {g : Nat} {t : TypeId} {a b c d e : Value} (h : Lies w g t #[a, b, c, d, e]) (x y z u v : Value) : Lies (((((w.setCell ⟨g, 0, none⟩ x).setCell ⟨g, 1, none⟩ y).setCell ⟨g, 2, none⟩ z).setCell ⟨g, 3, none⟩ u).setCell ⟨g, 4, none⟩ v) g t #[x, y, z, u, v] := by
  simpa using ((((h.put 0 x).put 1 y).put 2 z).put 3 u).put 4 v
theorem Below.all5 {B : Nat} {a w : World} (h : Below B a w) {g : Nat} (hg : B ≤ g) (x y z u v : Value) : Below B a (((((w.setCell ⟨g, 0, none⟩ x).setCell ⟨g, 1, none⟩ y).setCell ⟨g, 2, none⟩ z).setCell ⟨g, 3, none⟩ u).setCell ⟨g, 4, none⟩ v) :=
  ((((h.setCell (p := ⟨g, 0, none⟩) hg x).setCell (p := ⟨g, 1, none⟩) hg y).setCell (p := ⟨g, 2, none⟩) hg z).setCell (p := ⟨g, 3, none⟩) hg u).setCell (p := ⟨g, 4, none⟩) hg v
end Lx
end Go.Proofs.YteabbkhlgnoliaaGreatDoor
namespace Go.Proofs.YteabbkhlgnoliaaGreatDoor
open Go.RowKit
namespace Lx
set_option maxRecDepth 100000
theorem below_al {w wr w2 : World} {o : Obj} (hbw : Below w.heap.size w wr) (hb2 : Below (wr.alloc o).heap.size (wr.alloc o) w2) : Below w.heap.size w w2 :=
  (hbw.alloc hbw.size _).trans (hb2.mono (by have := hbw.size; simp; omega))
set_option maxHeartbeats 1000000 in
theorem depth_any (d : Nat) : ∀ (t : Tr) (A : Option Addr) (c : Nat) (w : World), depthT t ≤ d → sizeT t ≤ 100000 → TIn w Any t A →
    Calls Tryz.prog 37 #[tv t A c] w fun e w' => e = .returned (.int .i64 (depthT t)) ∧ Below w.heap.size w w' := by
  induction d with
  | zero => intro t A c w h; have := depth_pos t; omega
  | succ d ih =>
    intro t A c w hd hs hI
    obtain ⟨k, s, n, a, l⟩ := t
    have hdL : depthL l ≤ d := by rw [depthT] at hd; omega
    have hsL : sizeL l ≤ 100000 := by rw [sizeT] at hs; omega
    have hlen := sizeL_len l
    have hdl := depthL_le_size l
    have HI := Lib.hid hI
    have HE : Hid (depthT (.node k s n a l) = depthL l + 1) := by rw [depthT]; exact rfl
    clear hI hd hs
    show Calls Tryz.prog 37 #[.agg #[.int .i64 k, .string s, .int .i64 n, .int .i64 a, .slice A l.length (capF l.length c)]] w _
    generalize capF l.length c = c
    obtain ⟨m, hm⟩ : ∃ m, m = l.length := ⟨_, rfl⟩
    rw [← hm]
    have hm1 : m ≤ l.length := by omega
    have hm2 : l.length ≤ m := by omega
    clear hm
    go_enter Tryz.func37, Tryz.ntmps37
    go_wp2_with fail
    go_loopw [3, 9] (fun v x wr => ∃ i : Nat, i ≤ m ∧ x = .int .i64 i ∧ v = .int .i64 (depthL (l.take i)) ∧ Below w.heap.size w wr) (fun _ x _ => m - (intOf x).toNat)
    case atStart => exact ⟨0, by omega, rfl, by simp [depthL], (Below.refl _ w).alloc (Nat.le_refl _) _⟩
    case round =>
      obtain ⟨i, hi, rfl, rfl, hbw⟩ := hrel
      have hbs := hbw.size
      have hdt := depthL_take l i
      by_cases hlt : i < m
      · have hia : i < l.length := by omega
        obtain ⟨g, o, A', c', ⟨hA, _⟩, d0, d1, d2, d3, d4, hIn⟩ := TIn.part (TIn.below _ HI.out hbw (Nat.le_refl _)) i hia
        subst hA
        have hm3 := depthL_mem l (l[i]'hia) (List.getElem_mem hia)
        have hm4 := sizeL_mem l (l[i]'hia) (List.getElem_mem hia)
        have HS : Hid (depthL (l.take (i + 1)) = max (depthL (l.take i)) (depthT (l[i]'hia))) := by
          rw [List.take_succ_eq_append_getElem hia]; exact depthL_snoc _ _
        simp only [Tr.parts] at d0 d1 d2 d3 d4 hIn
        obtain ⟨tr, hu⟩ : ∃ tr, tr = l[i]'hia := ⟨_, rfl⟩
        rw [← hu] at d0 d1 d2 d3 d4 hIn hm3 hm4 HS
        clear hu
        obtain ⟨tk, ts, tn, ta, tl⟩ := tr
        simp only [Tr.kind, Tr.name, Tr.n, Tr.place] at d0 d1 d2 d3 d4
        go_wp2_with fail
        refine (ih (.node tk ts tn ta tl) A' c' _ (by omega) (by omega) (TIn.below _ hIn ((Below.refl _ wr).alloc (Nat.le_refl _) _) (Nat.le_refl _))).mono ?_
        rintro e w2 ⟨rfl, hb2⟩
        go_wp2_with fail
        go_roundw
        case rel => exact ⟨i + 1, by omega, by go_num, by rw [HS.out]; exact congrArg (Value.int .i64) (by omega), below_al hbw hb2⟩
        case measure => simp [intOf]; omega
      · go_wp2_with fail
        go_ret
        obtain rfl : i = m := by omega
        refine ⟨?_, hbw⟩
        rw [List.take_of_length_le (by omega)]
        rw [HE.out]
        exact ret_int (by omega)
set_option maxHeartbeats 1000000 in
theorem rdepth_any (d : Nat) : ∀ (t : Tr) (A : Option Addr) (c : Nat) (w : World), depthT t ≤ d → sizeT t ≤ 100000 → TIn w Any t A →
    Calls Tryz.prog 25 #[tv t A c] w fun e w' => e = .returned (.int .i64 (depthT t)) ∧ Below w.heap.size w w' := by
  induction d with
  | zero => intro t A c w h; have := depth_pos t; omega
  | succ d ih =>
    intro t A c w hd hs hI
    obtain ⟨k, s, n, a, l⟩ := t
    have hdL : depthL l ≤ d := by rw [depthT] at hd; omega
    have hsL : sizeL l ≤ 100000 := by rw [sizeT] at hs; omega
    have hlen := sizeL_len l
    have hdl := depthL_le_size l
    have HI := Lib.hid hI
    have HE : Hid (depthT (.node k s n a l) = depthL l + 1) := by rw [depthT]; exact rfl
    clear hI hd hs
    show Calls Tryz.prog 25 #[.agg #[.int .i64 k, .string s, .int .i64 n, .int .i64 a, .slice A l.length (capF l.length c)]] w _
    generalize capF l.length c = c
    obtain ⟨m, hm⟩ : ∃ m, m = l.length := ⟨_, rfl⟩
    rw [← hm]
    have hm1 : m ≤ l.length := by omega
    have hm2 : l.length ≤ m := by omega
    clear hm
    go_enter Tryz.func25, Tryz.ntmps25
    go_wp2_with fail
    go_loopw [3, 4] (fun v x wr => ∃ i : Nat, i ≤ m ∧ x = .int .i64 i ∧ v = .int .i64 (depthL (l.take i)) ∧ Below (w.heap.size + 1) (w.alloc (.cells #[.int .i64 k, .string s, .int .i64 n, .int .i64 a, .slice A m c] 24)) wr) (fun _ x _ => m - (intOf x).toNat)
    case atStart => exact ⟨0, by omega, rfl, by simp [depthL], Below.refl _ _⟩
    case round =>
      obtain ⟨i, hi, rfl, rfl, hbx⟩ := hrel
      have hbw : Below w.heap.size w wr := below_ac (by simpa using hbx)
      have c4 := ((Lies.new w 24 #[.int .i64 k, .string s, .int .i64 n, .int .i64 a, .slice A m c]).below hbx (by omega)).cell 4
      have hbxs := hbx.size
      simp at c4 hbxs
      have hbs := hbw.size
      have hdt := depthL_take l i
      by_cases hlt : i < m
      · have hia : i < l.length := by omega
        obtain ⟨g, o, A', c', ⟨hA, _⟩, d0, d1, d2, d3, d4, hIn⟩ := TIn.part (TIn.below _ HI.out hbw (Nat.le_refl _)) i hia
        subst hA
        have hm3 := depthL_mem l (l[i]'hia) (List.getElem_mem hia)
        have hm4 := sizeL_mem l (l[i]'hia) (List.getElem_mem hia)
        have HS : Hid (depthL (l.take (i + 1)) = max (depthL (l.take i)) (depthT (l[i]'hia))) := by
          rw [List.take_succ_eq_append_getElem hia]; exact depthL_snoc _ _
        simp only [Tr.parts] at d0 d1 d2 d3 d4 hIn
        obtain ⟨tr, hu⟩ : ∃ tr, tr = l[i]'hia := ⟨_, rfl⟩
        rw [← hu] at d0 d1 d2 d3 d4 hIn hm3 hm4 HS
        clear hu
        obtain ⟨tk, ts, tn, ta, tl⟩ := tr
        simp only [Tr.kind, Tr.name, Tr.n, Tr.place] at d0 d1 d2 d3 d4
        go_wp2_with fail
        refine (ih (.node tk ts tn ta tl) A' c' _ (by omega) (by omega) hIn).mono ?_
        rintro e w2 ⟨rfl, hb2⟩
        go_wp2_with fail
        go_roundw
        case rel => exact ⟨i + 1, by omega, by go_num, by rw [HS.out]; exact congrArg (Value.int .i64) (by omega), hbx.trans (hb2.mono (by omega))⟩
        case measure => simp [intOf]; omega
      · go_wp2_with fail
        go_ret
        obtain rfl : i = m := by omega
        refine ⟨?_, hbw⟩
        rw [List.take_of_length_le (by omega)]
        rw [HE.out]
        exact ret_int (by omega)
end Lx
end Go.Proofs.YteabbkhlgnoliaaGreatDoor
namespace Go.Proofs.YteabbkhlgnoliaaGreatDoor
open Go
namespace Lx
set_option maxRecDepth 100000
section
variable {P : Program} {ops : Array Oper} {Q : Exit → Act → World → Prop} {md : Region.Mode} {S : World → Prop} {last : Nat}

/-- Whatever order is picked from here on, and S holds behind every operation but the last. -/
def wpAnyK (P : Program) (md : Region.Mode) (ops : Array Oper) (Q : Exit → Act → World → Prop) (S : World → Prop) (last : Nat) : Nat → Array Bool → Act → World → Prop
  | 0, listed, a, w => Region.ready md ops listed = [] ∧ Q .normal a w
  | fuel + 1, listed, a, w =>
    (Region.ready md ops listed = [] → Q .normal a w) ∧
    ∀ i ∈ Region.ready md ops listed, wpOp P ops Q i (fun a' w' => (i ≠ last → S w') ∧ wpAnyK P md ops Q S last fuel (listed.setIfInBounds i true) a' w') a w
theorem wpAny_of_K : ∀ (fuel : Nat) (listed : Array Bool) (a : Act) (w : World), wpAnyK P md ops Q S last fuel listed a w → wpAny P md ops Q fuel listed a w
  | 0, _, _, _, h => h
  | fuel + 1, _, _, _, h => ⟨h.1, fun i hi => wpOp_mono (fun a' w' h' => wpAny_of_K fuel _ a' w' h'.2) (h.2 i hi)⟩
/-- The last operation waits for number i. -/
def waitsB (md : Region.Mode) (ops : Array Oper) (last i : Nat) : Bool :=
  match ops[last]? with
  | some o => o.after.any fun e => Region.binds md e && e.on == i
  | none => false
theorem waits_ready {i : Nat} {listed : Array Bool} (h : waitsB md ops last i = true) (hl : last ∈ Region.ready md ops listed) : listed.getD i false = true := by
  obtain ⟨_, o, ho, hall⟩ := mem_ready.1 hl
  unfold waitsB at h
  rw [ho] at h
  obtain ⟨e, he, hb⟩ := Array.any_eq_true'.1 h
  simp only [Bool.and_eq_true, beq_iff_eq] at hb
  have := hall e he hb.1
  rwa [hb.2] at this
theorem unlisted {i : Nat} {listed : Array Bool} (h : listed.getD i true = false) : listed.getD i false ≠ true := by
  intro h'
  rcases Nat.lt_or_ge i listed.size with hl | hl
  · simp [hl] at h h'; rw [h] at h'; cases h'
  · simp [Array.getElem?_eq_none hl] at h
theorem wpAnyK_first {i : Nat} {oi : Oper} {v : Value} (hi : ops[i]? = some oi) (hsel : ∀ (j : Nat) (o : Oper) cs b, ops[j]? = some o → o.op ≠ .select cs b)
    (hQ : ∀ c a w, Q (.panic c) (a.put oi.dst v) w → Q (.panic c) a w) (hwt : waitsB md ops last i = true) :
    ∀ (fuel : Nat) (listed : Array Bool) (a : Act) (w : World),
      (∀ j oj, ops[j]? = some oj → j ≠ i → listed.getD j true = false → (∀ e ∈ oj.after, Region.binds md e = true → e.on ≠ i) → oi.apart ops oj = true) →
      i ∈ Region.ready md ops listed → YieldsIf P ops S oi v a → S w →
      wpAnyK P md ops Q S last fuel (listed.setIfInBounds i true) (a.put oi.dst v) w → wpAnyK P md ops Q S last (fuel + 1) listed a w := by
  intro fuel
  induction fuel with
  | zero =>
    intro listed a w _ hr hy hS H
    refine ⟨fun h => (by rw [h] at hr; cases hr), fun j hj => ?_⟩
    by_cases hji : j = i
    · subst hji; exact hy.wpOp hi hS ⟨fun _ => hS, H⟩
    · have := ready_mono hj hji
      rw [H.1] at this
      cases this
  | succ fuel ih =>
    intro listed a w hfree hr hy hS H
    refine ⟨fun h => (by rw [h] at hr; cases hr), fun j hj => ?_⟩
    by_cases hji : j = i
    · subst hji; exact hy.wpOp hi hS ⟨fun _ => hS, H⟩
    · have hjl : j ≠ last := fun e => by
        subst e
        exact unlisted (mem_ready.1 hr).1 (waits_ready hwt hj)
      have h1 := H.2 j (ready_mono hj hji)
      obtain ⟨hjun, oj, hoj, hall⟩ := mem_ready.1 hj
      have hnot : ∀ e ∈ oj.after, Region.binds md e = true → e.on ≠ i := fun e he hb heq => by
        have h1 := hall e he hb
        rw [heq] at h1
        exact unlisted (mem_ready.1 hr).1 h1
      have h2 := wpOp_putIf hoj (hfree j oj hoj hji hjun hnot) (fun cs b => hsel i oi cs b hi) (fun cs b => hsel j oj cs b hoj) hQ hy h1
      have hfree' : ∀ k ok, ops[k]? = some ok → k ≠ i → (listed.setIfInBounds j true).getD k true = false →
          (∀ e ∈ ok.after, Region.binds md e = true → e.on ≠ i) → oi.apart ops ok = true := fun k ok hk hki hun hno => by
        refine hfree k ok hk hki ?_ hno
        by_cases hjk : j = k
        · subst hjk; exact hjun
        · rw [getD_set_ne true hjk] at hun; exact hun
      refine wpOp_mono (fun a' w' h3 => ⟨h3.2.1, ih (listed.setIfInBounds j true) a' w' hfree' (ready_mono hr (Ne.symm hji)) h3.1 (h3.2.1 hjl) ?_⟩) h2
      rw [Array.setIfInBounds_comm _ _ hji]
      exact h3.2.2
theorem wpAnyK_take {i : Nat} {oi : Oper} {v : Value} {fuel : Nat} {listed : Array Bool} {a : Act} {w : World} (hi : ops[i]? = some oi)
    (hs : Region.noSelect ops = true) (hwt : waitsB md ops last i = true) (hf : Region.free md ops listed i = true) (hr : (Region.ready md ops listed).contains i = true)
    (hQ : ∀ c a w, Q (.panic c) (a.put oi.dst v) w → Q (.panic c) a w) (hy : YieldsIf P ops S oi v a) (hS : S w)
    (h : wpAnyK P md ops Q S last fuel (listed.setIfInBounds i true) (a.put oi.dst v) w) : wpAnyK P md ops Q S last (fuel + 1) listed a w :=
  wpAnyK_first hi (Region.noSelect_spec hs) hQ hwt fuel listed a w (Region.free_spec hi hf) (by simpa using hr) hy hS h
/-- One operation alone may come up. -/
theorem wpAnyK_one {i : Nat} {o : Oper} {fuel : Nat} {listed : Array Bool} {a : Act} {w : World} (ho : ops[i]? = some o) (hg : o.guard = none) (hr : Region.ready md ops listed = [i])
    (h : ∀ K' : Act → World → Prop, Shut (∀ a w, (i ≠ last → S w) → ((i ≠ last → S w) → wpAnyK P md ops Q S last fuel (listed.setIfInBounds i true) a w) → K' a w) → Oper.wp P o a w K' Q) :
    wpAnyK P md ops Q S last (fuel + 1) listed a w := by
  refine ⟨fun h0 => (by rw [hr] at h0; cases h0), fun j hj => ?_⟩
  rw [hr] at hj
  obtain rfl : j = i := by simpa using hj
  refine wpOp_step ho fun K' hK => ?_
  rw [if_pos (by simp [Region.wanted, hg])]
  exact h K' (fun a w hS hW => hK a w ⟨hS, hW hS⟩)
theorem wpAnyK_done {listed : Array Bool} {a : Act} {w : World} (hr : Region.ready md ops listed = []) (h : Q .normal a w) : ∀ fuel, wpAnyK P md ops Q S last fuel listed a w
  | 0 => ⟨hr, h⟩
  | _ + 1 => ⟨fun _ => h, by rw [hr]; simp⟩
theorem wp_region_K {id : Nat} {a : Act} {w : World} (last : Nat) (hm : P.follows .mixedOrders = true) (hS : S w.drew)
    (h : S w.drew → wpAnyK P .any ops Q S last ops.size (Array.replicate ops.size false) a w.drew) : (Code.region id ops true).wp P Q a w :=
  wp_region_any hm (wpAny_of_K _ _ _ _ (h hS))
end
end Lx
end Go.Proofs.YteabbkhlgnoliaaGreatDoor
namespace Go.Proofs.YteabbkhlgnoliaaGreatDoor
open Go.RowKit
namespace Lx
set_option maxRecDepth 100000
/-- The answer is a tree as a value, its parts in new memory. -/
def GivesT (t : Tr) (w : World) (e : Ending) (w' : World) : Prop :=
  ∃ A c, e = .returned (tv t A c) ∧ TIn w' (fun g => w.heap.size ≤ g) t A ∧ Below w.heap.size w w'
theorem bareT_kind (t : Tr) : (bareT t).kind = t.kind := by cases t; simp [bareT, Tr.kind]
theorem bareT_name (t : Tr) : (bareT t).name = t.name := by cases t; simp [bareT, Tr.name]
theorem bareT_n (t : Tr) : (bareT t).n = t.n := by cases t; simp [bareT, Tr.n]
theorem bareT_place (t : Tr) : (bareT t).place = 0 := by cases t; simp [bareT, Tr.place]
theorem bareL_length (l : List Tr) : (bareL l).length = l.length := by rw [bareL_map]; simp
theorem bareT_parts (t : Tr) : (bareT t).parts.length = t.parts.length := by cases t; simp [bareT, Tr.parts, bareL_length]
theorem tv_bare (t : Tr) (A : Option Addr) (c : Nat) : tv (bareT t) A c = .agg #[.int .i64 t.kind, .string t.name, .int .i64 t.n, .int .i64 0, .slice A t.parts.length (capF t.parts.length c)] := by
  rw [tv, bareT_kind, bareT_name, bareT_n, bareT_place, bareT_parts]
theorem take_snoc_map {α β : Type} (f : α → β) (l : List α) (i : Nat) (h : i < l.length) : (l.take (i + 1)).map f = (l.take i).map f ++ [f (l[i]'h)] := by
  rw [List.take_succ_eq_append_getElem h, List.map_append]; rfl

set_option maxHeartbeats 2000000 in
theorem rbare_any (d : Nat) : ∀ (t : Tr) (A : Option Addr) (c : Nat) (w : World), depthT t ≤ d → sizeT t ≤ 100000 → TIn w Any t A →
    Calls Tryz.prog 28 #[tv t A c] w (GivesT (bareT t) w) := by
  induction d with
  | zero => intro t A c w h; have := depth_pos t; omega
  | succ d ih =>
    intro t A c w hd hs hI
    obtain ⟨k, s, n, a, l⟩ := t
    have hdL : depthL l ≤ d := by rw [depthT] at hd; omega
    have hsL : sizeL l ≤ 100000 := by rw [sizeT] at hs; omega
    have hlen := sizeL_len l
    have hss : s.size ≤ 140737488351232 := by rw [TIn] at hI; exact hI.1
    have HI := Lib.hid hI
    clear hI hd hs
    show Calls Tryz.prog 28 #[.agg #[.int .i64 k, .string s, .int .i64 n, .int .i64 a, .slice A l.length (capF l.length c)]] w _
    generalize capF l.length c = c
    obtain ⟨m, hm⟩ : ∃ m, m = l.length := ⟨_, rfl⟩
    rw [← hm]
    have hm1 : m ≤ l.length := by omega
    have hm2 : l.length ≤ m := by omega
    clear hm
    go_enter Tryz.func28, Tryz.ntmps28
    go_wp2_with fail
    go_loopw [4] (fun x wr => ∃ (i : Nat) (B : Option Addr) (bc : Nat) (xs : List Value), i ≤ m ∧ x = .int .i64 i ∧
        Lies wr w.heap.size 24 #[.int .i64 k, .string s, .int .i64 n, .int .i64 a, .slice A m c] ∧
        Lies wr (w.heap.size + 1) 24 #[.int .i64 0, .string ⟨#[]⟩, .int .i64 0, .int .i64 0, .slice none 0 0] ∧
        Lies wr (w.heap.size + 1 + 1) 24 #[.int .i64 k, .string s, .int .i64 n, .int .i64 0, .slice B i bc] ∧
        wr.ownsRow (w.heap.size + 3) 24 5 (.slice B i bc) i xs ∧
        RowTr wr (fun g => w.heap.size + 3 ≤ g ∧ some g ≠ (Value.slice B i bc).ownBlock) ((l.take i).map bareT) xs ∧ w.heap.size + 3 ≤ wr.heap.size ∧ Below w.heap.size w wr) (fun x _ => m - (intOf x).toNat)
    case atStart =>
      refine ⟨0, none, 0, [], by omega, rfl, ((Lies.new w _ _).old _).old _, ?_, ?_, World.ownsRow_nil _ _ _ _, RowTr.nil _ _, by simp, (((Below.refl _ w).alloc (Nat.le_refl _) _).alloc (by simp) _).alloc (by simp; omega) _⟩
      · simpa using (Lies.new (w.alloc _) 24 #[.int .i64 0, .string ⟨#[]⟩, .int .i64 0, .int .i64 0, .slice none 0 0]).old _
      · simpa using Lies.new ((w.alloc _).alloc _) 24 #[.int .i64 k, .string s, .int .i64 n, .int .i64 0, .slice none 0 0]
    case round =>
      obtain ⟨i, B, bc, xs, hi, rfl, l0, l1, l2, hown, hrow, hsz, hbw⟩ := hrel
      have c4 := l0.five.1.2.2.2.2
      by_cases hlt : i < m
      · have hia : i < l.length := by omega
        obtain ⟨g, o, A', c', ⟨hA, _⟩, d0, d1, d2, d3, d4, hIn⟩ := TIn.part (TIn.below _ HI.out hbw (Nat.le_refl _)) i hia
        subst hA
        have hm3 := depthL_mem l (l[i]'hia) (List.getElem_mem hia)
        have hm4 := sizeL_mem l (l[i]'hia) (List.getElem_mem hia)
        have HS := Lib.hid (take_snoc_map bareT l i hia)
        simp only [Tr.parts] at d0 d1 d2 d3 d4 hIn
        obtain ⟨tr, hu⟩ : ∃ tr, tr = l[i]'hia := ⟨_, rfl⟩
        rw [← hu] at d0 d1 d2 d3 d4 hIn hm3 hm4 HS
        clear hu
        obtain ⟨tk, ts, tn, ta, tl⟩ := tr
        simp only [Tr.kind, Tr.name, Tr.n, Tr.place] at d0 d1 d2 d3 d4
        have e4 := l2.five.1.2.2.2.2
        have hg0 := (TIn.part HI.out i hia)
        obtain ⟨g0, o0, _, _, ⟨hA0, _⟩, hx0, _⟩ := hg0
        injection hA0 with hA0
        injection hA0 with hA0 hA1
        subst hA0 hA1
        have hgw := cell_lt hx0
        clear hx0
        have hS : ∀ W : World, (∀ b j, b < w.heap.size + 3 → W.cell? ⟨b, j, none⟩ = wr.cell? ⟨b, j, none⟩) → W.cell? ⟨w.heap.size + 1 + 1, 4, none⟩ = some (.slice B i bc) ∧ W.cell? ⟨w.heap.size, 4, none⟩ = some (.slice (some ⟨g, o, none⟩) m c) ∧ W.cell? ⟨g, o + i * 5, none⟩ = some (.int .i64 tk) ∧ W.cell? ⟨g, o + i * 5 + 1, none⟩ = some (.string ts) ∧ W.cell? ⟨g, o + i * 5 + 2, none⟩ = some (.int .i64 tn) ∧ W.cell? ⟨g, o + i * 5 + 3, none⟩ = some (.int .i64 ta) ∧ W.cell? ⟨g, o + i * 5 + 4, none⟩ = some (.slice A' tl.length (capF tl.length c')) := fun W hW =>
          ⟨(hW _ _ (by omega)).trans e4, (hW _ _ (by omega)).trans c4, (hW _ _ (by omega)).trans d0, (hW _ _ (by omega)).trans d1, (hW _ _ (by omega)).trans d2, (hW _ _ (by omega)).trans d3, (hW _ _ (by omega)).trans d4⟩
        have HSS := Lib.hid hS
        clear hS
        have hlto := hown.lt
        obtain ⟨i0, hi0, hz0, hz1, hz2⟩ := info_parts infoT
        go_wp2_with fail
        refine wp_region_K (S := fun W : World => W.cell? ⟨w.heap.size + 1 + 1, 4, none⟩ = some (.slice B i bc) ∧ W.cell? ⟨w.heap.size, 4, none⟩ = some (.slice (some ⟨g, o, none⟩) m c) ∧ W.cell? ⟨g, o + i * 5, none⟩ = some (.int .i64 tk) ∧ W.cell? ⟨g, o + i * 5 + 1, none⟩ = some (.string ts) ∧ W.cell? ⟨g, o + i * 5 + 2, none⟩ = some (.int .i64 tn) ∧ W.cell? ⟨g, o + i * 5 + 3, none⟩ = some (.int .i64 ta) ∧ W.cell? ⟨g, o + i * 5 + 4, none⟩ = some (.slice A' tl.length (capF tl.length c'))) 11 (by kernel_rfl) ⟨e4, c4, d0, d1, d2, d3, d4⟩ fun hS1 => ?_
        change wpAnyK _ _ _ _ _ _ 12 (Array.replicate 12 false) _ _
        clear e4 c4 d0 d1 d2 d3 d4
        refine wpAnyK_take (i := 0) (v := .pointer (some ⟨w.heap.size + 1 + 1, 4, none⟩)) rfl (by kernel_rfl) (by kernel_rfl) (by kernel_rfl) (by kernel_rfl) (fun _ _ _ h => h) (.inl ⟨by kernel_rfl, fun W hW => by kernel_rfl⟩) hS1 ?_
        try simp only [Act.put, List.setIfInBounds_toArray]
        refine wpAnyK_take (i := 1) (v := .slice B i bc) rfl (by kernel_rfl) (by kernel_rfl) (by kernel_rfl) (by kernel_rfl) (fun _ _ _ h => h) (.inl ⟨by kernel_rfl, fun W hW => by (obtain ⟨h0, h1, h2, h3, h4, h5, h6⟩ := hW; go_simp)⟩) hS1 ?_
        try simp only [Act.put]
        refine wpAnyK_take (i := 2) (v := .pointer (some ⟨w.heap.size, 4, none⟩)) rfl (by kernel_rfl) (by kernel_rfl) (by kernel_rfl) (by kernel_rfl) (fun _ _ _ h => h) (.inl ⟨by kernel_rfl, fun W hW => by kernel_rfl⟩) hS1 ?_
        try simp only [Act.put]
        refine wpAnyK_take (i := 3) (v := .slice (some ⟨g, o, none⟩) m c) rfl (by kernel_rfl) (by kernel_rfl) (by kernel_rfl) (by kernel_rfl) (fun _ _ _ h => h) (.inl ⟨by kernel_rfl, fun W hW => by (obtain ⟨h0, h1, h2, h3, h4, h5, h6⟩ := hW; go_simp)⟩) hS1 ?_
        try simp only [Act.put]
        refine wpAnyK_take (i := 4) (v := .int .i64 i) rfl (by kernel_rfl) (by kernel_rfl) (by kernel_rfl) (by kernel_rfl) (fun _ _ _ h => h) (.inl ⟨by kernel_rfl, fun W hW => by kernel_rfl⟩) hS1 ?_
        try simp only [Act.put]
        refine wpAnyK_take (i := 5) (v := .pointer (some ⟨g, o + i * 5, none⟩)) rfl (by kernel_rfl) (by kernel_rfl) (by kernel_rfl) (by kernel_rfl) (fun _ _ _ h => h) (.inl ⟨by kernel_rfl, fun W hW => by (obtain ⟨h0, h1, h2, h3, h4, h5, h6⟩ := hW; go_simp)⟩) hS1 ?_
        try simp only [Act.put]
        refine wpAnyK_take (i := 6) (v := .agg #[.int .i64 tk, .string ts, .int .i64 tn, .int .i64 ta, .slice A' tl.length (capF tl.length c')]) rfl (by kernel_rfl) (by kernel_rfl) (by kernel_rfl) (by kernel_rfl) (fun _ _ _ h => h) (.inl ⟨by kernel_rfl, fun W hW => by (obtain ⟨h0, h1, h2, h3, h4, h5, h6⟩ := hW; go_simp)⟩) hS1 ?_
        try simp only [Act.put]
        refine wpAnyK_one (i := 7) rfl rfl (by kernel_rfl) (fun K hK => ?_)
        go_wp2_with fail
        refine (ih (.node tk ts tn ta tl) A' c' wr.drew (by omega) (by omega) (TIn.below _ hIn ((Below.refl _ wr).drew) (Nat.le_refl _))).mono ?_
        rintro e w2 ⟨A2, c2, he, hT2, hb2⟩
        rw [tv_bare] at he
        simp only [Tr.kind, Tr.name, Tr.n, Tr.parts] at he
        subst he
        have hbr : Below wr.heap.size wr w2 := (Below.refl _ wr).drew.trans hb2
        have hs2 := hbr.size
        have k0 := l0.below hbr (by omega)
        have k1 := l1.below hbr (by omega)
        have k2 := l2.below hbr (by omega)
        have hown2 := own_below hown hbr (Nat.le_refl _)
        have hrow2 := hrow.below hbr (Nat.le_refl _)
        have hbw2 := hbw.trans (hbr.mono hbw.size)
        have K2 : ∀ b j, b < w.heap.size + 3 → w2.cell? ⟨b, j, none⟩ = wr.cell? ⟨b, j, none⟩ := fun b j hb => hbr.cell (p := ⟨b, j, none⟩) (by show b < _; omega)
        refine hK.out _ _ (fun _ => HSS.out _ K2) fun _ => ?_
        clear hK hS1 hbr hb2 hIn hown hrow hbw l0 l1 l2
        try simp only [Act.put, List.setIfInBounds_toArray, List.set_cons_zero, List.set_cons_succ]
        refine wpAnyK_one (i := 8) rfl rfl (by kernel_rfl) (fun K hK => ?_)
        go_wp2_with fail
        have K2a : ∀ b j, b < w.heap.size + 3 → (w2.alloc (.cells #[.int .i64 tk, .string ts, .int .i64 tn, .int .i64 0, .slice A2 tl.length (capF tl.length c2)] 24)).cell? ⟨b, j, none⟩ = wr.cell? ⟨b, j, none⟩ := fun b j hb => (World.cell?_alloc_lt w2 _ ⟨b, j, none⟩ (by show b < _; omega)).trans (K2 b j hb)
        refine hK.out _ _ (fun _ => HSS.out _ K2a) fun _ => ?_
        clear hK
        try simp only [Act.put, List.setIfInBounds_toArray, List.set_cons_zero, List.set_cons_succ]
        refine wpAnyK_one (i := 9) rfl rfl (by kernel_rfl) (fun K hK => ?_)
        refine wp_append_lies _ _ _ _ rfl (w.heap.size + 3) 24 i0 _ 5 64 Tryz.underlying22 hi0 hz0 hz1 hz2 rfl (by omega) (.slice B i bc) i xs rfl (hown2.alloc _)
                ⟨w2.heap.size, 0, none⟩ 1 1 [.int .i64 tk, .string ts, .int .i64 tn, .int .i64 0, .slice A2 tl.length (capF tl.length c2)] rfl rfl (World.news_of_block (cs := #[.int .i64 tk, .string ts, .int .i64 tn, .int .i64 0, .slice A2 tl.length (capF tl.length c2)]) (t := 24) (fr := (0, 0)) (heap_alloc_new w2 _)) (by simp [Value.oneCell'])
                (by omega) (by simp only [maxLen]; omega) (by omega) (by simp; omega) (w2.heap.size + 1) (by simp) ?_
        intro gg c3 w3 hown3 hg3 hat hltg
        have K3 : ∀ b j, b < w.heap.size + 3 → w3.cell? ⟨b, j, none⟩ = wr.cell? ⟨b, j, none⟩ := fun b j hb =>
          (World.cell?_of_block (hg3.block b (by simp; omega) (fun e => by have := (hlto b e.symm).1; omega))).trans (K2a b j hb)
        refine hK.out _ _ (fun _ => HSS.out _ K3) fun _ => ?_
        clear hK
        try simp only [Act.put, List.setIfInBounds_toArray]
        refine wpAnyK_one (i := 10) rfl rfl (by kernel_rfl) (fun K hK => ?_)
        go_wp2_with fail
        refine hK.out _ _ (fun _ => HSS.out _ K3) fun _ => ?_
        clear hK
        try simp only [Act.put, List.setIfInBounds_toArray, List.set_cons_zero, List.set_cons_succ]
        refine wpAnyK_one (i := 11) rfl rfl (by kernel_rfl) (fun K hK => ?_)
        have hs3 := hg3.size
        simp at hs3
        have hnb : ∀ b, b < w.heap.size + 3 → some b ≠ (Value.slice B i bc).ownBlock := fun b hb e => by have := (hlto b e.symm).1; omega
        have j0 := (k0.old (.cells #[.int .i64 tk, .string ts, .int .i64 tn, .int .i64 0, .slice A2 tl.length (capF tl.length c2)] 24)).grown hg3 (hnb _ (by omega))
        have j1 := (k1.old (.cells #[.int .i64 tk, .string ts, .int .i64 tn, .int .i64 0, .slice A2 tl.length (capF tl.length c2)] 24)).grown hg3 (hnb _ (by omega))
        have j2 := (k2.old (.cells #[.int .i64 tk, .string ts, .int .i64 tn, .int .i64 0, .slice A2 tl.length (capF tl.length c2)] 24)).grown hg3 (hnb _ (by omega))
        have hB3 : Below w.heap.size w w3 := (hbw2.alloc hbw2.size _).grown hg3 (by simp; omega) (fun q hq => by have := (hlto q hq).1; omega)
        have e4 := j2.five.1.2.2.2.2
        have f4 := j2.five.2.2.2.2.2
        have hfar : ∀ b j, b < w2.heap.size → some b ≠ (Value.slice B i bc).ownBlock → w3.cell? ⟨b, j, none⟩ = w2.cell? ⟨b, j, none⟩ ∧ some b ≠ (Value.slice (some ⟨gg, 0, none⟩) (i + 1) c3).ownBlock := fun b j hb hne => by
          refine ⟨(World.cell?_of_block (hg3.block b (by simp; omega) hne)).trans (World.cell?_alloc_lt w2 _ ⟨b, j, none⟩ hb), fun e => ?_⟩
          have e9 : b = gg := Option.some.inj e
          rcases hat with h | h
          · exact hne (by rw [h, e9])
          · omega
        have hrow3 : RowTr w3 (fun g => w.heap.size + 3 ≤ g ∧ some g ≠ (Value.slice (some ⟨gg, 0, none⟩) (i + 1) c3).ownBlock) ((l.take i).map bareT) xs :=
          hrow2.keep fun b j hX hb => ⟨(hfar b j hb hX.2).1, hX.1, (hfar b j hb hX.2).2⟩
        have hT3 : TIn w3 (fun g => w.heap.size + 3 ≤ g ∧ some g ≠ (Value.slice (some ⟨gg, 0, none⟩) (i + 1) c3).ownBlock) (bareT (.node tk ts tn ta tl)) A2 :=
          TIn.keep _ hT2 fun b j hX hb => by
            have hX' : wr.heap.size ≤ b := hX
            have hne : some b ≠ (Value.slice B i bc).ownBlock := fun e => by have := (hlto b e.symm).2; omega
            exact ⟨(hfar b j hb hne).1, by omega, (hfar b j hb hne).2⟩
        clear hi0 hz0 hz1 hz2 hg3 hat k0 k1 k2 hown2 hrow2 hfar hT2 K2 K2a K3
        go_wp2_with fail
        refine hK.out _ _ (fun h => absurd rfl h) fun _ => ?_
        clear hK
        try simp only [Act.put, List.setIfInBounds_toArray, List.set_cons_zero, List.set_cons_succ]
        refine wpAnyK_done (by kernel_rfl) ?_ _
        go_wp2_with fail
        go_roundw
        case rel =>
          refine ⟨i + 1, some ⟨gg, 0, none⟩, c3, xs ++ cellsT (bareT (.node tk ts tn ta tl)) A2 c2, by omega, by go_num, j0.far (by simp; omega) _, j1.far (by simp) _, by simpa using j2.put 4 (.slice (some ⟨gg, 0, none⟩) (i + 1) c3), ?_, ?_, by simp [World.setCell]; omega, hB3.setCell (by show w.heap.size ≤ w.heap.size + 1 + 1; omega) _⟩
          · have h5 : cellsT (bareT (.node tk ts tn ta tl)) A2 c2 = [.int .i64 tk, .string ts, .int .i64 tn, .int .i64 0, .slice A2 tl.length (capF tl.length c2)] := by
              rw [cellsT, bareT_kind, bareT_name, bareT_n, bareT_place, bareT_parts]; rfl
            rw [h5]
            exact ownsRow_setCell_below hown3 (by show w.heap.size + 1 + 1 < _; omega) _
          · rw [HS.out]
            exact (hrow3.snoc hT3).setCell _ _ (fun h => by have h9 : w.heap.size + 3 ≤ w.heap.size + 1 + 1 := h.1; omega)
        case measure => simp [intOf]; omega
      · have e0 := l2.five.1.1
        have e1 := l2.five.1.2.1
        have e2 := l2.five.1.2.2.1
        have e3 := l2.five.1.2.2.2.1
        have e4 := l2.five.1.2.2.2.2
        obtain ⟨⟨z0, z1, z2, z3, z4⟩, f0, f1, f2, f3, f4⟩ := l1.five
        go_wp2_with fail
        obtain rfl : i = m := by omega
        have hpl : (l.take i).map bareT = bareL l := by rw [bareL_map, List.take_of_length_le (by omega)]
        rw [hpl] at hrow
        have hbl := bareL_length l
        have hil : i = l.length := by omega
        refine bodyPost_ret (res_tree (p := 2) Tryz.results28 rfl (l1.all5 _ _ _ _ _)) rfl ⟨B, bc, ?_, ?_, ?_⟩
        · rw [tv_bare]
          simp only [Tr.kind, Tr.name, Tr.n, Tr.parts]
          rw [capF_of (show l.length ≤ bc by have := own_le hown; omega), hil]
        · rw [bareT, TIn]
          refine ⟨hss, by omega, ?_⟩
          have hL := hrow.owned (Y := fun g => w.heap.size + 3 ≤ g) hown (fun g hg => hg) (fun g hg _ => hg.1)
          refine LIn.keep _ hL fun g j hg _ => ⟨?_, by omega⟩
          have hne : ∀ q u, (⟨w.heap.size + 1, q, none⟩ : Addr) ≠ ⟨g, u, none⟩ := fun q u e => by injection e with e; omega
          rw [World.cell?_setCell_other _ _ _ _ (hne _ _), World.cell?_setCell_other _ _ _ _ (hne _ _), World.cell?_setCell_other _ _ _ _ (hne _ _), World.cell?_setCell_other _ _ _ _ (hne _ _), World.cell?_setCell_other _ _ _ _ (hne _ _)]
        · exact Below.all5 hbw (by omega) _ _ _ _ _
end Lx
end Go.Proofs.YteabbkhlgnoliaaGreatDoor
namespace Go.Proofs.YteabbkhlgnoliaaGreatDoor
open Go.RowKit
namespace Lx
set_option maxRecDepth 100000
/-- The class of a byte. -/
def clsV (c : Int) : Int := if lowR c = true then 1 else if upR c = true then 2 else if digR c = true then 3 else if blkR c = true then 4 else 0
set_option maxHeartbeats 1000000 in
theorem class_any (c : Int) (w : World) (h0 : 0 ≤ c) (h1 : c ≤ 255) : Calls Tryz.prog 69 #[.int .u8 c] w fun e w' => e = .returned (.int .i64 (clsV c)) ∧ w = w' := by
  have hc : (97 ≤ c ∧ c ≤ 122) ∨ (65 ≤ c ∧ c ≤ 90) ∨ (48 ≤ c ∧ c ≤ 57) ∨ c = 32 ∨ c = 10 ∨ c = 9 ∨ (122 < c) ∨ (90 < c ∧ c < 97) ∨ (57 < c ∧ c < 65) ∨ (32 < c ∧ c < 48) ∨ (10 < c ∧ c < 32) ∨ c < 9 := by omega
  rcases hc with ⟨a, b⟩ | ⟨a, b⟩ | ⟨a, b⟩ | rfl | rfl | rfl | a | ⟨a, b⟩ | ⟨a, b⟩ | ⟨a, b⟩ | ⟨a, b⟩ | a
  all_goals
    try have n1 : (c == 32) = false := by simp; omega
    try have n2 : (c == 10) = false := by simp; omega
    try have n3 : (c == 9) = false := by simp; omega
    go_enter Tryz.func69, Tryz.ntmps69
    go_wp2
  all_goals
    go_ret
    refine ⟨ret_int ?_, rfl⟩
    first
      | rfl
      | (simp [clsV, lowR, upR, digR, blkR, *]; done)
      | (have e1 : lowR c = false := by simp [lowR]; omega
         have e2 : upR c = false := by simp [upR]; omega
         have e3 : digR c = false := by simp [digR]; omega
         have e4 : blkR c = false := by simp [blkR]; omega
         simp [clsV, e1, e2, e3, e4]; done)
      | (have e1 : lowR c = false := by simp [lowR]; omega
         have e2 : upR c = false := by simp [upR]; omega
         have e3 : digR c = true := by simp [digR]; omega
         simp [clsV, e1, e2, e3]; done)
      | (have e1 : lowR c = false := by simp [lowR]; omega
         have e2 : upR c = true := by simp [upR]; omega
         simp [clsV, e1, e2]; done)

theorem rword_any (s : ByteArray) (w : World) : Calls Tryz.prog 110 #[.string s] w fun e w' => e = .returned (.bool (wordS s.data.toList)) ∧ w = w' := by
  go_enter Tryz.func110, Tryz.ntmps110
  go_wp2
  all_goals
    go_ret
    refine ⟨ret_bool ?_, rfl⟩
    rw [← data_list]
    simp_all [wordS, Bool.or_assoc]

set_option maxHeartbeats 1000000 in
theorem rnumber_any (s : ByteArray) (w : World) (hd : run digR s.data.toList = s.data.toList.length) (h18 : s.size ≤ 18) :
    Calls Tryz.prog 109 #[.string s] w fun e w' => e = .returned (.int .i64 (numV s.data.toList)) ∧ w = w' := by
  have HD := Lib.hid hd
  clear hd
  go_enter Tryz.func109, Tryz.ntmps109
  go_wp2_with fail
  go_loop [3, 4] (fun n a => ∃ k : Nat, k ≤ s.size ∧ a = .int .i64 k ∧ n = .int .i64 (numV (s.data.toList.take k))) (fun _ a => s.size - (intOf a).toNat)
  case atStart => exact ⟨0, Nat.zero_le _, rfl, rfl⟩
  case round =>
    obtain ⟨k, hk, rfl, rfl⟩ := hrel
    by_cases hlt : k < s.size
    · have hlen : k < s.data.toList.length := by simpa using hlt
      have hb : s.data.toList[k]'hlen = s[k] := by simp [ByteArray.getElem_eq_getElem_data]
      have hmem := dig_of digR _ HD.out (s.data.toList[k]'hlen) (List.getElem_mem hlen)
      have HS := Lib.hid (take_snoc s.data.toList k hlen)
      have hbd := numV_bd k (s.data.toList.take k) (by simp; omega) (fun c hc => dig_of digR _ HD.out c (List.mem_of_mem_take hc))
      have hp := pow_le17 k (by omega)
      rw [hb] at hmem HS
      have hd2 : 48 ≤ ((s[k]'hlt).toNat : Int) ∧ ((s[k]'hlt).toNat : Int) ≤ 57 := by simpa [digR] using hmem
      obtain ⟨hd3, hd4⟩ := hd2
      obtain ⟨hb3, hb4⟩ := hbd
      have hb5 : numV (s.data.toList.take k) ≤ 100000000000000000 := by omega
      clear hp hb4 hmem hb
      obtain ⟨N, hN⟩ : ∃ N, N = numV (s.data.toList.take k) := ⟨_, rfl⟩
      rw [← hN] at hb3 hb5 ⊢
      have HNN := Lib.hid hN
      clear hN
      go_wp2_with fail
      go_round
      case rel =>
        refine ⟨k + 1, by omega, by go_num, congrArg (Value.int .i64) ?_⟩
        rw [HS.out, numV_snoc, ← HNN.out]
        omega
      case measure => simp [intOf]; omega
    · go_wp2_with fail
      go_ret
      refine ⟨ret_int ?_, rfl⟩
      rw [List.take_of_length_le (by simp; omega)]
end Lx
end Go.Proofs.YteabbkhlgnoliaaGreatDoor
namespace Go.Proofs.YteabbkhlgnoliaaGreatDoor
open Go.RowKit
namespace Lx
set_option maxRecDepth 100000
theorem run_pos2 {P : Int → Bool} {c : UInt8} {q : List UInt8} (h : 0 < run P (c :: q)) : P (c.toNat : Int) = true := by
  by_cases hc : P (c.toNat : Int) = true
  · exact hc
  · simp [run, hc] at h
theorem run_lt_at (P : Int → Bool) : ∀ (l : List UInt8) (m : Nat), m < run P l → ∃ h : m < l.length, P ((l[m]'h).toNat : Int) = true
  | [], m, h => by simp [run] at h
  | c :: l, 0, h => ⟨by simp, run_pos2 h⟩
  | c :: l, m + 1, h => by
    cases hc : P (c.toNat : Int)
    · simp [run, hc] at h
    · simp [run, hc] at h
      obtain ⟨h1, h2⟩ := run_lt_at P l m h
      exact ⟨by simp; omega, by simpa using h2⟩
theorem run_stop_at (P : Int → Bool) : ∀ (l : List UInt8) (h : run P l < l.length), P ((l[run P l]'h).toNat : Int) = false
  | [], h => by simp at h
  | c :: l, h => by
    cases hc : P (c.toNat : Int)
    · simp [run, hc]
    · have h1 : run P l < l.length := by simp [run, hc] at h; omega
      have := run_stop_at P l h1
      simpa [run, hc] using this
theorem run_min (P Q : Int → Bool) (hPQ : ∀ x, P x = true → Q x = true) : ∀ l : List UInt8, run P l ≤ run Q l
  | [] => by simp [run]
  | c :: l => by
    have := run_min P Q hPQ l
    cases hc : P (c.toNat : Int)
    · simp [run, hc]
    · simp [run, hc, hPQ _ hc, this]

set_option maxHeartbeats 2000000 in
theorem rrun_any (s : ByteArray) (k : Nat) (w : World) (hk : k ≤ s.size) (hs : s.size ≤ 140737488351232) :
    Calls Tryz.prog 107 #[.string s, .int .i64 k] w fun e w' => e = .returned (.tuple #[.int .i64 (run ldR (s.data.toList.drop k)), .bool (decide (run digR (s.data.toList.drop k) < run ldR (s.data.toList.drop k)))]) ∧ w = w' := by
  obtain ⟨D, hD⟩ : ∃ D, D = s.data.toList.drop k := ⟨_, rfl⟩
  have hDl : D.length = s.size - k := by rw [hD, List.length_drop, Lib.size_eq]
  have hle := run_le ldR D
  rw [← hD]
  have HD := Lib.hid hD
  have HDL := Lib.hid hDl
  rw [hDl] at hle
  clear hD hDl
  go_enter Tryz.func107, Tryz.ntmps107
  go_wp2_with fail
  go_loop [6, 7] (fun a b => ∃ m : Nat, m ≤ run ldR D ∧ a = .int .i64 m ∧ b = .bool (decide (run digR D < m))) (fun a _ => s.size - (intOf a).toNat)
  case atStart => exact ⟨0, Nat.zero_le _, rfl, by simp⟩
  case round =>
    obtain ⟨m, hm, rfl, rfl⟩ := hrel
    by_cases hlt : k + m < s.size
    · have hmD : m < D.length := by rw [HDL.out]; omega
      obtain ⟨c, hc⟩ : ∃ c, c = s[k + m]'hlt := ⟨_, rfl⟩
      have hcD : D[m]'hmD = c := by
        rw [hc]
        have h1 : D[m]'hmD = (s.data.toList.drop k)[m]'(by rw [← HD.out]; exact hmD) := by congr 1
        rw [h1, List.getElem_drop]
        simp [ByteArray.getElem_eq_getElem_data]
      have hb0 : s[k + m]'hlt = c := hc.symm
      have HCD := Lib.hid hcD
      clear hc hcD
      have hcn : (c.toNat : Int) ≤ 255 := by have := c.toNat_lt; omega
      by_cases hin : m < run ldR D
      · obtain ⟨h1, h2⟩ := run_lt_at ldR D m hin
        rw [HCD.out] at h2
        by_cases hdg : digR (c.toNat : Int) = true
        · have hcl : clsV (c.toNat : Int) = 3 := by
            simp only [digR, Bool.and_eq_true, decide_eq_true_eq] at hdg
            have e1 : lowR (c.toNat : Int) = false := by simp [lowR]; omega
            have e2 : upR (c.toNat : Int) = false := by simp [upR]; omega
            have e3 : digR (c.toNat : Int) = true := by simp [digR, hdg]
            simp [clsV, e1, e2, e3]
          have HCL := Lib.hid hcl
          have HDG := Lib.hid hdg
          clear hcl hdg h2
          cases hL : decide (run digR D < m)
          all_goals
            go_wp2_with fail
            refine (class_any _ _ (by omega) hcn).mono ?_
            rintro e w' ⟨rfl, rfl⟩
            rw [HCL.out]
            go_wp2_with fail
            go_round
            case rel =>
              refine ⟨m + 1, by omega, by go_num, congrArg Value.bool ?_⟩
              have h3 : run digR D ≠ m := by
                intro e
                have := run_stop_at digR D (by rw [e]; exact hmD)
                simp only [e] at this
                rw [HCD.out, HDG.out] at this
                cases this
              simp at hL ⊢
              omega
            case measure => simp [intOf]; omega
        · have hno : run digR D ≤ m := by
            rcases Nat.lt_or_ge m (run digR D) with h3 | h3
            · obtain ⟨_, h4⟩ := run_lt_at digR D m h3
              rw [HCD.out] at h4
              exact absurd h4 hdg
            · exact h3
          have hcl : clsV (c.toNat : Int) = 1 ∨ clsV (c.toNat : Int) = 2 := by
            simp only [ldR, Bool.or_eq_true] at h2
            cases e1 : lowR (c.toNat : Int)
            · cases e2 : upR (c.toNat : Int)
              · rw [e1, e2] at h2
                simp at h2
                exact absurd h2 hdg
              · right; simp [clsV, e1, e2]
            · left; simp [clsV, e1]
          clear hdg h2
          rcases hcl with hcl | hcl
          all_goals
            have HCL := Lib.hid hcl
            clear hcl
            cases hL : decide (run digR D < m)
            all_goals
              go_wp2_with fail
              refine (class_any _ _ (by omega) hcn).mono ?_
              rintro e w' ⟨rfl, rfl⟩
              rw [HCL.out]
              go_wp2_with fail
              go_round
              case rel =>
                refine ⟨m + 1, by omega, by go_num, congrArg Value.bool ?_⟩
                simp
                omega
              case measure => simp [intOf]; omega
      · have hme : m = run ldR D := by omega
        have hst := run_stop_at ldR D (by rw [← hme]; exact hmD)
        simp only [← hme] at hst
        rw [HCD.out] at hst
        have hcl : clsV (c.toNat : Int) = 4 ∨ clsV (c.toNat : Int) = 0 := by
          simp only [ldR, Bool.or_eq_false_iff] at hst
          obtain ⟨e1, e2, e3⟩ := hst
          cases e4 : blkR (c.toNat : Int)
          · right; simp [clsV, e1, e2, e3, e4]
          · left; simp [clsV, e1, e2, e3, e4]
        have HME := Lib.hid hme
        clear hst hme
        rcases hcl with hcl | hcl
        all_goals
          have HCL := Lib.hid hcl
          clear hcl
          go_wp2_with fail
          refine (class_any _ _ (by omega) hcn).mono ?_
          rintro e w' ⟨rfl, rfl⟩
          rw [HCL.out]
          go_wp2_with fail
          go_ret2
          have hme := HME.out
          subst hme
          exact ⟨rfl, rfl⟩
    · go_wp2_with fail
      go_ret2
      have : m = run ldR D := by omega
      subst this
      exact ⟨rfl, rfl⟩
end Lx
end Go.Proofs.YteabbkhlgnoliaaGreatDoor
namespace Go.Proofs.YteabbkhlgnoliaaGreatDoor
open Go.RowKit
namespace Lx
set_option maxRecDepth 100000
def ones : List UInt8 := [92, 46, 40, 41, 61, 123, 125, 124, 43, 45, 42, 47, 60]
theorem one_at (k : Nat) (h : k < 13) (w : World) : (Instr.index 9 (.string ⟨#[92, 46, 40, 41, 61, 123, 125, 124, 43, 45, 42, 47, 60]⟩) (.int .i64 k)).run Tryz.prog w = .ok (.int .u8 ((ones.getD k 0).toNat : Int)) w := by
  have i0 : (Instr.index 9 (.string ⟨#[92, 46, 40, 41, 61, 123, 125, 124, 43, 45, 42, 47, 60]⟩) (.int .i64 0)).run Tryz.prog w = .ok (.int .u8 ((ones.getD 0 0).toNat : Int)) w := by kernel_rfl
  have i1 : (Instr.index 9 (.string ⟨#[92, 46, 40, 41, 61, 123, 125, 124, 43, 45, 42, 47, 60]⟩) (.int .i64 1)).run Tryz.prog w = .ok (.int .u8 ((ones.getD 1 0).toNat : Int)) w := by kernel_rfl
  have i2 : (Instr.index 9 (.string ⟨#[92, 46, 40, 41, 61, 123, 125, 124, 43, 45, 42, 47, 60]⟩) (.int .i64 2)).run Tryz.prog w = .ok (.int .u8 ((ones.getD 2 0).toNat : Int)) w := by kernel_rfl
  have i3 : (Instr.index 9 (.string ⟨#[92, 46, 40, 41, 61, 123, 125, 124, 43, 45, 42, 47, 60]⟩) (.int .i64 3)).run Tryz.prog w = .ok (.int .u8 ((ones.getD 3 0).toNat : Int)) w := by kernel_rfl
  have i4 : (Instr.index 9 (.string ⟨#[92, 46, 40, 41, 61, 123, 125, 124, 43, 45, 42, 47, 60]⟩) (.int .i64 4)).run Tryz.prog w = .ok (.int .u8 ((ones.getD 4 0).toNat : Int)) w := by kernel_rfl
  have i5 : (Instr.index 9 (.string ⟨#[92, 46, 40, 41, 61, 123, 125, 124, 43, 45, 42, 47, 60]⟩) (.int .i64 5)).run Tryz.prog w = .ok (.int .u8 ((ones.getD 5 0).toNat : Int)) w := by kernel_rfl
  have i6 : (Instr.index 9 (.string ⟨#[92, 46, 40, 41, 61, 123, 125, 124, 43, 45, 42, 47, 60]⟩) (.int .i64 6)).run Tryz.prog w = .ok (.int .u8 ((ones.getD 6 0).toNat : Int)) w := by kernel_rfl
  have i7 : (Instr.index 9 (.string ⟨#[92, 46, 40, 41, 61, 123, 125, 124, 43, 45, 42, 47, 60]⟩) (.int .i64 7)).run Tryz.prog w = .ok (.int .u8 ((ones.getD 7 0).toNat : Int)) w := by kernel_rfl
  have i8 : (Instr.index 9 (.string ⟨#[92, 46, 40, 41, 61, 123, 125, 124, 43, 45, 42, 47, 60]⟩) (.int .i64 8)).run Tryz.prog w = .ok (.int .u8 ((ones.getD 8 0).toNat : Int)) w := by kernel_rfl
  have i9 : (Instr.index 9 (.string ⟨#[92, 46, 40, 41, 61, 123, 125, 124, 43, 45, 42, 47, 60]⟩) (.int .i64 9)).run Tryz.prog w = .ok (.int .u8 ((ones.getD 9 0).toNat : Int)) w := by kernel_rfl
  have i10 : (Instr.index 9 (.string ⟨#[92, 46, 40, 41, 61, 123, 125, 124, 43, 45, 42, 47, 60]⟩) (.int .i64 10)).run Tryz.prog w = .ok (.int .u8 ((ones.getD 10 0).toNat : Int)) w := by kernel_rfl
  have i11 : (Instr.index 9 (.string ⟨#[92, 46, 40, 41, 61, 123, 125, 124, 43, 45, 42, 47, 60]⟩) (.int .i64 11)).run Tryz.prog w = .ok (.int .u8 ((ones.getD 11 0).toNat : Int)) w := by kernel_rfl
  have i12 : (Instr.index 9 (.string ⟨#[92, 46, 40, 41, 61, 123, 125, 124, 43, 45, 42, 47, 60]⟩) (.int .i64 12)).run Tryz.prog w = .ok (.int .u8 ((ones.getD 12 0).toNat : Int)) w := by kernel_rfl
  match k, h with
  | 0, _ => exact i0
  | 1, _ => exact i1
  | 2, _ => exact i2
  | 3, _ => exact i3
  | 4, _ => exact i4
  | 5, _ => exact i5
  | 6, _ => exact i6
  | 7, _ => exact i7
  | 8, _ => exact i8
  | 9, _ => exact i9
  | 10, _ => exact i10
  | 11, _ => exact i11
  | 12, _ => exact i12
/-- How long the sign at the beginning is; 0: there is none. -/
def sgnV (l : List UInt8) : Nat := match signOf l with | some g => g.length | none => 0
def twoV (c : UInt8) (r : List UInt8) : Bool := (c == 45 && r.head? == some 62) || (c == 61 && r.head? == some 61)
def inV (c : UInt8) : Int := if ones.contains c = true then 1 else 0
theorem sgn_cons (c : UInt8) (r : List UInt8) : sgnV (c :: r) = if twoV c r = true then 2 else if ones.contains c = true then 1 else 0 := by
  unfold sgnV signOf signsS
  simp only [Lib.hasPrefix]
  by_cases h1 : c = 45
  · subst h1
    cases r with
    | nil => rfl
    | cons d q =>
      by_cases h2 : d = 62
      · subst h2; rfl
      · have e : ((62 : UInt8) == d) = false := by simpa using fun h => h2 h.symm
        have e2 : (d == (62 : UInt8)) = false := by simpa using h2
        simp [List.find?, List.isPrefixOf, e, twoV, ones, h2]
  · by_cases h2 : c = 61
    · subst h2
      cases r with
      | nil => rfl
      | cons d q =>
        by_cases h3 : d = 61
        · subst h3; rfl
        · have e : ((61 : UInt8) == d) = false := by simpa using fun h => h3 h.symm
          simp [List.find?, List.isPrefixOf, e, twoV, ones, h3]
    · have e1 : ((45 : UInt8) == c) = false := by simpa using fun h => h1 h.symm
      have e2 : ((61 : UInt8) == c) = false := by simpa using fun h => h2 h.symm
      have et : twoV c r = false := by simp [twoV, h1, h2]
      rw [et]
      by_cases a1 : c = 92
      · subst a1; simp [List.find?, List.isPrefixOf, ones]
      by_cases a2 : c = 46
      · subst a2; simp [List.find?, List.isPrefixOf, ones]
      by_cases a3 : c = 40
      · subst a3; simp [List.find?, List.isPrefixOf, ones]
      by_cases a4 : c = 41
      · subst a4; simp [List.find?, List.isPrefixOf, ones]
      by_cases a5 : c = 123
      · subst a5; simp [List.find?, List.isPrefixOf, ones]
      by_cases a6 : c = 125
      · subst a6; simp [List.find?, List.isPrefixOf, ones]
      by_cases a7 : c = 124
      · subst a7; simp [List.find?, List.isPrefixOf, ones]
      by_cases a8 : c = 43
      · subst a8; simp [List.find?, List.isPrefixOf, ones]
      by_cases a9 : c = 42
      · subst a9; simp [List.find?, List.isPrefixOf, ones]
      by_cases a10 : c = 47
      · subst a10; simp [List.find?, List.isPrefixOf, ones]
      by_cases a11 : c = 60
      · subst a11; simp [List.find?, List.isPrefixOf, ones]
      have n : ∀ x : UInt8, c ≠ x → (x == c) = false := fun x h => by simpa using fun h' => h h'.symm
      simp [List.find?, List.isPrefixOf, ones, e1, e2, n _ a1, n _ a2, n _ a3, n _ a4, n _ a5, n _ a6, n _ a7, n _ a8, n _ a9, n _ a10, n _ a11, a1, a2, a3, a4, a5, a6, a7, a8, a9, a10, a11, h1, h2]

theorem u8_eq (c x : UInt8) : ((x.toNat : Int) == (c.toNat : Int)) = decide (x = c) := by
  rw [Bool.eq_iff_iff]
  simp only [beq_iff_eq, decide_eq_true_eq]
  constructor
  · intro h; apply UInt8.toNat_inj.1; omega
  · rintro rfl; rfl
theorem none_of (c : UInt8) (h : ∀ j, j < 13 → ones.getD j 0 ≠ c) : ones.contains c = false := by
  have h0 := h 0 (by omega)
  have h1 := h 1 (by omega)
  have h2 := h 2 (by omega)
  have h3 := h 3 (by omega)
  have h4 := h 4 (by omega)
  have h5 := h 5 (by omega)
  have h6 := h 6 (by omega)
  have h7 := h 7 (by omega)
  have h8 := h 8 (by omega)
  have h9 := h 9 (by omega)
  have h10 := h 10 (by omega)
  have h11 := h 11 (by omega)
  have h12 := h 12 (by omega)
  simp only [ones, List.getD_cons_zero, List.getD_cons_succ] at h0 h1 h2 h3 h4 h5 h6 h7 h8 h9 h10 h11 h12
  simp [ones, Ne.symm h0, Ne.symm h1, Ne.symm h2, Ne.symm h3, Ne.symm h4, Ne.symm h5, Ne.symm h6, Ne.symm h7, Ne.symm h8, Ne.symm h9, Ne.symm h10, Ne.symm h11, Ne.symm h12]
theorem some_of (c : UInt8) (j : Nat) (hj : j < 13) (h : ones.getD j 0 = c) : ones.contains c = true := by
  rw [← h, List.getD_eq_getElem?_getD, List.getElem?_eq_getElem (show j < ones.length from hj)]
  simp

set_option maxHeartbeats 2000000 in
theorem rsign_loop (s : ByteArray) (k : Nat) (c : UInt8) (w : World) (hk : k < s.size) (hs : s.size ≤ 140737488351232) (hc : s[k]'hk = c)
    (h2 : s.size ≤ k + 1 ∨ (k + 1 < s.size ∧ ∃ d, (s.extract k (k + 2)).toList = [c, d] ∧ ([c, d] == [45, 62]) = false ∧ ([c, d] == [61, 61]) = false)) :
    Calls Tryz.prog 108 #[.string s, .int .i64 k] w fun e w' => e = .returned (.int .i64 (inV c)) ∧ ∃ q, w' = w.drewN q := by
  have i0 : (0 : Int) ≤ (k : Int) := by omega
  have i1 : (k : Int) < (s.size : Int) := by omega
  rcases h2 with h2 | ⟨h2, d, hcut, n1, n2⟩
  all_goals
    first
      | (have h3 : ¬ (k : Int) + 1 < (s.size : Int) := by omega)
      | (have h3 : (k : Int) + 1 < (s.size : Int) := by omega
         have e1 : (k : Int) + 2 ≤ (s.size : Int) := by omega
         have e2 : (0 : Int) ≤ (k : Int) + 2 := by omega
         have e3 : (k : Int) ≤ (k : Int) + 2 := by omega)
    go_enter Tryz.func108, Tryz.ntmps108
    go_wp2_with fail
    go_loopw [5] (fun v wr => ∃ (j q : Nat), j ≤ 13 ∧ v = .int .i64 j ∧ wr = w.drewN q ∧ Hid (∀ x, x < j → ones.getD x 0 ≠ c)) (fun v _ => 13 - (intOf v).toNat)
    case atStart => exact ⟨0, 0, by omega, rfl, rfl, fun x hx => by omega⟩
    case round =>
      obtain ⟨j, q, hj, rfl, rfl, HQ⟩ := hrel
      by_cases hlt : j < 13
      · have hix := fun W => one_at j hlt W
        by_cases hq : ones.getD j 0 = c
        · have HC := Lib.hid (some_of c j hlt hq)
          have heq : (((ones.getD j 0).toNat : Int) == (c.toNat : Int)) = true := by rw [u8_eq]; simpa using hq
          generalize ones.getD j 0 = b at hix heq
          clear hq
          go_wp2_with fail
          go_quiet (fail)
          go_wp2_with fail
          go_ret
          refine ⟨ret_int ?_, q + nq, by first | rfl | rw [World.drewN_drewN]⟩
          unfold inV; rw [HC.out]; rfl
        · have HN := Lib.hid hq
          have heq : (((ones.getD j 0).toNat : Int) == (c.toNat : Int)) = false := by rw [u8_eq]; simpa using hq
          have HNJ : Hid (∀ x, x < j + 1 → ones.getD x 0 ≠ c) := fun x hx => by
            rcases Nat.lt_or_ge x j with h | h
            · exact HQ.out x h
            · obtain rfl : x = j := by omega
              exact HN.out
          clear hq HN
          generalize ones.getD j 0 = b at hix heq
          go_wp2_with fail
          go_quiet (fail)
          go_wp2_with fail
          go_roundw
          case rel => exact ⟨j + 1, q + nq, by omega, by go_num, by first | rfl | rw [World.drewN_drewN], HNJ⟩
          case measure => simp [intOf]; omega
      · go_wp2_with fail
        go_ret
        obtain rfl : j = 13 := by omega
        refine ⟨ret_int ?_, q, rfl⟩
        unfold inV; rw [none_of c HQ.out]; rfl

set_option maxHeartbeats 1000000 in
theorem rsign_two (s : ByteArray) (k : Nat) (c d : UInt8) (w : World) (hk : k + 1 < s.size) (hs : s.size ≤ 140737488351232)
    (hcut : (s.extract k (k + 2)).toList = [c, d]) (h : (c = 45 ∧ d = 62) ∨ (c = 61 ∧ d = 61)) :
    Calls Tryz.prog 108 #[.string s, .int .i64 k] w fun e w' => e = .returned (.int .i64 2) ∧ w = w' := by
  have i0 : (0 : Int) ≤ (k : Int) := by omega
  have i1 : (k : Int) < (s.size : Int) := by omega
  have h3 : (k : Int) + 1 < (s.size : Int) := by omega
  have e1 : (k : Int) + 2 ≤ (s.size : Int) := by omega
  have e2 : (0 : Int) ≤ (k : Int) + 2 := by omega
  have e3 : (k : Int) ≤ (k : Int) + 2 := by omega
  rcases h with ⟨rfl, rfl⟩ | ⟨rfl, rfl⟩
  all_goals
    go_enter Tryz.func108, Tryz.ntmps108
    go_wp2_with fail
    go_ret
    exact ⟨rfl, rfl⟩

theorem rsign_any (s : ByteArray) (k : Nat) (w : World) (hk : k < s.size) (hs : s.size ≤ 140737488351232) :
    Calls Tryz.prog 108 #[.string s, .int .i64 k] w fun e w' => e = .returned (.int .i64 (sgnV (s.data.toList.drop k))) ∧ ∃ q, w' = w.drewN q := by
  have hlen : k < s.data.toList.length := by simpa using hk
  have hb : s.data.toList[k]'hlen = s[k]'hk := by simp [ByteArray.getElem_eq_getElem_data]
  have hD := List.drop_eq_getElem_cons hlen
  rw [hb] at hD
  by_cases h1 : k + 1 < s.size
  · have hlen1 : k + 1 < s.data.toList.length := by simpa using h1
    have hb1 : s.data.toList[k + 1]'hlen1 = s[k + 1]'h1 := by simp [ByteArray.getElem_eq_getElem_data]
    have hD1 := List.drop_eq_getElem_cons hlen1
    rw [hb1] at hD1
    rw [hD1] at hD
    have hcut : (s.extract k (k + 2)).toList = [s[k]'hk, s[k + 1]'h1] := by
      rw [data_list, Lib.extract_data, show k + 2 - k = 2 from by omega, hD]; rfl
    by_cases ht : (s[k]'hk = 45 ∧ s[k + 1]'h1 = 62) ∨ (s[k]'hk = 61 ∧ s[k + 1]'h1 = 61)
    · refine (rsign_two s k _ _ w h1 hs hcut ht).mono ?_
      rintro e w' ⟨rfl, rfl⟩
      refine ⟨ret_int ?_, 0, rfl⟩
      rw [hD, sgn_cons, if_pos (by rcases ht with ⟨a, b⟩ | ⟨a, b⟩ <;> simp [twoV, a, b])]
      rfl
    · have n1 : ([s[k]'hk, s[k + 1]'h1] == [45, 62]) = false := by
        simp only [beq_eq_false_iff_ne, ne_eq, List.cons.injEq, and_true]
        exact fun h => ht (.inl h)
      have n2 : ([s[k]'hk, s[k + 1]'h1] == [61, 61]) = false := by
        simp only [beq_eq_false_iff_ne, ne_eq, List.cons.injEq, and_true]
        exact fun h => ht (.inr h)
      refine (rsign_loop s k _ w hk hs rfl (.inr ⟨h1, _, hcut, n1, n2⟩)).mono ?_
      rintro e w' ⟨rfl, hq⟩
      refine ⟨ret_int ?_, hq⟩
      rw [hD, sgn_cons, if_neg (by
        intro h
        apply ht
        simp only [twoV, Bool.or_eq_true, Bool.and_eq_true, beq_iff_eq, List.head?_cons, Option.some.injEq] at h
        exact h)]
      unfold inV; split <;> rfl
  · refine (rsign_loop s k _ w hk hs rfl (.inl (by omega))).mono ?_
    rintro e w' ⟨rfl, hq⟩
    refine ⟨ret_int ?_, hq⟩
    rw [hD, List.drop_eq_nil_of_le (by rw [← Lib.size_eq]; omega), sgn_cons, if_neg (by simp [twoV])]
    unfold inV; split <;> rfl
end Lx
end Go.Proofs.YteabbkhlgnoliaaGreatDoor
namespace Go.Proofs.YteabbkhlgnoliaaGreatDoor
open Go.RowKit
namespace Lx
set_option maxRecDepth 100000
theorem res_tok2 {fn : Func} {p q : Tmp} (h : fn.results = #[.cell p 68, .tmp q]) {tmps : Array Value} {g : Nat} {a b c d : Value} {w : World} (hp : tmps.getD p undef = .pointer (some ⟨g, 0, none⟩)) (L : Lies w g 68 #[a, b, c, d]) :
    (results fn tmps).run Tryz.prog w = .ok (.tuple #[.agg #[a, b, c, d], tmps.getD q undef]) w := by
  have hl := run_loadVar_row (P := Tryz.prog) w g 68 68 #[a, b, c, d] (0, 0) _ L Tryz.underlying68 rfl (by kernel_rfl)
  have hp' : tmps[p]?.getD undef = .pointer (some ⟨g, 0, none⟩) := by simpa using hp
  simp only [results, h]
  simp [hp', asAddr, hl]
theorem cut_mid (s : ByteArray) (k n : Nat) : s.extract k (k + n) = ⟨((s.data.toList.drop k).take n).toArray⟩ := by
  rw [← toBytes (s.extract k (k + n)), Lib.extract_data, show k + n - k = n from by omega]
def noTokR (x : Int) : Value := .tuple #[.agg #[.int .i64 0, .string ⟨#[]⟩, .int .i64 0, .int .i64 0], .int .i64 x]
def tokR (kd n : Int) (t : List UInt8) (k : Nat) : Value := .tuple #[.agg #[.int .i64 kd, .string ⟨t.toArray⟩, .int .i64 n, .int .i64 k], .int .i64 0]

set_option maxHeartbeats 2000000 in
theorem one_sign (s : ByteArray) (k : Nat) (w : World) (hk : k < s.size) (hs : s.size ≤ 140737488351232) (h0 : run ldR (s.data.toList.drop k) = 0) (g : Nat) (hg : sgnV (s.data.toList.drop k) = g) (hg0 : 0 < g) (hle : k + g ≤ s.size) :
    Calls Tryz.prog 70 #[.string s, .int .i64 k] w fun e w' => e = .returned (tokR 5 0 ((s.data.toList.drop k).take g) k) ∧ Below w.heap.size w w' := by
  have HR := Lib.hid (rrun_any s k (w.alloc (.cells #[.int .i64 0, .string ⟨#[]⟩, .int .i64 0, .int .i64 0] 68)) (by omega) hs)
  rw [h0] at HR
  have HS := Lib.hid (rsign_any s k (w.alloc (.cells #[.int .i64 0, .string ⟨#[]⟩, .int .i64 0, .int .i64 0] 68)) hk hs)
  rw [hg] at HS
  have HC := Lib.hid (cut_mid s k g)
  have hg1 : ((g : Int) == 0) = false := by simp; omega
  have e1 : (k : Int) + (g : Int) ≤ (s.size : Int) := by omega
  have e2 : (0 : Int) ≤ (k : Int) + (g : Int) := by omega
  have e3 : (k : Int) ≤ (k : Int) + (g : Int) := by omega
  have e4 : (0 : Int) ≤ (k : Int) := by omega
  clear h0 hg
  unfold tokR
  go_enter Tryz.func70, Tryz.ntmps70
  go_wp2_with fail
  refine HR.out.mono ?_
  rintro e w' ⟨rfl, rfl⟩
  go_wp2_with fail
  refine HS.out.mono ?_
  rintro e w' ⟨rfl, q, rfl⟩
  have hL := (Lies.new w 68 #[.int .i64 0, .string ⟨#[]⟩, .int .i64 0, .int .i64 0]).drewN q
  obtain ⟨⟨c0, c1, c2, c3⟩, f0, f1, f2, f3⟩ := hL.four
  go_wp2_with fail
  refine bodyPost_ret (res_tok2 (p := 4) (q := 5) Tryz.results70 rfl (hL.all _ _ _ _)) rfl ⟨?_, Below.all (below_drewN ((Below.refl _ w).alloc (Nat.le_refl _) _) q) (Nat.le_refl _) _ _ _ _⟩
  rw [HC.out]; rfl
set_option maxHeartbeats 2000000 in
theorem one_none (s : ByteArray) (k : Nat) (w : World) (hk : k < s.size) (hs : s.size ≤ 140737488351232) (h0 : run ldR (s.data.toList.drop k) = 0) (hg : sgnV (s.data.toList.drop k) = 0) :
    Calls Tryz.prog 70 #[.string s, .int .i64 k] w fun e w' => e = .returned (noTokR 10) ∧ Below w.heap.size w w' := by
  have HR := Lib.hid (rrun_any s k (w.alloc (.cells #[.int .i64 0, .string ⟨#[]⟩, .int .i64 0, .int .i64 0] 68)) (by omega) hs)
  rw [h0] at HR
  have HS := Lib.hid (rsign_any s k (w.alloc (.cells #[.int .i64 0, .string ⟨#[]⟩, .int .i64 0, .int .i64 0] 68)) hk hs)
  rw [hg] at HS
  clear h0 hg
  unfold noTokR
  go_enter Tryz.func70, Tryz.ntmps70
  go_wp2_with fail
  refine HR.out.mono ?_
  rintro e w' ⟨rfl, rfl⟩
  go_wp2_with fail
  refine HS.out.mono ?_
  rintro e w' ⟨rfl, q, rfl⟩
  have hL := (Lies.new w 68 #[.int .i64 0, .string ⟨#[]⟩, .int .i64 0, .int .i64 0]).drewN q
  obtain ⟨⟨c0, c1, c2, c3⟩, f0, f1, f2, f3⟩ := hL.four
  go_wp2_with fail
  exact bodyPost_ret (res_tok2 (p := 4) (q := 5) Tryz.results70 rfl (hL.all _ _ _ _)) rfl ⟨rfl, Below.all (below_drewN ((Below.refl _ w).alloc (Nat.le_refl _) _) q) (Nat.le_refl _) _ _ _ _⟩
/-- What the walks of letters and digits share. -/
structure RunAt (s : ByteArray) (k n : Nat) (c : UInt8) (b : Bool) : Prop where
  hk : k < s.size
  hs : s.size ≤ 140737488351232
  hc : s[k]'hk = c
  hn : run ldR (s.data.toList.drop k) = n
  hb : decide (run digR (s.data.toList.drop k) < n) = b
theorem RunAt.le {s : ByteArray} {k n : Nat} {c : UInt8} {b : Bool} (h : RunAt s k n c b) : k + n ≤ s.size := by
  have := run_le ldR (s.data.toList.drop k)
  have h1 := h.hn
  have h2 := h.hk
  rw [List.length_drop, ← Lib.size_eq] at this
  omega
theorem RunAt.run {s : ByteArray} {k n : Nat} {c : UInt8} {b : Bool} (h : RunAt s k n c b) (w : World) :
    Calls Tryz.prog 107 #[.string s, .int .i64 k] w fun e w' => e = .returned (.tuple #[.int .i64 n, .bool b]) ∧ w = w' := by
  refine (rrun_any s k w (by have := h.hk; omega) h.hs).mono ?_
  rintro e w' ⟨rfl, rfl⟩
  exact ⟨by rw [h.hn, h.hb], rfl⟩
theorem u8_bd (c : UInt8) : (0 : Int) ≤ (c.toNat : Int) ∧ (c.toNat : Int) ≤ 255 := by have := c.toNat_lt; omega

set_option maxHeartbeats 2000000 in
theorem one_err (s : ByteArray) (k n : Nat) (c : UInt8) (b : Bool) (w : World) (h : RunAt s k n c b) (hn0 : 0 < n) (x : Int)
    (hx : (digR (c.toNat : Int) = true ∧ b = true ∧ x = 10) ∨ (digR (c.toNat : Int) = true ∧ b = false ∧ 18 < n ∧ x = 11) ∨ (digR (c.toNat : Int) = true ∧ b = false ∧ ¬ 18 < n ∧ 1 < n ∧ c = 48 ∧ x = 11) ∨
      (digR (c.toNat : Int) = false ∧ 16 < n ∧ (clsV (c.toNat : Int) == 3) = false ∧ x = 11)) :
    Calls Tryz.prog 70 #[.string s, .int .i64 k] w fun e w' => e = .returned (noTokR x) ∧ Below w.heap.size w w' := by
  have HR := Lib.hid h.run
  have hle := h.le
  have HC := fun w => class_any (c.toNat : Int) w (u8_bd c).1 (u8_bd c).2
  have hk := h.hk
  have hb0 : s[k]'hk = c := h.hc
  have hs := h.hs
  have hn1 : ((n : Int) == 0) = false := by simp; omega
  have e1 : (k : Int) + (n : Int) ≤ (s.size : Int) := by omega
  have e2 : (0 : Int) ≤ (k : Int) + (n : Int) := by omega
  have e3 : (k : Int) ≤ (k : Int) + (n : Int) := by omega
  have e4 : (0 : Int) ≤ (k : Int) := by omega
  have e5 : (k : Int) < (s.size : Int) := by omega
  have h3 : ∀ hd : digR (c.toNat : Int) = true, clsV (c.toNat : Int) = 3 := fun hd => by
    have a1 : lowR (c.toNat : Int) = false := by simp [digR] at hd; simp [lowR]; omega
    have a2 : upR (c.toNat : Int) = false := by simp [digR] at hd; simp [upR]; omega
    simp [clsV, a1, a2, hd]
  clear h
  unfold noTokR
  rcases hx with ⟨hd, rfl, rfl⟩ | ⟨hd, rfl, g18, rfl⟩ | ⟨hd, rfl, g18, g1, rfl, rfl⟩ | ⟨hd, g16, hc3, rfl⟩
  case inr.inr.inr =>
    have HCC := Lib.hid HC
    have g16' : (16 : Int) < (n : Int) := by omega
    generalize clsV (c.toNat : Int) = v at HCC hc3
    clear HC h3 hd
    go_enter Tryz.func70, Tryz.ntmps70
    go_wp2_with fail
    refine (HR.out _).mono ?_
    rintro e w' ⟨rfl, rfl⟩
    go_wp2_with fail
    refine (HCC.out _).mono ?_
    rintro e w' ⟨rfl, rfl⟩
    have hL := (Lies.new w 68 #[.int .i64 0, .string ⟨#[]⟩, .int .i64 0, .int .i64 0]).old (.cells #[.int .i64 0, .string (s.extract k (k + n)), .int .i64 0, .int .i64 k] 68)
    go_wp2_with fail
    exact bodyPost_ret (res_tok2 (p := 4) (q := 5) Tryz.results70 rfl hL) rfl ⟨rfl, ((Below.refl _ w).alloc (Nat.le_refl _) _).alloc (by simp) _⟩
  all_goals
    rw [h3 hd] at HC
    have HCC := Lib.hid HC
    clear HC h3 hd
    go_enter Tryz.func70, Tryz.ntmps70
    go_wp2_with fail
    refine (HR.out _).mono ?_
    rintro e w' ⟨rfl, rfl⟩
    go_wp2_with fail
    refine (HCC.out _).mono ?_
    rintro e w' ⟨rfl, rfl⟩
    have hL := (Lies.new w 68 #[.int .i64 0, .string ⟨#[]⟩, .int .i64 0, .int .i64 0]).old (.cells #[.int .i64 0, .string (s.extract k (k + n)), .int .i64 0, .int .i64 k] 68)
    go_wp2_with fail
    exact bodyPost_ret (res_tok2 (p := 4) (q := 5) Tryz.results70 rfl hL) rfl ⟨rfl, ((Below.refl _ w).alloc (Nat.le_refl _) _).alloc (by simp) _⟩
set_option maxHeartbeats 2000000 in
theorem one_num (s : ByteArray) (k n : Nat) (c : UInt8) (w : World) (h : RunAt s k n c false) (hn0 : 0 < n) (hd : digR (c.toNat : Int) = true) (h18 : ¬ 18 < n) (h0 : n ≤ 1 ∨ (1 < n ∧ ((c.toNat : Int) == 48) = false)) (hall : run digR ((s.data.toList.drop k).take n) = n) :
    Calls Tryz.prog 70 #[.string s, .int .i64 k] w fun e w' => e = .returned (tokR 3 (numV ((s.data.toList.drop k).take n)) ((s.data.toList.drop k).take n) k) ∧ Below w.heap.size w w' := by
  have HR := Lib.hid h.run
  have hle := h.le
  have HC := fun w => class_any (c.toNat : Int) w (u8_bd c).1 (u8_bd c).2
  have hk := h.hk
  have hb0 : s[k]'hk = c := h.hc
  have hs := h.hs
  have hn1 : ((n : Int) == 0) = false := by simp; omega
  have e1 : (k : Int) + (n : Int) ≤ (s.size : Int) := by omega
  have e2 : (0 : Int) ≤ (k : Int) + (n : Int) := by omega
  have e3 : (k : Int) ≤ (k : Int) + (n : Int) := by omega
  have e4 : (0 : Int) ≤ (k : Int) := by omega
  have e5 : (k : Int) < (s.size : Int) := by omega
  have e6 : ¬ (18 : Int) < (n : Int) := by omega
  have h3 : clsV (c.toNat : Int) = 3 := by
    have a1 : lowR (c.toNat : Int) = false := by simp [digR] at hd; simp [lowR]; omega
    have a2 : upR (c.toNat : Int) = false := by simp [digR] at hd; simp [upR]; omega
    simp [clsV, a1, a2, hd]
  rw [h3] at HC
  have HCC := Lib.hid HC
  obtain ⟨tx, htx⟩ : ∃ tx, tx = s.extract k (k + n) := ⟨_, rfl⟩
  have hdat : tx.data.toList = (s.data.toList.drop k).take n := by rw [htx, Lib.extract_data, show k + n - k = n from by omega]
  have htl : ((s.data.toList.drop k).take n).length = n := by rw [List.length_take, List.length_drop, ← Lib.size_eq]; omega
  have HNm := Lib.hid (fun w => rnumber_any tx w (by rw [hdat, hall, htl]) (by rw [Lib.size_eq, hdat, htl]; omega))
  have HTX : Hid ((⟨((s.data.toList.drop k).take n).toArray⟩ : ByteArray) = tx) := by
    show _ = _
    rw [htx, cut_mid]
  have HDT := Lib.hid hdat
  have HX := Lib.hid htx
  clear h HC h3 hd hdat htx hall htl
  unfold tokR
  rcases h0 with h0 | ⟨h0, h1⟩
  all_goals
    go_enter Tryz.func70, Tryz.ntmps70
    go_wp2_with fail
    refine (HR.out _).mono ?_
    rintro e w' ⟨rfl, rfl⟩
    go_wp2_with fail
    rw [← HX.out]
    refine (HCC.out _).mono ?_
    rintro e w' ⟨rfl, rfl⟩
    go_wp2_with fail
    refine (HNm.out _).mono ?_
    rintro e w' ⟨rfl, rfl⟩
    rw [HDT.out]
    have hL := (Lies.new w 68 #[.int .i64 3, .string tx, .int .i64 (numV ((s.data.toList.drop k).take n)), .int .i64 k]).old (.cells #[.int .i64 3, .string tx, .int .i64 (numV ((s.data.toList.drop k).take n)), .int .i64 k] 68)
    go_wp2_with fail
    exact bodyPost_ret (res_tok2 (p := 4) (q := 5) Tryz.results70 rfl hL) rfl ⟨by rw [HTX.out]; rfl, ((Below.refl _ w).alloc (Nat.le_refl _) _).alloc (by simp) _⟩
set_option maxHeartbeats 2000000 in
theorem one_word (s : ByteArray) (k n : Nat) (c : UInt8) (b : Bool) (w : World) (h : RunAt s k n c b) (hn0 : 0 < n) (v : Int) (hv : clsV (c.toNat : Int) = v) (h3 : (v == 3) = false) (h16 : ¬ 16 < n) (wd : Bool) (hw : wordS ((s.data.toList.drop k).take n) = wd) :
    Calls Tryz.prog 70 #[.string s, .int .i64 k] w fun e w' => e = .returned (tokR (cond wd 4 v) 0 ((s.data.toList.drop k).take n) k) ∧ Below w.heap.size w w' := by
  have HR := Lib.hid h.run
  have hle := h.le
  have HC := fun w => class_any (c.toNat : Int) w (u8_bd c).1 (u8_bd c).2
  have hk := h.hk
  have hb0 : s[k]'hk = c := h.hc
  have hs := h.hs
  have hn1 : ((n : Int) == 0) = false := by simp; omega
  have e1 : (k : Int) + (n : Int) ≤ (s.size : Int) := by omega
  have e2 : (0 : Int) ≤ (k : Int) + (n : Int) := by omega
  have e3 : (k : Int) ≤ (k : Int) + (n : Int) := by omega
  have e4 : (0 : Int) ≤ (k : Int) := by omega
  have e5 : (k : Int) < (s.size : Int) := by omega
  have e6 : ¬ (16 : Int) < (n : Int) := by omega
  rw [hv] at HC
  have HCC := Lib.hid HC
  obtain ⟨tx, htx⟩ : ∃ tx, tx = s.extract k (k + n) := ⟨_, rfl⟩
  have hdat : tx.data.toList = (s.data.toList.drop k).take n := by rw [htx, Lib.extract_data, show k + n - k = n from by omega]
  have HW := fun w => rword_any tx w
  rw [hdat, hw] at HW
  have HWW := Lib.hid HW
  have HTX : Hid ((⟨((s.data.toList.drop k).take n).toArray⟩ : ByteArray) = tx) := by
    show _ = _
    rw [htx, cut_mid]
  have HX := Lib.hid htx
  clear h HC hv hdat htx HW hw
  unfold tokR
  cases wd
  all_goals
    go_enter Tryz.func70, Tryz.ntmps70
    go_wp2_with fail
    refine (HR.out _).mono ?_
    rintro e w' ⟨rfl, rfl⟩
    go_wp2_with fail
    rw [← HX.out]
    refine (HCC.out _).mono ?_
    rintro e w' ⟨rfl, rfl⟩
    go_wp2_with fail
    refine (HWW.out _).mono ?_
    rintro e w' ⟨rfl, rfl⟩
  · have hL := (Lies.new w 68 #[.int .i64 v, .string tx, .int .i64 0, .int .i64 k]).old (.cells #[.int .i64 v, .string tx, .int .i64 0, .int .i64 k] 68)
    go_wp2_with fail
    exact bodyPost_ret (res_tok2 (p := 4) (q := 5) Tryz.results70 rfl hL) rfl ⟨by rw [HTX.out]; rfl, ((Below.refl _ w).alloc (Nat.le_refl _) _).alloc (by simp) _⟩
  · have hL := (Lies.new w 68 #[.int .i64 4, .string tx, .int .i64 0, .int .i64 k]).old (.cells #[.int .i64 4, .string tx, .int .i64 0, .int .i64 k] 68)
    go_wp2_with fail
    exact bodyPost_ret (res_tok2 (p := 4) (q := 5) Tryz.results70 rfl hL) rfl ⟨by rw [HTX.out]; rfl, ((Below.refl _ w).alloc (Nat.le_refl _) _).alloc (by simp) _⟩
end Lx
end Go.Proofs.YteabbkhlgnoliaaGreatDoor
namespace Go.Proofs.YteabbkhlgnoliaaGreatDoor
namespace Lx
set_option maxRecDepth 100000
/-- The program's reckoning, and the reference's. -/
def isTokV (l : List UInt8) (k : Int) : Bool := match allK l with | .ok [t] => decide (t.kind = k) && (t.text == l) | _ => false
def refTokV (l : List UInt8) (k : Int) : Bool := match tokK l with | .ok (kd, _, t) => decide (kd = k) && (t == l) | .error _ => false
def kindV (k : Int) (l : List UInt8) : Bool := if k = 1 then nameV l else conV l

theorem tok_cons {c : UInt8} {r : List UInt8} {kd n : Int} (h : tokK (c :: r) = .ok (kd, n, c :: r)) : allK (c :: r) = .ok [⟨kd, c :: r, n, 0⟩] := by
  have hb := blk_head h
  have h0 : run blkR (c :: r) = 0 := by simp [run, hb]
  unfold allK
  rw [h0, List.drop_zero]
  simp only [List.length_cons]
  rw [scan]
  simp only [h]
  have hd : List.drop (c :: r).length (c :: r) = [] := List.drop_length
  rw [hd]
  simp [run, scan_end]
theorem all_single {l : List UInt8} {t : Tok} (hl : l ≠ []) (h : allK l = .ok [t]) (ht : t.text = l) : ∃ n, tokK l = .ok (t.kind, n, l) := by
  unfold allK at h
  rw [scan] at h
  split at h
  · cases h
  · split at h
    · cases h
    · rename_i kd n x hx
      have h1 := tok_text hx
      split at h
      · cases h
      · rename_i rest hr
        have h2 := Except.ok.inj h
        have h3 := (List.cons.inj h2).1
        rw [← h3] at ht ⊢
        have ht' : x = l := ht
        rw [ht'] at h1 hx
        have hlen := h1.2.1
        simp only [List.length_drop] at hlen
        have hpos := List.length_pos_iff.2 hl
        have h0 : run blkR l = 0 := by omega
        rw [h0, List.drop_zero] at hx
        exact ⟨n, hx⟩
theorem allK_nil : allK [] = .ok [] := rfl
theorem isTok_ref (l : List UInt8) (k : Int) (hl : l ≠ []) : isTokV l k = refTokV l k := by
  unfold isTokV refTokV
  cases ht : tokK l with
  | error x =>
    simp only
    split
    · rename_i t ha
      by_cases he : t.text = l
      · obtain ⟨n, h⟩ := all_single hl ha he
        rw [ht] at h; cases h
      · simp [he]
    · rfl
  | ok r =>
    obtain ⟨kd, n, x⟩ := r
    simp only
    by_cases hx : x = l
    · subst hx
      obtain ⟨c, q, rfl⟩ := List.exists_cons_of_ne_nil hl
      rw [tok_cons ht]
    · have e : (x == l) = false := by simpa using hx
      rw [e, Bool.and_false]
      split
      · rename_i t ha
        by_cases he : t.text = l
        · obtain ⟨n', h⟩ := all_single hl ha he
          rw [ht] at h
          simp only [Except.ok.injEq, Prod.mk.injEq] at h
          exact absurd h.2.2 hx
        · simp [he]
      · rfl
theorem isTok_nil (k : Int) : isTokV [] k = false := rfl

theorem run_pos_iff (P : Int → Bool) (c : UInt8) (r : List UInt8) : (0 < run P (c :: r)) ↔ P (c.toNat : Int) = true := by
  cases h : P (c.toNat : Int) <;> simp [run, h]
theorem numK_kind {l : List UInt8} {kd n : Int} (h : numK l = .ok (kd, n)) : kd = 3 := by
  unfold numK at h
  split at h
  · cases h
  · split at h
    · cases h
    · cases h; rfl
theorem refTok_kind (l : List UInt8) (k : Int) (hk : k = 1 ∨ k = 2) (hl : l ≠ []) : refTokV l k = kindV k l := by
  obtain ⟨c, q, rfl⟩ := List.exists_cons_of_ne_nil hl
  have hle := run_le ldR (c :: q)
  unfold refTokV
  by_cases hw : run ldR (c :: q) = (c :: q).length
  · have hp : 0 < run ldR (c :: q) := by rw [hw]; simp
    have ht : (c :: q).take (run ldR (c :: q)) = c :: q := by rw [hw]; exact List.take_length
    have hL : ldR (c.toNat : Int) = true := (run_pos_iff _ _ _).1 hp
    unfold tokK
    rw [if_pos hp, ht]
    unfold kindV nameV conV
    rw [hw]
    unfold runK
    simp only [run_pos_iff]
    by_cases hd : digR (c.toNat : Int) = true
    · have e1 : lowR (c.toNat : Int) = false := by simp [digR] at hd; simp [lowR]; omega
      have e2 : upR (c.toNat : Int) = false := by simp [digR] at hd; simp [upR]; omega
      rw [if_pos hd]
      cases hn : numK (c :: q) with
      | error x => simp [e1, e2]
      | ok r =>
        obtain ⟨kd, n⟩ := r
        have := numK_kind hn
        subst this
        rcases hk with rfl | rfl <;> simp [e1, e2]
    · rw [if_neg hd]
      by_cases h16 : 16 < (c :: q).length
      · rw [if_pos h16]
        have e : decide ((c :: q).length ≤ 16) = false := by simp only [decide_eq_false_iff_not]; omega
        rcases hk with rfl | rfl <;> simp only [e] <;> simp
      · rw [if_neg h16]
        have e : decide ((c :: q).length ≤ 16) = true := by simp only [decide_eq_true_eq]; omega
        by_cases hwd : wordS (c :: q) = true
        · rw [if_pos hwd]
          have hlow : lowR (c.toNat : Int) = true := by
            simp [wordS] at hwd
            rcases hwd with ⟨rfl, _⟩ | ⟨rfl, _⟩ | ⟨rfl, _⟩ | ⟨rfl, _⟩ | ⟨rfl, _⟩ <;> rfl
          have hup : upR (c.toNat : Int) = false := by simp [lowR] at hlow; simp [upR]; omega
          rcases hk with rfl | rfl <;> simp [hwd, hup]
        · rw [if_neg hwd]
          have hwd' : wordS (c :: q) = false := by simpa using hwd
          cases hlow : lowR (c.toNat : Int)
          · have hup : upR (c.toNat : Int) = true := by
              simp [ldR, hlow, hd] at hL
              exact hL
            rcases hk with rfl | rfl <;> simp only [e, hup, hwd'] <;> simp
          · have hup : upR (c.toNat : Int) = false := by simp [lowR] at hlow; simp [upR]; omega
            rcases hk with rfl | rfl <;> simp only [e, hup, hwd'] <;> simp
  · have hf : kindV k (c :: q) = false := by
      unfold kindV nameV conV
      have e : decide (run ldR (c :: q) = (c :: q).length) = false := by simpa using hw
      rcases hk with rfl | rfl <;> simp only [e] <;> simp
    rw [hf]
    cases ht : tokK (c :: q) with
    | error x => rfl
    | ok r =>
      obtain ⟨kd, n, x⟩ := r
      simp only
      unfold tokK at ht
      split at ht
      · split at ht
        · simp only [Except.ok.injEq, Prod.mk.injEq] at ht
          obtain ⟨rfl, rfl, rfl⟩ := ht
          have e : ((c :: q).take (run ldR (c :: q)) == c :: q) = false := by
            rw [beq_eq_false_iff_ne]
            intro e
            have := congrArg List.length e
            rw [List.length_take] at this
            omega
          rw [e, Bool.and_false]
        · cases ht
      · split at ht
        · simp only [Except.ok.injEq, Prod.mk.injEq] at ht
          obtain ⟨rfl, rfl, rfl⟩ := ht
          rcases hk with rfl | rfl <;> rfl
        · cases ht
theorem isTok_kind (l : List UInt8) (k : Int) (hk : k = 1 ∨ k = 2) : isTokV l k = kindV k l := by
  by_cases hl : l = []
  · subst hl; rcases hk with rfl | rfl <;> rfl
  · rw [isTok_ref l k hl, refTok_kind l k hk hl]
theorem kindV_long (l : List UInt8) (k : Int) (h : 16 < l.length) : kindV k l = false := by
  unfold kindV nameV conV
  have e : decide (l.length ≤ 16) = false := by simp only [decide_eq_false_iff_not]; omega
  split <;> simp [e]
end Lx
end Go.Proofs.YteabbkhlgnoliaaGreatDoor
namespace Go.Proofs.YteabbkhlgnoliaaGreatDoor
open Go.RowKit
namespace Lx
set_option maxRecDepth 100000
theorem run_take_min (P : Int → Bool) : ∀ (l : List UInt8) (n : Nat), run P (l.take n) = min (run P l) n
  | [], n => by simp [run]
  | c :: l, 0 => by simp [run]
  | c :: l, n + 1 => by
    have := run_take_min P l n
    by_cases h : P (c.toNat : Int)
    · simp only [List.take_succ_cons, run, h, if_true, this]; omega
    · simp [run, h]
theorem b48' (c : UInt8) : ((c.toNat : Int) == 48) = decide (c = 48) := b48 c
theorem one_both (s : ByteArray) (k : Nat) (w : World) (hk : k < s.size) (hs : s.size ≤ 140737488351232) :
    Calls Tryz.prog 70 #[.string s, .int .i64 k] w fun e w' =>
      (∀ kd n t, tokK (s.data.toList.drop k) = .ok (kd, n, t) → e = .returned (tokR kd n t k)) ∧ (∀ x, tokK (s.data.toList.drop k) = .error x → e = .returned (noTokR x)) ∧ Below w.heap.size w w' := by
  have hlen : k < s.data.toList.length := by simpa using hk
  have hb : s.data.toList[k]'hlen = s[k]'hk := by simp [ByteArray.getElem_eq_getElem_data]
  have hD := List.drop_eq_getElem_cons hlen
  rw [hb] at hD
  obtain ⟨c, hc⟩ : ∃ c, s[k]'hk = c := ⟨_, rfl⟩
  rw [hc] at hD
  obtain ⟨D, hDD⟩ : ∃ D, D = s.data.toList.drop k := ⟨_, rfl⟩
  obtain ⟨r, hr⟩ : ∃ r, r = s.data.toList.drop (k + 1) := ⟨_, rfl⟩
  rw [← hDD, ← hr] at hD
  obtain ⟨N, hN⟩ : ∃ N, run ldR D = N := ⟨_, rfl⟩
  have hNle := run_le ldR D
  have hDl : D.length = s.size - k := by rw [hDD, List.length_drop, ← Lib.size_eq]
  rcases Nat.eq_zero_or_pos N with h0 | h0
  · have ht : tokK D = match signOf D with | some g => .ok (5, 0, g) | none => .error 10 := by
      unfold tokK; rw [if_neg (by omega)]
      cases signOf D <;> rfl
    rw [← hDD]
    cases hg : signOf D with
    | none =>
      rw [hg] at ht
      refine (one_none s k w hk hs (by rw [← hDD, hN, h0]) (by rw [← hDD]; unfold sgnV; rw [hg])).mono ?_
      rintro e w' ⟨rfl, hb⟩
      refine ⟨fun kd n t h => ?_, fun x h => ?_, hb⟩
      · rw [ht] at h; cases h
      · rw [ht] at h; cases h; rfl
    | some g =>
      rw [hg] at ht
      have htt := tok_text ht
      refine (one_sign s k w hk hs (by rw [← hDD, hN, h0]) g.length (by rw [← hDD]; unfold sgnV; rw [hg]) htt.1 (by omega)).mono ?_
      rintro e w' ⟨rfl, hb⟩
      refine ⟨fun kd n t h => ?_, fun x h => ?_, hb⟩
      · rw [ht] at h
        simp only [Except.ok.injEq, Prod.mk.injEq] at h
        obtain ⟨rfl, rfl, rfl⟩ := h
        rw [← hDD, htt.2.2]
      · rw [ht] at h; cases h
  · obtain ⟨L, hL⟩ : ∃ L, L = D.take N := ⟨_, rfl⟩
    have hLl : L.length = N := by rw [hL, List.length_take]; omega
    have hLc : ∃ q, L = c :: q := by
      rw [hL, hD]
      obtain ⟨m, rfl⟩ : ∃ m, N = m + 1 := ⟨N - 1, by omega⟩
      exact ⟨_, List.take_succ_cons⟩
    have hdl : run digR L = min (run digR D) N := by rw [hL, run_take_min]
    have ht : tokK D = match runK L with | .ok (k, n) => .ok (k, n, L) | .error e => .error e := by
      unfold tokK; rw [if_pos (by omega), hN, ← hL]
      rcases runK L with e | ⟨a, b⟩ <;> rfl
    have hld : ldR (c.toNat : Int) = true := (run_pos_iff ldR c r).1 (by rw [← hD, hN]; exact h0)
    have hR : ∀ b, decide (run digR D < N) = b → RunAt s k N c b := fun b hb => ⟨hk, hs, hc, by rw [← hDD, hN], by rw [← hDD]; exact hb⟩
    have hLD : (s.data.toList.drop k).take N = L := by rw [← hDD, hL]
    rw [← hDD]
    obtain ⟨q, hq⟩ := hLc
    by_cases hd : digR (c.toNat : Int) = true
    · have h1 : 0 < run digR L := by rw [hq]; exact (run_pos_iff digR c q).2 hd
      have hrk : runK L = numK L := by unfold runK; rw [if_pos h1]
      by_cases hlt : run digR D < N
      · have hn : numK L = .error 10 := by unfold numK; rw [if_pos (by omega)]
        rw [hrk, hn] at ht
        refine (one_err s k N c true w (hR _ (by simpa using hlt)) h0 10 (.inl ⟨hd, rfl, rfl⟩)).mono ?_
        rintro e w' ⟨rfl, hb⟩
        refine ⟨fun kd n t h => ?_, fun x h => ?_, hb⟩
        · rw [ht] at h; cases h
        · rw [ht] at h; cases h; rfl
      · have hRf := hR false (by simpa using hlt)
        have hnd : ¬ run digR L < L.length := by omega
        by_cases h18 : 18 < N
        · have hn : numK L = .error 11 := by unfold numK; rw [if_neg hnd, if_pos (.inl (by omega))]
          rw [hrk, hn] at ht
          refine (one_err s k N c false w hRf h0 11 (.inr (.inl ⟨hd, rfl, h18, rfl⟩))).mono ?_
          rintro e w' ⟨rfl, hb⟩
          refine ⟨fun kd n t h => ?_, fun x h => ?_, hb⟩
          · rw [ht] at h; cases h
          · rw [ht] at h; cases h; rfl
        · by_cases hz : 1 < N ∧ c = 48
          · have hn : numK L = .error 11 := by unfold numK; rw [if_neg hnd, if_pos (.inr ⟨by omega, by rw [hq, hz.2]; rfl⟩)]
            rw [hrk, hn] at ht
            refine (one_err s k N c false w hRf h0 11 (.inr (.inr (.inl ⟨hd, rfl, h18, hz.1, hz.2, rfl⟩)))).mono ?_
            rintro e w' ⟨rfl, hb⟩
            refine ⟨fun kd n t h => ?_, fun x h => ?_, hb⟩
            · rw [ht] at h; cases h
            · rw [ht] at h; cases h; rfl
          · have hn : numK L = .ok (3, numV L) := by
              unfold numK
              rw [if_neg hnd, if_neg]
              rintro (h | ⟨h, h'⟩)
              · omega
              · rw [hq] at h'
                exact hz ⟨by omega, by simpa using h'⟩
            rw [hrk, hn] at ht
            refine (one_num s k N c w hRf h0 hd h18 ?_ (by rw [hLD, hdl]; omega)).mono ?_
            · by_cases h1' : 1 < N
              · refine .inr ⟨h1', ?_⟩
                rw [b48', decide_eq_false]
                exact fun h => hz ⟨h1', h⟩
              · exact .inl (by omega)
            rintro e w' ⟨rfl, hb⟩
            refine ⟨fun kd n t h => ?_, fun x h => ?_, hb⟩
            · rw [ht] at h
              simp only [Except.ok.injEq, Prod.mk.injEq] at h
              obtain ⟨rfl, rfl, rfl⟩ := h
              rw [hLD]
            · rw [ht] at h; cases h
    · have hd' : digR (c.toNat : Int) = false := by simpa using hd
      have h1 : ¬ 0 < run digR L := by rw [hq, run_pos_iff]; exact hd
      obtain ⟨b, hb'⟩ : ∃ b, decide (run digR D < N) = b := ⟨_, rfl⟩
      have hlu : lowR (c.toNat : Int) = true ∨ (lowR (c.toNat : Int) = false ∧ upR (c.toNat : Int) = true) := by
        simp only [ldR, hd', Bool.or_false] at hld
        cases h : lowR (c.toNat : Int)
        · rw [h] at hld; exact .inr ⟨rfl, by simpa using hld⟩
        · exact .inl rfl
      have hcv : clsV (c.toNat : Int) = if 0 < run lowR L then 1 else 2 := by
        rw [hq]
        simp only [run_pos_iff]
        rcases hlu with h | ⟨h, h'⟩
        · simp [clsV, h]
        · simp [clsV, h, h']
      have hc3 : (clsV (c.toNat : Int) == 3) = false := by rw [hcv]; split <;> rfl
      by_cases h16 : 16 < N
      · have hrk : runK L = .error 11 := by unfold runK; rw [if_neg h1, if_pos (by omega)]
        rw [hrk] at ht
        refine (one_err s k N c b w (hR b hb') h0 11 (.inr (.inr (.inr ⟨hd', h16, hc3, rfl⟩)))).mono ?_
        rintro e w' ⟨rfl, hb⟩
        refine ⟨fun kd n t h => ?_, fun x h => ?_, hb⟩
        · rw [ht] at h; cases h
        · rw [ht] at h; cases h; rfl
      · refine (one_word s k N c b w (hR b hb') h0 _ rfl hc3 h16 (wordS L) (by rw [hLD])).mono ?_
        rintro e w' ⟨rfl, hb⟩
        have hrk : runK L = .ok (cond (wordS L) 4 (clsV (c.toNat : Int)), 0) := by
          unfold runK
          rw [if_neg h1, if_neg (by omega), hcv]
          cases wordS L
          · by_cases hp : 0 < run lowR L <;> simp [hp]
          · simp
        rw [hrk] at ht
        refine ⟨fun kd n t h => ?_, fun x h => ?_, hb⟩
        · rw [ht] at h
          simp only [Except.ok.injEq, Prod.mk.injEq] at h
          obtain ⟨rfl, rfl, rfl⟩ := h
          rw [hLD]
        · rw [ht] at h; cases h
set_option maxHeartbeats 2000000 in
theorem rtoken_any (s : ByteArray) (k : Int) (w : World) (hk : k = 1 ∨ k = 2) (hs : s.size ≤ 140737488351232) :
    Calls Tryz.prog 134 #[.string s, .int .i64 k] w fun e w' => e = .returned (.bool (kindV k s.data.toList)) ∧ Below w.heap.size w w' := by
  by_cases h0 : s.size = 0
  · have hl : s.data.toList = [] := List.eq_nil_of_length_eq_zero (by rw [← Lib.size_eq]; exact h0)
    have e3 : s.toList = [] := by rw [data_list]; exact hl
    have HF : Hid (kindV k s.data.toList = false) := by
      show _ = _
      rw [hl]; rcases hk with rfl | rfl <;> rfl
    clear hl h0
    go_enter Tryz.func134, Tryz.ntmps134
    go_wp2_with fail
    go_ret
    exact ⟨ret_bool HF.out.symm, Below.refl _ _⟩
  · have hl : s.data.toList ≠ [] := by
      intro e
      have := congrArg List.length e
      rw [← Lib.size_eq] at this
      exact h0 this
    have e3 : s.toList.isEmpty = false := by rw [data_list]; cases h : s.data.toList with | nil => exact absurd h hl | cons _ _ => rfl
    have HK := Lib.hid (refTok_kind s.data.toList k hk hl)
    have HO := Lib.hid (one_both s 0 w (by omega) hs)
    rw [List.drop_zero] at HO
    cases ht : tokK s.data.toList with
    | error x =>
      have hx := tokK_err ht
      have hx0 : (x == 0) = false := by rcases hx with rfl | rfl <;> rfl
      have hf : refTokV s.data.toList k = false := by unfold refTokV; rw [ht]
      have HF := Lib.hid hf
      have HT := Lib.hid ht
      clear ht hf hl h0
      go_enter Tryz.func134, Tryz.ntmps134
      go_wp2_with fail
      refine HO.out.mono ?_
      rintro e w2 ⟨_, he, hb2⟩
      have he2 := he x HT.out
      subst he2
      clear he
      unfold noTokR
      go_wp2_with fail
      go_ret
      exact ⟨ret_bool (by rw [← HK.out, HF.out]), hb2.alloc hb2.size _⟩
    | ok r =>
      obtain ⟨kd, n, t⟩ := r
      have hf : refTokV s.data.toList k = (decide (kd = k) && (t == s.data.toList)) := by unfold refTokV; rw [ht]
      have HF := Lib.hid hf
      have HT := Lib.hid ht
      clear ht hf hl h0
      by_cases hkd : kd = k
      · subst hkd
        go_enter Tryz.func134, Tryz.ntmps134
        go_wp2_with fail
        refine HO.out.mono ?_
        rintro e w2 ⟨he, _, hb2⟩
        have he2 := he kd n t HT.out
        subst he2
        clear he
        unfold tokR
        go_wp2_with fail
        go_ret
        exact ⟨ret_bool (by rw [← HK.out, HF.out, data_list]; simp), hb2.alloc hb2.size _⟩
      · have e1 : (kd == k) = false := by simpa using hkd
        go_enter Tryz.func134, Tryz.ntmps134
        go_wp2_with fail
        refine HO.out.mono ?_
        rintro e w2 ⟨he, _, hb2⟩
        have he2 := he kd n t HT.out
        subst he2
        clear he
        unfold tokR
        go_wp2_with fail
        go_ret
        exact ⟨ret_bool (by rw [← HK.out, HF.out]; simp [hkd]), hb2.alloc hb2.size _⟩
end Lx
end Go.Proofs.YteabbkhlgnoliaaGreatDoor
namespace Go.Proofs.YteabbkhlgnoliaaGreatDoor
open Go.RowKit
namespace Lx
set_option maxRecDepth 100000
theorem str_empty' (s : ByteArray) : s.toList.isEmpty = (s.data.toList == []) := by rw [data_list]; cases s.data.toList <;> rfl
set_option maxHeartbeats 2000000 in
theorem rname_any (k n a : Int) (s : ByteArray) (A : Option Addr) (m c : Nat) (w : World) (hs : s.size ≤ 140737488351232) :
    Calls Tryz.prog 90 #[.agg #[.int .i64 k, .string s, .int .i64 n, .int .i64 a, .slice A m c]] w fun e w' => e = .returned (.bool (nameOkV k s.data.toList)) ∧ Below w.heap.size w w' := by
  have hb : Below w.heap.size w (w.alloc (.cells #[.int .i64 k, .string s, .int .i64 n, .int .i64 a, .slice A m c] 24)) := (Below.refl _ w).alloc (Nat.le_refl _) _
  have HT1 := Lib.hid (rtoken_any s 1 (w.alloc (.cells #[.int .i64 k, .string s, .int .i64 n, .int .i64 a, .slice A m c] 24)) (.inl rfl) hs)
  have HT2 := Lib.hid (rtoken_any s 2 (w.alloc (.cells #[.int .i64 k, .string s, .int .i64 n, .int .i64 a, .slice A m c] 24)) (.inr rfl) hs)
  have HE := Lib.hid (str_empty' s)
  rcases (by omega : k = 1 ∨ k = 2 ∨ k = 4 ∨ k = 5 ∨ k = 6 ∨ k = 8 ∨ k = 10 ∨ (k ≠ 1 ∧ k ≠ 2 ∧ k ≠ 4 ∧ k ≠ 5 ∧ k ≠ 6 ∧ k ≠ 8 ∧ k ≠ 10)) with rfl | rfl | rfl | rfl | rfl | rfl | rfl | ⟨n1, n2, n4, n5, n6, n8, n10⟩
  case inl | inr.inl | inr.inr.inl | inr.inr.inr.inl =>
    go_enter Tryz.func90, Tryz.ntmps90
    go_wp2_with fail
    refine HT1.out.mono ?_
    rintro e w2 ⟨rfl, hb2⟩
    go_wp2_with fail
    go_ret
    exact ⟨ret_bool (by simp [nameOkV, kindV]), below_al (Below.refl _ w) hb2⟩
  case inr.inr.inr.inr.inl | inr.inr.inr.inr.inr.inl =>
    go_enter Tryz.func90, Tryz.ntmps90
    go_wp2_with fail
    refine HT2.out.mono ?_
    rintro e w2 ⟨rfl, hb2⟩
    go_wp2_with fail
    go_ret
    exact ⟨ret_bool (by simp [nameOkV, kindV]), below_al (Below.refl _ w) hb2⟩
  · clear HT1 HT2
    go_enter Tryz.func90, Tryz.ntmps90
    go_wp2_with fail
    all_goals
      go_ret
      refine ⟨ret_bool ?_, hb⟩
      simp only [nameOkV]
      rw [← data_list]
      simp_all [opV, Bool.or_assoc]
  · clear HT1 HT2
    have e1 : (k == 1) = false := by simpa using n1
    have e2 : (k == 2) = false := by simpa using n2
    have e4 : (k == 4) = false := by simpa using n4
    have e5 : (k == 5) = false := by simpa using n5
    have e6 : (k == 6) = false := by simpa using n6
    have e8 : (k == 8) = false := by simpa using n8
    have e10 : (k == 10) = false := by simpa using n10
    have HF : Hid (nameOkV k s.data.toList = s.toList.isEmpty) := by
      show _ = _
      rw [HE.out]
      simp [nameOkV, n1, n2, n4, n5, n6, n8, n10]
    clear n1 n2 n4 n5 n6 n8 n10
    go_enter Tryz.func90, Tryz.ntmps90
    go_wp2_with fail
    go_ret
    exact ⟨ret_bool HF.out.symm, hb⟩
set_option maxHeartbeats 4000000 in
theorem rparts_any (k n a : Int) (s : ByteArray) (A : Option Addr) (m c : Nat) (w : World) (hm : m ≤ 140737488351232) :
    Calls Tryz.prog 91 #[.agg #[.int .i64 k, .string s, .int .i64 n, .int .i64 a, .slice A m c]] w fun e w' => e = .returned (.bool (partsV k n m)) ∧ Below w.heap.size w w' := by
  have hb : Below w.heap.size w (w.alloc (.cells #[.int .i64 k, .string s, .int .i64 n, .int .i64 a, .slice A m c] 24)) := (Below.refl _ w).alloc (Nat.le_refl _) _
  rcases (by omega : k = 1 ∨ k = 2 ∨ k = 3 ∨ k = 4 ∨ k = 5 ∨ k = 10 ∨ k = 6 ∨ k = 7 ∨ k = 9 ∨ k = 8 ∨ (k < 1 ∨ 10 < k)) with rfl | rfl | rfl | rfl | rfl | rfl | rfl | rfl | rfl | rfl | hk
  case inr.inr.inr.inr.inr.inr.inr.inr.inr.inr =>
    have e : ∀ j : Int, 1 ≤ j → j ≤ 10 → (k == j) = false := fun j h1 h2 => by simp; omega
    have e1 := e 1 (by omega) (by omega)
    have e2 := e 2 (by omega) (by omega)
    have e3 := e 3 (by omega) (by omega)
    have e4 := e 4 (by omega) (by omega)
    have e5 := e 5 (by omega) (by omega)
    have e6 := e 6 (by omega) (by omega)
    have e7 := e 7 (by omega) (by omega)
    have e8 := e 8 (by omega) (by omega)
    have e9 := e 9 (by omega) (by omega)
    have e10 := e 10 (by omega) (by omega)
    have HF : Hid (partsV k n m = false) := by
      have e : ∀ j : Int, 1 ≤ j → j ≤ 10 → k ≠ j := by omega
      show _ = _
      simp [partsV, e 1, e 2, e 3, e 4, e 5, e 6, e 7, e 8, e 9, e 10]
    clear e hk
    go_enter Tryz.func91, Tryz.ntmps91
    go_wp2_with fail
    go_ret
    exact ⟨ret_bool HF.out.symm, hb⟩
  case inr.inr.inr.inr.inr.inr.inr.inr.inr.inl =>
    by_cases h1 : 0 ≤ n
    · by_cases h2 : n ≤ 8
      · go_enter Tryz.func91, Tryz.ntmps91
        go_wp2_with fail
        go_ret
        refine ⟨ret_bool ?_, hb⟩
        rw [Bool.eq_iff_iff]; simp [partsV]; omega
      · go_enter Tryz.func91, Tryz.ntmps91
        go_wp2_with fail
        go_ret
        refine ⟨ret_bool ?_, hb⟩
        rw [Bool.eq_iff_iff]; simp [partsV]; omega
    · go_enter Tryz.func91, Tryz.ntmps91
      go_wp2_with fail
      go_ret
      refine ⟨ret_bool ?_, hb⟩
      rw [Bool.eq_iff_iff]; simp [partsV]; omega
  all_goals
    go_enter Tryz.func91, Tryz.ntmps91
    go_wp2_with fail
  all_goals
    go_ret
    refine ⟨ret_bool ?_, (Below.refl _ w).alloc (Nat.le_refl _) _⟩
    rw [Bool.eq_iff_iff]; simp [partsV] <;> omega
end Lx
end Go.Proofs.YteabbkhlgnoliaaGreatDoor
namespace Go.Proofs.YteabbkhlgnoliaaGreatDoor
open Go.RowKit
namespace Lx
set_option maxRecDepth 100000
set_option maxHeartbeats 1000000 in
theorem stands_any (k n a p : Int) (s : ByteArray) (A : Option Addr) (m c i : Nat) (w : World) :
    Calls Tryz.prog 93 #[.agg #[.int .i64 k, .string s, .int .i64 n, .int .i64 a, .slice A m c], .int .i64 i, .int .i64 p] w fun e w' => e = .returned (.bool (standsV k n i p)) ∧ Below w.heap.size w w' := by
  have hb : Below w.heap.size w (w.alloc (.cells #[.int .i64 k, .string s, .int .i64 n, .int .i64 a, .slice A m c] 24)) := (Below.refl _ w).alloc (Nat.le_refl _) _
  by_cases h7 : k = 7
  · subst h7
    by_cases hi : 0 < i
    · have hi' : (0 : Int) < (i : Int) := by omega
      go_enter Tryz.func93, Tryz.ntmps93
      go_wp2_with fail
      go_ret
      refine ⟨ret_bool ?_, hb⟩
      simp [standsV, hi]; try rfl
    · have hi' : ¬ (0 : Int) < (i : Int) := by omega
      go_enter Tryz.func93, Tryz.ntmps93
      go_wp2_with fail
      go_ret
      refine ⟨ret_bool ?_, hb⟩
      simp [standsV, hi]; try rfl
  · have e7 : (k == 7) = false := by simpa using h7
    by_cases h8 : k = 8
    · subst h8
      by_cases hi : (i : Int) < n
      · go_enter Tryz.func93, Tryz.ntmps93
        go_wp2_with fail
        go_ret
        refine ⟨ret_bool ?_, hb⟩
        simp [standsV, hi]; try rfl
      · go_enter Tryz.func93, Tryz.ntmps93
        go_wp2_with fail
        go_ret
        refine ⟨ret_bool ?_, hb⟩
        unfold standsV
        rw [if_neg (by omega), if_neg (by omega)]
        by_cases hp : p = 8 <;> simp [hp]
    · have e8 : (k == 8) = false := by simpa using h8
      go_enter Tryz.func93, Tryz.ntmps93
      go_wp2_with fail
      go_ret
      refine ⟨ret_bool ?_, hb⟩
      simp [standsV, h7, h8]; try rfl
theorem oper_any (s : ByteArray) (w : World) : Calls Tryz.prog 159 #[.string s] w fun e w' => e = .returned (.bool (opV s.data.toList)) ∧ w = w' := by
  go_enter Tryz.func159, Tryz.ntmps159
  go_wp2
  all_goals
    go_ret
    refine ⟨ret_bool ?_, rfl⟩
    rw [← data_list]
    simp_all [opV]
theorem zero_lt_of {n : Nat} (h : n = 1) : 0 < n := by omega
set_option maxHeartbeats 2000000 in
theorem isToken_any (s : ByteArray) (k : Int) (w : World) (hk : k = 1 ∨ k = 2) (hg : Signs w) :
    Calls Tryz.prog 158 #[.string s, .int .i64 k] w fun e w' => e = .returned (.bool (kindV k s.data.toList)) ∧ Below w.heap.size w w' := by
  by_cases h16 : 16 < s.size
  · have HF := Lib.hid (kindV_long s.data.toList k (by simpa using h16))
    have h16' : (16 : Int) < (s.size : Int) := by omega
    go_enter Tryz.func158, Tryz.ntmps158
    go_wp2_with fail
    go_ret
    exact ⟨ret_bool HF.out.symm, Below.refl _ _⟩
  · have HT := Lib.hid (isTok_kind s.data.toList k hk)
    have h16' : ¬ (16 : Int) < (s.size : Int) := by omega
    cases ha : allK s.data.toList with
    | error px =>
      obtain ⟨p, x⟩ := px
      have hx := err_code ha
      have hf : isTokV s.data.toList k = false := by unfold isTokV; rw [ha]
      have HF := Lib.hid hf
      have HA := Lib.hid ha
      have hx0 : (x == 0) = false := by rcases hx with rfl | rfl <;> rfl
      clear hf ha
      go_enter Tryz.func158, Tryz.ntmps158
      go_wp2_with fail
      refine (all_bad s p x _ (by omega) hg HA.out).mono ?_
      rintro e w2 ⟨rfl, hb2⟩
      go_wp2_with fail
      go_ret
      exact ⟨ret_bool (by rw [← HT.out, HF.out]), hb2⟩
    | ok ts =>
      have HA := Lib.hid ha
      obtain ⟨n, hn⟩ : ∃ n, ts.length = n := ⟨_, rfl⟩
      have HN := Lib.hid hn
      by_cases h1 : n = 1
      · subst h1
        obtain ⟨t, rfl⟩ : ∃ t, ts = [t] := by
          match ts, hn with
          | [t], _ => exact ⟨t, rfl⟩
        have hf : isTokV s.data.toList k = (decide (t.kind = k) && (t.text == s.data.toList)) := by unfold isTokV; rw [ha]
        have HF := Lib.hid hf
        clear hf ha hn
        have hf2 : ∀ w2 A, Row w2 A [t] → ∃ g o, A = some ⟨g, o, none⟩ ∧ w2.cell? ⟨g, o, none⟩ = some (.int .i64 t.kind) ∧ w2.cell? ⟨g, o + 1, none⟩ = some (.string ⟨t.text.toArray⟩) := fun w2 A hr => by
          obtain ⟨g, o, hA, d0, d1, _, _⟩ := hr.at_ (i := 0) (by simp)
          simp only [Nat.zero_mul, Nat.add_zero] at d0 d1
          exact ⟨g, o, hA, d0, d1⟩
        have HR := Lib.hid hf2
        clear hf2
        by_cases hkd : t.kind = k
        · have e1 : (t.kind == k) = true := by simpa using hkd
          go_enter Tryz.func158, Tryz.ntmps158
          go_wp2_with fail
          refine (all_good' s [t] 1 HN.out _ (by omega) hg HA.out).mono ?_
          rintro e w2 ⟨A, c, rfl, hr, hb2⟩
          obtain ⟨g, o, rfl, d0, d1⟩ := HR.out _ _ hr
          clear hr
          go_wp2_with fail
          go_ret
          exact ⟨ret_bool (by rw [← HT.out, HF.out, data_list]; simp [hkd]), hb2⟩
        · have e1 : (t.kind == k) = false := by simpa using hkd
          go_enter Tryz.func158, Tryz.ntmps158
          go_wp2_with fail
          refine (all_good' s [t] 1 HN.out _ (by omega) hg HA.out).mono ?_
          rintro e w2 ⟨A, c, rfl, hr, hb2⟩
          obtain ⟨g, o, rfl, d0, d1⟩ := HR.out _ _ hr
          clear hr
          go_wp2_with fail
          go_ret
          exact ⟨ret_bool (by rw [← HT.out, HF.out]; simp [hkd]), hb2⟩
      · have hf : isTokV s.data.toList k = false := by
          unfold isTokV; rw [ha]
          split
          · rename_i t h
            have := Except.ok.inj h
            subst this
            exact absurd hn.symm h1
          · rfl
        have HF := Lib.hid hf
        have hn1 : ((n : Int) == 1) = false := by simp; omega
        clear hf ha hn
        go_enter Tryz.func158, Tryz.ntmps158
        go_wp2_with fail
        refine (all_good' s ts n HN.out _ (by omega) hg HA.out).mono ?_
        rintro e w2 ⟨A, c, rfl, hr, hb2⟩
        clear hr
        go_wp2_with fail
        go_ret
        exact ⟨ret_bool (by rw [← HT.out, HF.out]), hb2⟩
theorem str_empty (s : ByteArray) : (s.toList == []) = (s.data.toList == []) := by rw [data_list]
set_option maxHeartbeats 1000000 in
theorem isName_any (s : ByteArray) (v : Int) (w : World) (hg : Signs w) :
    Calls Tryz.prog 135 #[.string s, .int .i64 v] w fun e w' => e = .returned (.bool (whatV v s.data.toList)) ∧ Below w.heap.size w w' := by
  by_cases h1 : v = 1
  · subst h1
    have HT := Lib.hid (isToken_any s 1 w (.inl rfl) hg)
    go_enter Tryz.func135, Tryz.ntmps135
    go_wp2_with fail
    refine HT.out.mono ?_
    rintro e w2 ⟨rfl, hb2⟩
    go_wp2_with fail
    go_ret
    exact ⟨ret_bool (by simp [whatV, kindV]), hb2⟩
  · have e1 : (v == 1) = false := by simpa using h1
    by_cases h2 : v = 2
    · subst h2
      have HT := Lib.hid (isToken_any s 2 w (.inr rfl) hg)
      go_enter Tryz.func135, Tryz.ntmps135
      go_wp2_with fail
      refine HT.out.mono ?_
      rintro e w2 ⟨rfl, hb2⟩
      go_wp2_with fail
      go_ret
      exact ⟨ret_bool (by simp [whatV, kindV]), hb2⟩
    · have e2 : (v == 2) = false := by simpa using h2
      by_cases h3 : v = 3
      · subst h3
        go_enter Tryz.func135, Tryz.ntmps135
        go_wp2_with fail
        refine (oper_any s _).mono ?_
        rintro e w2 ⟨rfl, rfl⟩
        go_wp2_with fail
        go_ret
        exact ⟨ret_bool (by simp [whatV]), Below.refl _ _⟩
      · have e3 : (v == 3) = false := by simpa using h3
        have HE := Lib.hid (str_empty s)
        go_enter Tryz.func135, Tryz.ntmps135
        go_wp2_with fail
        go_ret
        refine ⟨ret_bool ?_, Below.refl _ _⟩
        unfold whatV
        rw [if_neg h1, if_neg h2, if_neg h3, ← HE.out]
        first | rfl | (cases s.toList <;> rfl)

set_option maxHeartbeats 2000000 in
theorem fits_any (hn hN hl hm k n a : Int) (s : ByteArray) (A : Option Addr) (m c : Nat) (w : World) (hg : Signs w) (_hmm : m ≤ 140737488351232) (hN9 : hN ≤ 999999999999999999) :
    Calls Tryz.prog 92 #[.agg #[.int .i64 hn, .int .i64 hN, .int .i64 hl, .int .i64 hm], .agg #[.int .i64 k, .string s, .int .i64 n, .int .i64 a, .slice A m c]] w fun e w' =>
      e = .returned (.bool (fitsV (hn, hN, hl, hm) k s.data.toList n a m)) ∧ Below w.heap.size w w' := by
  have hb : Below w.heap.size w ((w.alloc (.cells #[.int .i64 hn, .int .i64 hN, .int .i64 hl, .int .i64 hm] 122)).alloc (.cells #[.int .i64 k, .string s, .int .i64 n, .int .i64 a, .slice A m c] 24)) :=
    ((Below.refl _ w).alloc (Nat.le_refl _) _).alloc (by simp) _
  by_cases h1 : a < 0 ∨ n < 0 ∨ hN < n
  · have HF : Hid (fitsV (hn, hN, hl, hm) k s.data.toList n a m = false) := by
      show _ = _
      unfold fitsV
      rw [if_pos h1]
    rcases (by omega : a < 0 ∨ (¬ a < 0 ∧ n < 0) ∨ (¬ a < 0 ∧ ¬ n < 0 ∧ hN < n)) with q1 | ⟨q1, q2⟩ | ⟨q1, q2, q3⟩
    all_goals
      clear h1
      go_enter Tryz.func92, Tryz.ntmps92
      go_wp2_with fail
      go_ret
      exact ⟨ret_bool HF.out.symm, hb⟩
  · have q1 : ¬ a < 0 := by omega
    have q2 : ¬ n < 0 := by omega
    have q3 : ¬ hN < n := by omega
    by_cases h2 : (m : Int) < hl ∨ hm < (m : Int)
    · have HF : Hid (fitsV (hn, hN, hl, hm) k s.data.toList n a m = false) := by
        show _ = _
        unfold fitsV
        rw [if_neg h1, if_pos h2]
      rcases (by omega : (m : Int) < hl ∨ (¬ (m : Int) < hl ∧ hm < (m : Int))) with p1 | ⟨p1, p2⟩
      all_goals
        clear h1 h2
        go_enter Tryz.func92, Tryz.ntmps92
        go_wp2_with fail
        go_ret
        exact ⟨ret_bool HF.out.symm, hb⟩
    · have p1 : ¬ (m : Int) < hl := by omega
      have p2 : ¬ hm < (m : Int) := by omega
      by_cases h3 : k = 8 ∧ (m : Int) ≠ n + 1
      · have HF : Hid (fitsV (hn, hN, hl, hm) k s.data.toList n a m = false) := by
          show _ = _
          unfold fitsV
          rw [if_neg h1, if_neg h2, if_pos h3]
        obtain ⟨rfl, h4⟩ := h3
        have e4 : ((m : Int) != n + 1) = true := by simpa using h4
        clear h1 h2 h4
        go_enter Tryz.func92, Tryz.ntmps92
        go_wp2_with fail
        go_ret
        exact ⟨ret_bool HF.out.symm, hb⟩
      · have HF : Hid (fitsV (hn, hN, hl, hm) k s.data.toList n a m = whatV hn s.data.toList) := by
          show _ = _
          unfold fitsV
          rw [if_neg h1, if_neg h2, if_neg h3]
        have hg' : Signs ((w.alloc (.cells #[.int .i64 hn, .int .i64 hN, .int .i64 hl, .int .i64 hm] 122)).alloc (.cells #[.int .i64 k, .string s, .int .i64 n, .int .i64 a, .slice A m c] 24)) := hg.below hb hg.pos
        have HT := Lib.hid (isName_any s hn _ hg')
        by_cases h8 : k = 8
        · subst h8
          have h4 : (m : Int) = n + 1 := Classical.byContradiction fun h => h3 ⟨rfl, h⟩
          have e4 : ((m : Int) != n + 1) = false := by simp [h4]
          clear h1 h2 h3 hg hg'
          have H4 := Lib.hid h4
          clear h4
          go_enter Tryz.func92, Tryz.ntmps92
          go_wp2_with fail
          refine HT.out.mono ?_
          rintro e w2 ⟨rfl, hb2⟩
          go_wp2_with fail
          go_ret
          exact ⟨ret_bool HF.out.symm, hb.trans (hb2.mono (by simp; omega))⟩
        · have e8 : (k == 8) = false := by simpa using h8
          clear h1 h2 h3 hg hg' h8
          go_enter Tryz.func92, Tryz.ntmps92
          go_wp2_with fail
          refine HT.out.mono ?_
          rintro e w2 ⟨rfl, hb2⟩
          go_wp2_with fail
          go_ret
          exact ⟨ret_bool HF.out.symm, hb.trans (hb2.mono (by simp; omega))⟩
end Lx
end Go.Proofs.YteabbkhlgnoliaaGreatDoor
namespace Go.Proofs.YteabbkhlgnoliaaGreatDoor
open Go.RowKit
namespace Lx
set_option maxRecDepth 100000
theorem run_insert_new {P : Program} (W : World) (t kt et : TypeId) (b clock : Nat) (es : Array MapEntry) (k : Int) (val : Value) (hm : P.underlying t = some (.map kt et)) (hk : P.underlying kt = some (.int .i64)) (hb : W.heap[b]? = some (.map es clock))
    (hf : Instr.findNow (.int .i64) (.int .i64 k) es.toList 0 = some none) :
    (Instr.mapUpdate t (.map (some b)) (.int .i64 k) val).run P W = .ok () { W with heap := W.heap.setIfInBounds b (.map (es.push { key := .int .i64 k, val := val, born := clock }) (clock + 1)) } := by
  have hc : (Instr.checkKey false 10000 kt (.int .i64 k)).run P W = .ok () W := MapKept.run_checkKey (k := .int .i64 k) hk (by simp [MapKept.IsKey]) false 9999
  simp [Instr.mapUpdate, run_underlying hm, MapKept.run_getObj_map hb, hc, MapKept.run_findKey hk hf, MapKept.run_setObj_map _ hb, Result.andThen]
theorem wpList_insert_new {P : Program} {ops : Array Oper} {rest : List Oper} {o : Oper} {a : Act} {Q : Exit → Act → World → Prop} {W : World} (hgd : o.guard = none) (m x v : Operand) (t kt et : TypeId) (hop : o.op = .insert t m x v)
    (hm : P.underlying t = some (.map kt et)) (hk : P.underlying kt = some (.int .i64)) (b clock : Nat) (es : Array MapEntry) (k : Int) (val : Value) (em : a.eval m = .map (some b)) (ex : a.eval x = .int .i64 k) (ev : a.eval v = val)
    (hb : W.heap[b]? = some (.map es clock)) (hf : Instr.findNow (.int .i64) (.int .i64 k) es.toList 0 = some none)
    (h : ∀ W', W'.heap[b]? = some (.map (es.push { key := .int .i64 k, val := val, born := clock }) (clock + 1)) → Below b W W' → wpList P ops Q rest (a.put o.dst undef) W') : wpList P ops Q (o :: rest) a W := by
  have hlt := (Array.getElem?_eq_some_iff.1 hb).1
  refine wpList_plain hgd fun K hK => ?_
  unfold Oper.wp execOp
  simp only [hop, em, ex, ev, Sem.run_bind, Sem.run_pure, run_insert_new W t kt et b clock es k val hm hk hb hf, Result.andThen_ok]
  refine hK _ _ (h _ (by simp [hlt]) ⟨rfl, rfl, rfl, by simp, fun i hi => ?_⟩)
  simp [Array.getElem?_setIfInBounds_ne (by omega : b ≠ i)]
/-- The entries of the map of shapes. -/
def shapesE : Array MapEntry := #[{ key := .int .i64 1, val := .agg #[.int .i64 1, .int .i64 0, .int .i64 0, .int .i64 0], born := 0 }, { key := .int .i64 2, val := .agg #[.int .i64 1, .int .i64 0, .int .i64 1, .int .i64 1], born := 1 }, { key := .int .i64 3, val := .agg #[.int .i64 0, .int .i64 0, .int .i64 2, .int .i64 2], born := 2 }, { key := .int .i64 4, val := .agg #[.int .i64 1, .int .i64 0, .int .i64 2, .int .i64 2], born := 3 }, { key := .int .i64 5, val := .agg #[.int .i64 1, .int .i64 0, .int .i64 2, .int .i64 2], born := 4 }, { key := .int .i64 6, val := .agg #[.int .i64 2, .int .i64 0, .int .i64 0, .int .i64 8], born := 5 }, { key := .int .i64 7, val := .agg #[.int .i64 0, .int .i64 0, .int .i64 2, .int .i64 9], born := 6 }, { key := .int .i64 8, val := .agg #[.int .i64 2, .int .i64 8, .int .i64 1, .int .i64 9], born := 7 }, { key := .int .i64 9, val := .agg #[.int .i64 0, .int .i64 999999999999999999, .int .i64 0, .int .i64 0], born := 8 }, { key := .int .i64 10, val := .agg #[.int .i64 3, .int .i64 0, .int .i64 2, .int .i64 2], born := 9 }]
/-- Block b is the map of shapes. -/
def MapAt (w : World) (b : Nat) : Prop := w.heap[b]? = some (.map shapesE 10)
theorem MapAt.lt {w : World} {b : Nat} (h : MapAt w b) : b < w.heap.size := (Array.getElem?_eq_some_iff.1 h).1
theorem MapAt.below {w w' : World} {b B : Nat} (h : MapAt w b) (hb : Below B w w') (hB : b < B) : MapAt w' b := (hb.block b hB).trans h
theorem MapAt.old {w : World} {b : Nat} (h : MapAt w b) (o : Obj) : MapAt (w.alloc o) b := (Below.heap_alloc w o b h.lt).trans h
set_option maxHeartbeats 2000000 in
theorem shapes_any (w : World) : Calls Tryz.prog 52 #[] w fun e w' => e = .returned (.map (some w.heap.size)) ∧ MapAt w' w.heap.size ∧ Below w.heap.size w w' := by
  have hmm := @run_makeMap Tryz.prog
  have h0 : (w.alloc (.map #[] 0)).heap[w.heap.size]? = some (.map #[] 0) := heap_alloc_new w _
  go_enter Tryz.func52, Tryz.ntmps52
  go_wp2_with (first
    | (refine wpList_insert_new rfl _ (.const (.int .i64 1)) _ 85 _ _ rfl Tryz.underlying85 Tryz.underlying3 w.heap.size _ _ 1 _ rfl rfl rfl h0 (by rfl) ?_; intro w1 h1 b1)
    | (refine wpList_insert_new rfl _ (.const (.int .i64 2)) _ 85 _ _ rfl Tryz.underlying85 Tryz.underlying3 w.heap.size _ _ 2 _ rfl rfl rfl h1 (by rfl) ?_; intro w2 h2 b2)
    | (refine wpList_insert_new rfl _ (.const (.int .i64 3)) _ 85 _ _ rfl Tryz.underlying85 Tryz.underlying3 w.heap.size _ _ 3 _ rfl rfl rfl h2 (by rfl) ?_; intro w3 h3 b3)
    | (refine wpList_insert_new rfl _ (.const (.int .i64 4)) _ 85 _ _ rfl Tryz.underlying85 Tryz.underlying3 w.heap.size _ _ 4 _ rfl rfl rfl h3 (by rfl) ?_; intro w4 h4 b4)
    | (refine wpList_insert_new rfl _ (.const (.int .i64 5)) _ 85 _ _ rfl Tryz.underlying85 Tryz.underlying3 w.heap.size _ _ 5 _ rfl rfl rfl h4 (by rfl) ?_; intro w5 h5 b5)
    | (refine wpList_insert_new rfl _ (.const (.int .i64 6)) _ 85 _ _ rfl Tryz.underlying85 Tryz.underlying3 w.heap.size _ _ 6 _ rfl rfl rfl h5 (by rfl) ?_; intro w6 h6 b6)
    | (refine wpList_insert_new rfl _ (.const (.int .i64 7)) _ 85 _ _ rfl Tryz.underlying85 Tryz.underlying3 w.heap.size _ _ 7 _ rfl rfl rfl h6 (by rfl) ?_; intro w7 h7 b7)
    | (refine wpList_insert_new rfl _ (.const (.int .i64 8)) _ 85 _ _ rfl Tryz.underlying85 Tryz.underlying3 w.heap.size _ _ 8 _ rfl rfl rfl h7 (by rfl) ?_; intro w8 h8 b8)
    | (refine wpList_insert_new rfl _ (.const (.int .i64 9)) _ 85 _ _ rfl Tryz.underlying85 Tryz.underlying3 w.heap.size _ _ 9 _ rfl rfl rfl h8 (by rfl) ?_; intro w9 h9 b9)
    | (refine wpList_insert_new rfl _ (.const (.int .i64 10)) _ 85 _ _ rfl Tryz.underlying85 Tryz.underlying3 w.heap.size _ _ 10 _ rfl rfl rfl h9 (by rfl) ?_; intro w10 h10 b10))
  go_ret
  have hB := (((((((((((Below.refl _ w).alloc (Nat.le_refl _) (.map #[] 0)).trans b1).trans b2).trans b3).trans b4).trans b5).trans b6).trans b7).trans b8).trans b9).trans b10
  exact ⟨rfl, h10, hB⟩

/-- What is looked up in the map of shapes. -/
def lookV (k : Int) : Value := match shapeV k with
  | some (a, b, c, d) => .tuple #[.agg #[.int .i64 a, .int .i64 b, .int .i64 c, .int .i64 d], .bool true]
  | none => .tuple #[.agg #[.int .i64 0, .int .i64 0, .int .i64 0, .int .i64 0], .bool false]
theorem zeroS (w : World) : (zeroValue 122).run Tryz.prog w = .ok (.agg #[.int .i64 0, .int .i64 0, .int .i64 0, .int .i64 0]) w := by kernel_rfl
theorem run_lookup_hit (W : World) (b k : Nat) (j : Int) (v : Value) (hb : MapAt W b) (hf : Instr.findNow (.int .i64) (.int .i64 j) shapesE.toList 0 = some (some (k, v))) :
    (Instr.lookup 85 (.map (some b)) (.int .i64 j) true).run Tryz.prog W = .ok (.tuple #[v, .bool true]) W := by
  have hc : (Instr.checkKey shapesE.isEmpty 10000 3 (.int .i64 j)).run Tryz.prog W = .ok () W := MapKept.run_checkKey (k := .int .i64 j) Tryz.underlying3 (by simp [MapKept.IsKey]) _ 9999
  simp [Instr.lookup, run_underlying Tryz.underlying85, MapKept.run_getObj_map hb, hc, MapKept.run_findKey Tryz.underlying3 hf, Result.andThen]
theorem run_lookup_miss (W : World) (b : Nat) (j : Int) (hb : MapAt W b) (hf : Instr.findNow (.int .i64) (.int .i64 j) shapesE.toList 0 = some none) :
    (Instr.lookup 85 (.map (some b)) (.int .i64 j) true).run Tryz.prog W = .ok (.tuple #[.agg #[.int .i64 0, .int .i64 0, .int .i64 0, .int .i64 0], .bool false]) W := by
  have hc : (Instr.checkKey shapesE.isEmpty 10000 3 (.int .i64 j)).run Tryz.prog W = .ok () W := MapKept.run_checkKey (k := .int .i64 j) Tryz.underlying3 (by simp [MapKept.IsKey]) _ 9999
  simp [Instr.lookup, run_underlying Tryz.underlying85, MapKept.run_getObj_map hb, hc, MapKept.run_findKey Tryz.underlying3 hf, Result.andThen]
theorem find_miss (j : Int) (h : j < 1 ∨ 10 < j) : Instr.findNow (.int .i64) (.int .i64 j) shapesE.toList 0 = some none := by
  have e : ∀ i : Int, 1 ≤ i → i ≤ 10 → (j == i) = false := fun i h1 h2 => by simp; omega
  simp [shapesE, Instr.findNow, Instr.sameNow, e 1, e 2, e 3, e 4, e 5, e 6, e 7, e 8, e 9, e 10]
theorem run_look (W : World) (b : Nat) (j : Int) (hb : MapAt W b) : (Instr.lookup 85 (.map (some b)) (.int .i64 j) true).run Tryz.prog W = .ok (lookV j) W := by
  rcases (by omega : j = 1 ∨ j = 2 ∨ j = 3 ∨ j = 4 ∨ j = 5 ∨ j = 6 ∨ j = 7 ∨ j = 8 ∨ j = 9 ∨ j = 10 ∨ (j < 1 ∨ 10 < j)) with rfl | rfl | rfl | rfl | rfl | rfl | rfl | rfl | rfl | rfl | h
  case inr.inr.inr.inr.inr.inr.inr.inr.inr.inr =>
    rw [run_lookup_miss W b j hb (find_miss j h)]
    have e : shapeV j = none := by
      have e : ∀ i : Int, 1 ≤ i → i ≤ 10 → j ≠ i := by omega
      simp [shapeV, e 1, e 2, e 3, e 4, e 5, e 6, e 7, e 8, e 9, e 10]
    rw [lookV, e]
  all_goals exact run_lookup_hit W b _ _ _ hb rfl
end Lx
end Go.Proofs.YteabbkhlgnoliaaGreatDoor
namespace Go.Proofs.YteabbkhlgnoliaaGreatDoor
open Go.RowKit
namespace Lx
set_option maxRecDepth 100000
theorem shape_bd {k a b c d : Int} (h : shapeV k = some (a, b, c, d)) : b ≤ 999999999999999999 := by
  unfold shapeV at h
  split at h
  · cases h; omega
  · split at h
    · cases h; omega
    · split at h
      · cases h; omega
      · split at h
        · cases h; omega
        · split at h
          · cases h; omega
          · split at h
            · cases h; omega
            · split at h
              · cases h; omega
              · split at h
                · cases h; omega
                · split at h
                  · cases h; omega
                  · split at h
                    · cases h; omega
                    · cases h

set_option maxHeartbeats 2000000 in
theorem pmay_any (d : Nat) : ∀ (t : Tr) (A : Option Addr) (c b : Nat) (w : World), depthT t ≤ d → TIn w Any t A → MapAt w b → Signs w →
    Calls Tryz.prog 51 #[tv t A c, .map (some b)] w fun e w' => e = .returned (.bool (mayT t)) ∧ Below w.heap.size w w' := by
  induction d with
  | zero => intro t A c b w h; have := depth_pos t; omega
  | succ d ih =>
    intro t A c b w hd hI hM hg
    obtain ⟨k, s, n, a, l⟩ := t
    have hdL : depthL l ≤ d := by rw [depthT] at hd; omega
    have hlen : l.length ≤ 140737488351232 := by rw [TIn] at hI; exact hI.2.1
    have HI := Lib.hid hI
    clear hI hd
    show Calls Tryz.prog 51 #[.agg #[.int .i64 k, .string s, .int .i64 n, .int .i64 a, .slice A l.length (capF l.length c)], .map (some b)] w _
    generalize capF l.length c = c
    have hlk := run_look (w.alloc (.cells #[.int .i64 k, .string s, .int .i64 n, .int .i64 a, .slice A l.length c] 24)) b k (hM.old _)
    unfold lookV at hlk
    cases hs : shapeV k with
    | none =>
      rw [hs] at hlk
      have HE : Hid (mayT (.node k s n a l) = false) := by
        show _ = _
        rw [mayT, hs]
      clear hs hlen
      go_enter Tryz.func51, Tryz.ntmps51
      go_wp2_with fail
      go_ret
      exact ⟨ret_bool HE.out.symm, ((Below.refl _ w).alloc (Nat.le_refl _) _).alloc (by simp) _⟩
    | some h =>
      obtain ⟨hn, hN, hl, hm⟩ := h
      rw [hs] at hlk
      have hbd := shape_bd hs
      have HE : Hid (mayT (.node k s n a l) = (fitsV (hn, hN, hl, hm) k s.data.toList n a l.length && mayL k n 0 l)) := by
        show _ = _
        rw [mayT, hs]
      have hlk' : (Instr.lookup 85 (.map (some b)) (.int .i64 k) true).run Tryz.prog (w.alloc (.cells #[.int .i64 k, .string s, .int .i64 n, .int .i64 a, .slice A l.length c] 24)) = .ok (.tuple #[.agg #[.int .i64 hn, .int .i64 hN, .int .i64 hl, .int .i64 hm], .bool true]) (w.alloc (.cells #[.int .i64 k, .string s, .int .i64 n, .int .i64 a, .slice A l.length c] 24)) := hlk
      clear hs hlk
      have hb0 : Below w.heap.size w ((w.alloc (.cells #[.int .i64 k, .string s, .int .i64 n, .int .i64 a, .slice A l.length c] 24)).alloc (.cells #[.int .i64 hn, .int .i64 hN, .int .i64 hl, .int .i64 hm] 122)) := ((Below.refl _ w).alloc (Nat.le_refl _) _).alloc (by simp) _
      have HF := Lib.hid (fits_any hn hN hl hm k n a s A l.length c _ (hg.below hb0 hg.pos) hlen hbd)
      obtain ⟨m, hm'⟩ : ∃ m, m = l.length := ⟨_, rfl⟩
      rw [← hm'] at hlen hlk' HF HE hb0 ⊢
      have hm1 : m ≤ l.length := by omega
      have hm2 : l.length ≤ m := by omega
      clear hm'
      cases hfit : fitsV (hn, hN, hl, hm) k s.data.toList n a m
      · have HX := Lib.hid hfit
        rw [hfit] at HF HE
        clear hfit
        go_enter Tryz.func51, Tryz.ntmps51
        go_wp2_with fail
        refine HF.out.mono ?_
        rintro e w2 ⟨rfl, hb2⟩
        go_wp2_with fail
        go_ret
        exact ⟨ret_bool (by rw [HE.out, Bool.false_and]), hb0.trans (hb2.mono (by simp; omega))⟩
      · have HX := Lib.hid hfit
        rw [hfit] at HF HE
        clear hfit
        have hL0 := (Lies.new w 24 #[.int .i64 k, .string s, .int .i64 n, .int .i64 a, .slice A m c]).old (.cells #[.int .i64 hn, .int .i64 hN, .int .i64 hl, .int .i64 hm] 122)
        go_enter Tryz.func51, Tryz.ntmps51
        go_wp2_with fail
        refine HF.out.mono ?_
        rintro e w2 ⟨rfl, hb2⟩
        have hbw2 := hb0.trans (hb2.mono (by simp; omega))
        have hL2 := hL0.below hb2 (by simp; omega)
        have c4 := hL2.five.1.2.2.2.2
        clear hlk' hb0 hb2 hL0
        go_wp2_with fail
        go_loopw [27] (fun x wr => ∃ i : Nat, i ≤ m ∧ x = .int .i64 i ∧ Hid (mayL k n 0 l = mayL k n i (l.drop i)) ∧ Lies wr w.heap.size 24 #[.int .i64 k, .string s, .int .i64 n, .int .i64 a, .slice A m c] ∧ Below w.heap.size w wr) (fun x _ => m - (intOf x).toNat)
        case atStart => exact ⟨0, by omega, rfl, by exact rfl, hL2, hbw2⟩
        case round =>
          obtain ⟨i, hi, rfl, HQ, hL, hbw⟩ := hrel
          by_cases hlt : i < m
          · have hia : i < l.length := by omega
            obtain ⟨g, o, A', c', ⟨hA, _⟩, d0, d1, d2, d3, d4, hIn⟩ := TIn.part (TIn.below _ HI.out hbw (Nat.le_refl _)) i hia
            subst hA
            have hm3 := depthL_mem l (l[i]'hia) (List.getElem_mem hia)
            have HS : Hid (mayL k n i (l.drop i) = (standsV k n i (l[i]'hia).kind && (mayT (l[i]'hia) && mayL k n (i + 1) (l.drop (i + 1))))) := by
              show _ = _
              rw [List.drop_eq_getElem_cons hia, mayL]
            simp only [Tr.parts] at d0 d1 d2 d3 d4 hIn
            obtain ⟨tr, hu⟩ : ∃ tr, tr = l[i]'hia := ⟨_, rfl⟩
            rw [← hu] at d0 d1 d2 d3 d4 hIn hm3 HS
            clear hu c4
            obtain ⟨tk, ts, tn, ta, tl⟩ := tr
            simp only [Tr.kind, Tr.name, Tr.n, Tr.place] at d0 d1 d2 d3 d4 HS
            obtain ⟨b0, b1, b2, b3, b4⟩ := (hL.old (.cells #[.int .i64 tk, .string ts, .int .i64 tn, .int .i64 ta, .slice A' tl.length (capF tl.length c')] 24)).five.1
            have hgr : Signs wr := hg.below hbw hg.pos
            have hMr : MapAt wr b := hM.below hbw hM.lt
            cases hst : standsV k n i tk
            · have HST := Lib.hid (stands_any k n a tk s (some ⟨g, o, none⟩) m c i (wr.alloc (.cells #[.int .i64 tk, .string ts, .int .i64 tn, .int .i64 ta, .slice A' tl.length (capF tl.length c')] 24)))
              rw [hst] at HST HS
              clear hst
              go_wp2_with fail
              refine HST.out.mono ?_
              rintro e w3 ⟨rfl, hb3⟩
              go_wp2_with fail
              go_ret
              exact ⟨ret_bool (by rw [HE.out, HQ.out, HS.out]; simp), below_al hbw hb3⟩
            · have HST := Lib.hid (stands_any k n a tk s (some ⟨g, o, none⟩) m c i (wr.alloc (.cells #[.int .i64 tk, .string ts, .int .i64 tn, .int .i64 ta, .slice A' tl.length (capF tl.length c')] 24)))
              rw [hst] at HST HS
              clear hst
              have hbs := hbw.size
              go_wp2_with fail
              refine HST.out.mono ?_
              rintro e w3 ⟨rfl, hb3⟩
              have hb3w := below_al hbw hb3
              have hbr : Below wr.heap.size wr w3 := ((Below.refl _ wr).alloc (Nat.le_refl _) _).trans (hb3.mono (by simp))
              have hn3 := (Lies.new wr 24 #[.int .i64 tk, .string ts, .int .i64 tn, .int .i64 ta, .slice A' tl.length (capF tl.length c')]).below hb3 (by simp)
              obtain ⟨n0, n1, n2, n3, n4⟩ := hn3.five.1
              have HM := Lib.hid (ih (.node tk ts tn ta tl) A' c' b w3 (by omega) (TIn.below _ hIn hbr (Nat.le_refl _)) (hMr.below hbr hMr.lt) (hgr.below hbr hgr.pos))
              have hL3 := hL.below hbr hL.lt
              have hbs3 := hbr.size
              clear d0 d1 d2 d3 d4 b0 b1 b2 b3 b4 hn3 hb3
              cases hmt : mayT (.node tk ts tn ta tl)
              · rw [hmt] at HM HS
                clear hmt
                go_wp2_with fail
                refine HM.out.mono ?_
                rintro e w4 ⟨rfl, hb4⟩
                go_wp2_with fail
                go_ret
                exact ⟨ret_bool (by rw [HE.out, HQ.out, HS.out]; simp), hb3w.trans (hb4.mono hb3w.size)⟩
              · rw [hmt] at HM HS
                clear hmt
                go_wp2_with fail
                refine HM.out.mono ?_
                rintro e w4 ⟨rfl, hb4⟩
                go_wp2_with fail
                go_roundw
                case rel =>
                  refine ⟨i + 1, by omega, by go_num, ?_, hL3.below hb4 hL3.lt, hb3w.trans (hb4.mono hb3w.size)⟩
                  show _ = _
                  rw [HQ.out, HS.out]; simp
                case measure => simp [intOf]; omega
          · clear c4
            go_wp2_with fail
            go_ret
            obtain rfl : i = m := by omega
            exact ⟨ret_bool (by rw [HE.out, HQ.out, List.drop_eq_nil_of_le (by omega), mayL]; rfl), hbw⟩
end Lx
end Go.Proofs.YteabbkhlgnoliaaGreatDoor
namespace Go.Proofs.YteabbkhlgnoliaaGreatDoor
open Go.RowKit
namespace Lx
set_option maxRecDepth 100000
/-- May a tree be, as a whole one? -/
def mayV (t : Tr) : Bool := decide (t.kind ≠ 8) && mayT t
set_option maxHeartbeats 2000000 in
theorem tmay_any (t : Tr) (A : Option Addr) (c : Nat) (w : World) (hI : TIn w Any t A) (hg : Signs w) :
    Calls Tryz.prog 31 #[tv t A c] w fun e w' => e = .returned (.bool (mayV t)) ∧ Below w.heap.size w w' := by
  obtain ⟨k, s, n, a, l⟩ := t
  show Calls Tryz.prog 31 #[.agg #[.int .i64 k, .string s, .int .i64 n, .int .i64 a, .slice A l.length (capF l.length c)]] w _
  have HI := Lib.hid hI
  clear hI
  have hb0 : Below w.heap.size w (w.alloc (.cells #[.int .i64 k, .string s, .int .i64 n, .int .i64 a, .slice A l.length (capF l.length c)] 24)) := (Below.refl _ w).alloc (Nat.le_refl _) _
  by_cases h8 : k = 8
  · have HE : Hid (mayV (.node k s n a l) = false) := by
      show _ = _
      unfold mayV
      simp [Tr.kind, h8]
    subst h8
    go_enter Tryz.func31, Tryz.ntmps31
    go_wp2_with fail
    go_quiet (fail)
    go_wp2_with fail
    go_ret
    exact ⟨ret_bool HE.out.symm, below_drewN hb0 _⟩
  · have e8 : (k != 8) = true := by simpa using h8
    have HE : Hid (mayV (.node k s n a l) = mayT (.node k s n a l)) := by
      show _ = _
      unfold mayV
      simp [Tr.kind, h8]
    obtain ⟨W, hW⟩ : ∃ W, W = w.alloc (.cells #[.int .i64 k, .string s, .int .i64 n, .int .i64 a, .slice A l.length (capF l.length c)] 24) := ⟨_, rfl⟩
    have hL : Lies W w.heap.size 24 #[.int .i64 k, .string s, .int .i64 n, .int .i64 a, .slice A l.length (capF l.length c)] := by rw [hW]; exact Lies.new w _ _
    go_enter Tryz.func31, Tryz.ntmps31
    go_wp2_with fail
    rw [← hW] at hb0 ⊢
    obtain ⟨b0, b1, b2, b3, b4⟩ := hL.five.1
    have hl := hL.lt
    have hgW := hg.below hb0 hg.pos
    have hIW := TIn.below _ HI.out hb0 (Nat.le_refl _)
    clear hW h8
    go_region_held3 (fun V => V.cell? ⟨w.heap.size, 0, none⟩ = some (.int .i64 k) ∧ V.cell? ⟨w.heap.size, 1, none⟩ = some (.string s) ∧ V.cell? ⟨w.heap.size, 2, none⟩ = some (.int .i64 n) ∧ V.cell? ⟨w.heap.size, 3, none⟩ = some (.int .i64 a) ∧ V.cell? ⟨w.heap.size, 4, none⟩ = some (.slice A l.length (capF l.length c)))
      (first | go_keep)
      ((first
        | (go_at_call 52
           refine (shapes_any W.drew).mono ?_
           rintro e w2 ⟨rfl, hM2, hb2⟩
           have hbr : Below W.heap.size W w2 := (Below.refl _ W).drew.trans hb2
           have v0 := (hbr.cell (p := ⟨w.heap.size, 0, none⟩) hl).trans b0
           have v1 := (hbr.cell (p := ⟨w.heap.size, 1, none⟩) hl).trans b1
           have v2 := (hbr.cell (p := ⟨w.heap.size, 2, none⟩) hl).trans b2
           have v3 := (hbr.cell (p := ⟨w.heap.size, 3, none⟩) hl).trans b3
           have v4 := (hbr.cell (p := ⟨w.heap.size, 4, none⟩) hl).trans b4
           have hl2 : w.heap.size < w2.heap.size := by have := hbr.size; omega)
        | (go_at_call 51
           refine (pmay_any (depthT (.node k s n a l)) (.node k s n a l) A c _ w2 (Nat.le_refl _) (TIn.below _ hIW hbr (Nat.le_refl _)) hM2 (hgW.below hbr hgW.pos)).mono ?_
           rintro e w3 ⟨rfl, hb3⟩
           have v0' := (hb3.cell (p := ⟨w.heap.size, 0, none⟩) hl2).trans v0
           have v1' := (hb3.cell (p := ⟨w.heap.size, 1, none⟩) hl2).trans v1
           have v2' := (hb3.cell (p := ⟨w.heap.size, 2, none⟩) hl2).trans v2
           have v3' := (hb3.cell (p := ⟨w.heap.size, 3, none⟩) hl2).trans v3
           have v4' := (hb3.cell (p := ⟨w.heap.size, 4, none⟩) hl2).trans v4)))
    go_wp2_with fail
    go_ret
    exact ⟨ret_bool HE.out.symm, (hb0.trans (hbr.mono hb0.size)).trans (hb3.mono (by have := hb0.size; have := hbr.size; omega))⟩
end Lx
end Go.Proofs.YteabbkhlgnoliaaGreatDoor
namespace Go.Proofs.YteabbkhlgnoliaaGreatDoor
open Go.RowKit
namespace Lx
set_option maxRecDepth 100000
set_option maxHeartbeats 2000000 in
theorem rmay_head (k n a : Int) (s : ByteArray) (A : Option Addr) (m c : Nat) (alt : Bool) (w : World) (hs : s.size ≤ 140737488351232) (hm : m ≤ 140737488351232)
    (h : ((decide (k = 8) == alt) && (nameOkV k s.data.toList && (partsV k n m && decide (0 ≤ a)))) = false) :
    Calls Tryz.prog 50 #[.agg #[.int .i64 k, .string s, .int .i64 n, .int .i64 a, .slice A m c], .bool alt] w fun e w' => e = .returned (.bool false) ∧ Below w.heap.size w w' := by
  have hb : Below w.heap.size w (w.alloc (.cells #[.int .i64 k, .string s, .int .i64 n, .int .i64 a, .slice A m c] 24)) := (Below.refl _ w).alloc (Nat.le_refl _) _
  have HN := Lib.hid (rname_any k n a s A m c (w.alloc (.cells #[.int .i64 k, .string s, .int .i64 n, .int .i64 a, .slice A m c] 24)) hs)
  have HP := fun w => rparts_any k n a s A m c w hm
  have HPP := Lib.hid HP
  clear HP
  have hL0 := Lies.new w 24 #[.int .i64 k, .string s, .int .i64 n, .int .i64 a, .slice A m c]
  by_cases h1 : (decide (k = 8) == alt) = true
  · have e1 : ((k == 8) == alt) = true := h1
    rw [h1, Bool.true_and] at h
    cases hn : nameOkV k s.data.toList
    · rw [hn] at HN
      have HH := Lib.hid h
      clear h h1 hn
      go_enter Tryz.func50, Tryz.ntmps50
      go_wp2_with fail
      refine HN.out.mono ?_
      rintro e w2 ⟨rfl, hb2⟩
      go_wp2_with fail
      go_ret
      exact ⟨rfl, below_ac hb2⟩
    · rw [hn] at HN h
      rw [Bool.true_and] at h
      cases hp : partsV k n m
      · rw [hp] at HPP
        have HH := Lib.hid h
        clear h h1 hn hp
        go_enter Tryz.func50, Tryz.ntmps50
        go_wp2_with fail
        refine HN.out.mono ?_
        rintro e w2 ⟨rfl, hb2⟩
        obtain ⟨⟨c0, c1, c2, c3, c4⟩, _⟩ := (hL0.below hb2 (by simp)).five
        go_wp2_with fail
        refine (HPP.out _).mono ?_
        rintro e w3 ⟨rfl, hb3⟩
        go_wp2_with fail
        go_ret
        exact ⟨rfl, (below_ac hb2).trans (hb3.mono (by have := hb2.size; simp at this; omega))⟩
      · rw [hp, Bool.true_and] at h
        rw [hp] at HPP
        have ha : a < 0 := by simpa using h
        clear h h1 hn hp
        go_enter Tryz.func50, Tryz.ntmps50
        go_wp2_with fail
        refine HN.out.mono ?_
        rintro e w2 ⟨rfl, hb2⟩
        have hL2 := hL0.below hb2 (by simp)
        obtain ⟨⟨c0, c1, c2, c3, c4⟩, _⟩ := hL2.five
        go_wp2_with fail
        refine (HPP.out _).mono ?_
        rintro e w3 ⟨rfl, hb3⟩
        have d3 := (hL2.below hb3 hL2.lt).five.1.2.2.2.1
        go_wp2_with fail
        go_ret
        exact ⟨rfl, (below_ac hb2).trans (hb3.mono (by have := hb2.size; simp at this; omega))⟩
  · have e1 : ((k == 8) == alt) = false := Bool.eq_false_iff.2 h1
    have HH := Lib.hid h
    clear h h1
    go_enter Tryz.func50, Tryz.ntmps50
    go_wp2_with fail
    go_ret
    exact ⟨rfl, hb⟩
set_option maxHeartbeats 8000000 in
theorem rmay_any (d : Nat) : ∀ (t : Tr) (A : Option Addr) (c : Nat) (alt : Bool) (w : World), depthT t ≤ d → TIn w Any t A →
    Calls Tryz.prog 50 #[tv t A c, .bool alt] w fun e w' => e = .returned (.bool (mayRT t alt)) ∧ Below w.heap.size w w' := by
  induction d with
  | zero => intro t A c alt w h; have := depth_pos t; omega
  | succ d ih =>
    intro t A c alt w hd hI
    obtain ⟨k, s, n, a, l⟩ := t
    have hdL : depthL l ≤ d := by rw [depthT] at hd; omega
    have hlen : l.length ≤ 140737488351232 := by rw [TIn] at hI; exact hI.2.1
    have hss : s.size ≤ 140737488351232 := by rw [TIn] at hI; exact hI.1
    have HI := Lib.hid hI
    clear hI hd
    show Calls Tryz.prog 50 #[.agg #[.int .i64 k, .string s, .int .i64 n, .int .i64 a, .slice A l.length (capF l.length c)], .bool alt] w _
    generalize capF l.length c = c
    cases hh : ((decide (k = 8) == alt) && (nameOkV k s.data.toList && (partsV k n l.length && decide (0 ≤ a))))
    · refine (rmay_head k n a s A _ c alt w hss hlen hh).mono ?_
      rintro e w' ⟨rfl, hb⟩
      refine ⟨ret_bool ?_, hb⟩
      rw [mayRT]
      cases h1 : (decide (k = 8) == alt) <;> cases h2 : nameOkV k s.data.toList <;> cases h3 : partsV k n l.length <;> cases h4 : decide (0 ≤ a) <;> simp_all
    · simp only [Bool.and_eq_true] at hh
      obtain ⟨h1, h2, h3, h4⟩ := hh
      have HE : Hid (mayRT (.node k s n a l) alt = mayRL k n 0 l) := by
        show _ = _
        rw [mayRT, h1, h2, h3, h4]; simp
      have hda : decide (a < 0) = false := by have := of_decide_eq_true h4; simp; omega
      have HN := Lib.hid (rname_any k n a s A l.length c (w.alloc (.cells #[.int .i64 k, .string s, .int .i64 n, .int .i64 a, .slice A l.length c] 24)) hss)
      have HP := fun w => rparts_any k n a s A l.length c w hlen
      rw [h2] at HN
      rw [h3] at HP
      have HPP := Lib.hid HP
      have halt : alt = decide (k = 8) := by cases alt <;> cases hk8 : decide (k = 8) <;> simp_all
      clear HP h1 h2 h3 h4
      subst halt
      obtain ⟨m, hm'⟩ : ∃ m, m = l.length := ⟨_, rfl⟩
      rw [← hm'] at hlen HN HPP ⊢
      have hm1 : m ≤ l.length := by omega
      have hm2 : l.length ≤ m := by omega
      clear hm'
      have hL0 := Lies.new w 24 #[.int .i64 k, .string s, .int .i64 n, .int .i64 a, .slice A m c]
      rcases (by omega : k = 8 ∨ k = 7 ∨ (k ≠ 8 ∧ k ≠ 7)) with rfl | rfl | ⟨q8, q7⟩
      · have HE8 : Hid (mayRT (.node 8 s n a l) true = mayRL 8 n 0 l) := HE.out
        clear HE
        have HE := HE8
        clear HE8
        show Calls Tryz.prog 50 #[.agg #[.int .i64 8, .string s, .int .i64 n, .int .i64 a, .slice A m c], .bool true] w fun e w' => e = .returned (.bool (mayRT (.node 8 s n a l) true)) ∧ Below w.heap.size w w'
        go_enter Tryz.func50, Tryz.ntmps50
        go_wp2_with fail
        refine HN.out.mono ?_
        rintro e w2 ⟨rfl, hb2⟩
        have hL2 := hL0.below hb2 (by simp)
        obtain ⟨⟨c0, c1, c2, c3, c4⟩, _⟩ := hL2.five
        go_wp2_with fail
        refine (HPP.out _).mono ?_
        rintro e w3 ⟨rfl, hb3⟩
        have hL3 := hL2.below hb3 hL2.lt
        have d3 := hL3.five.1.2.2.2.1
        have hbw3 : Below w.heap.size w w3 := (below_ac hb2).trans (hb3.mono (by have := hb2.size; simp at this; omega))
        clear hb2 hb3 hL0 hL2 c0 c1 c2 c3 c4
        go_wp2_with fail
        clear d3
        go_loopw [5] (fun x wr => ∃ i : Nat, i ≤ m ∧ x = .int .i64 i ∧ Hid (mayRL 8 n 0 l = mayRL 8 n i (l.drop i)) ∧ Lies wr w.heap.size 24 #[.int .i64 8, .string s, .int .i64 n, .int .i64 a, .slice A m c] ∧ Below w.heap.size w wr) (fun x _ => m - (intOf x).toNat)
        case atStart => exact ⟨0, by omega, rfl, by exact rfl, hL3, hbw3⟩
        case round =>
          obtain ⟨i, hi, rfl, HQ, hL, hbw⟩ := hrel
          have hbs := hbw.size
          obtain ⟨b0, b1, b2, b3, b4⟩ := hL.five.1
          by_cases hlt : i < m
          · have hia : i < l.length := by omega
            obtain ⟨g, o, A', c', ⟨hA, _⟩, d0, d1, d2, d3, d4, hIn⟩ := TIn.part (TIn.below _ HI.out hbw (Nat.le_refl _)) i hia
            subst hA
            have hm3 := depthL_mem l (l[i]'hia) (List.getElem_mem hia)
            have HS0 : Hid (mayRL 8 n i (l.drop i) = (!(decide ((8 : Int) = 8) && (decide ((i : Int) < n) && decide ((l[i]'hia).kind ≠ 1))) && (mayRT (l[i]'hia) (decide ((8 : Int) = 7) && decide (0 < i)) && mayRL 8 n (i + 1) (l.drop (i + 1))))) := by
              show _ = _
              rw [List.drop_eq_getElem_cons hia, mayRL]
            simp only [Tr.parts] at d0 d1 d2 d3 d4 hIn
            obtain ⟨tr, hu⟩ : ∃ tr, tr = l[i]'hia := ⟨_, rfl⟩
            rw [← hu] at d0 d1 d2 d3 d4 hIn hm3 HS0
            clear hu
            obtain ⟨tk, ts, tn, ta, tl⟩ := tr
            simp only [Tr.kind, Tr.name, Tr.n, Tr.place] at d0 d1 d2 d3 d4
            by_cases q1 : (i : Int) < n
            · by_cases q2 : tk = 1
              · subst q2
                have HS : Hid (mayRL 8 n i (l.drop i) = (mayRT (.node 1 ts tn ta tl) false && mayRL 8 n (i + 1) (l.drop (i + 1)))) := by
                  show _ = _
                  rw [HS0.out]
                  simp only [Tr.kind]
                  simp [q1]
                cases hmt : mayRT (.node 1 ts tn ta tl) false
                all_goals
                  have HM := Lib.hid (ih (.node 1 ts tn ta tl) A' c' false wr.drew (by omega) (TIn.below _ hIn ((Below.refl _ wr).drew) (Nat.le_refl _)))
                  rw [hmt] at HM
                  have HMT := Lib.hid hmt
                  clear hmt
                  go_wp2_with fail
                  go_still_tail 12, (by kernel_rfl)
                  change wpList _ _ _ _ _ wr.drew
                  go_wp2_with fail
                  refine HM.out.mono ?_
                  rintro e w2 ⟨rfl, hb2'⟩
                  have hb2 : Below wr.heap.size wr w2 := (Below.refl _ wr).drew.trans hb2'
                  go_wp2_with fail
                · go_ret
                  exact ⟨ret_bool (by rw [HE.out, HQ.out, HS.out, HMT.out]; simp), hbw.trans (hb2.mono hbs)⟩
                · go_roundw
                  case rel =>
                    refine ⟨i + 1, by omega, by go_num, ?_, hL.below hb2 hL.lt, hbw.trans (hb2.mono hbs)⟩
                    show _ = _
                    rw [HQ.out, HS.out, HMT.out]; simp
                  case measure => simp [intOf]; omega
              · have q3 : (tk != 1) = true := by simpa using q2
                have HS : Hid (mayRL 8 n i (l.drop i) = false) := by
                  show _ = _
                  rw [HS0.out]
                  simp [q1, q2, Tr.kind]
                clear q2
                go_wp2_with fail
                go_ret
                exact ⟨ret_bool (by rw [HE.out, HQ.out, HS.out]), hbw⟩
            · have q1' : n ≤ (i : Int) := by omega
              have HS : Hid (mayRL 8 n i (l.drop i) = (mayRT (.node tk ts tn ta tl) false && mayRL 8 n (i + 1) (l.drop (i + 1)))) := by
                show _ = _
                rw [HS0.out]
                simp only [Tr.kind]
                rw [decide_eq_false q1]; simp
              clear q1'
              cases hmt : mayRT (.node tk ts tn ta tl) false
              all_goals
                have HM := Lib.hid (ih (.node tk ts tn ta tl) A' c' false wr.drew (by omega) (TIn.below _ hIn ((Below.refl _ wr).drew) (Nat.le_refl _)))
                rw [hmt] at HM
                have HMT := Lib.hid hmt
                clear hmt
                go_wp2_with fail
                go_still_tail 12, (by kernel_rfl)
                change wpList _ _ _ _ _ wr.drew
                go_wp2_with fail
                refine HM.out.mono ?_
                rintro e w2 ⟨rfl, hb2'⟩
                have hb2 : Below wr.heap.size wr w2 := (Below.refl _ wr).drew.trans hb2'
                go_wp2_with fail
              · go_ret
                exact ⟨ret_bool (by rw [HE.out, HQ.out, HS.out, HMT.out]; simp), hbw.trans (hb2.mono hbs)⟩
              · go_roundw
                case rel =>
                  refine ⟨i + 1, by omega, by go_num, ?_, hL.below hb2 hL.lt, hbw.trans (hb2.mono hbs)⟩
                  show _ = _
                  rw [HQ.out, HS.out, HMT.out]; simp
                case measure => simp [intOf]; omega
          · go_wp2_with fail
            go_ret
            obtain rfl : i = m := by omega
            exact ⟨ret_bool (by rw [HE.out, HQ.out, List.drop_eq_nil_of_le (by omega), mayRL]), hbw⟩
      · have HE7 : Hid (mayRT (.node 7 s n a l) false = mayRL 7 n 0 l) := HE.out
        clear HE
        have HE := HE7
        clear HE7
        show Calls Tryz.prog 50 #[.agg #[.int .i64 7, .string s, .int .i64 n, .int .i64 a, .slice A m c], .bool false] w fun e w' => e = .returned (.bool (mayRT (.node 7 s n a l) false)) ∧ Below w.heap.size w w'
        go_enter Tryz.func50, Tryz.ntmps50
        go_wp2_with fail
        refine HN.out.mono ?_
        rintro e w2 ⟨rfl, hb2⟩
        have hL2 := hL0.below hb2 (by simp)
        obtain ⟨⟨c0, c1, c2, c3, c4⟩, _⟩ := hL2.five
        go_wp2_with fail
        refine (HPP.out _).mono ?_
        rintro e w3 ⟨rfl, hb3⟩
        have hL3 := hL2.below hb3 hL2.lt
        have d3 := hL3.five.1.2.2.2.1
        have hbw3 : Below w.heap.size w w3 := (below_ac hb2).trans (hb3.mono (by have := hb2.size; simp at this; omega))
        clear hb2 hb3 hL0 hL2 c0 c1 c2 c3 c4
        go_wp2_with fail
        clear d3
        go_loopw [5] (fun x wr => ∃ i : Nat, i ≤ m ∧ x = .int .i64 i ∧ Hid (mayRL 7 n 0 l = mayRL 7 n i (l.drop i)) ∧ Lies wr w.heap.size 24 #[.int .i64 7, .string s, .int .i64 n, .int .i64 a, .slice A m c] ∧ Below w.heap.size w wr) (fun x _ => m - (intOf x).toNat)
        case atStart => exact ⟨0, by omega, rfl, by exact rfl, hL3, hbw3⟩
        case round =>
          obtain ⟨i, hi, rfl, HQ, hL, hbw⟩ := hrel
          have hbs := hbw.size
          obtain ⟨b0, b1, b2, b3, b4⟩ := hL.five.1
          by_cases hlt : i < m
          · have hia : i < l.length := by omega
            obtain ⟨g, o, A', c', ⟨hA, _⟩, d0, d1, d2, d3, d4, hIn⟩ := TIn.part (TIn.below _ HI.out hbw (Nat.le_refl _)) i hia
            subst hA
            have hm3 := depthL_mem l (l[i]'hia) (List.getElem_mem hia)
            have HS0 : Hid (mayRL 7 n i (l.drop i) = (!(decide ((7 : Int) = 8) && (decide ((i : Int) < n) && decide ((l[i]'hia).kind ≠ 1))) && (mayRT (l[i]'hia) (decide ((7 : Int) = 7) && decide (0 < i)) && mayRL 7 n (i + 1) (l.drop (i + 1))))) := by
              show _ = _
              rw [List.drop_eq_getElem_cons hia, mayRL]
            simp only [Tr.parts] at d0 d1 d2 d3 d4 hIn
            obtain ⟨tr, hu⟩ : ∃ tr, tr = l[i]'hia := ⟨_, rfl⟩
            rw [← hu] at d0 d1 d2 d3 d4 hIn hm3 HS0
            clear hu
            obtain ⟨tk, ts, tn, ta, tl⟩ := tr
            simp only [Tr.kind, Tr.name, Tr.n, Tr.place] at d0 d1 d2 d3 d4
            by_cases q1 : 0 < i
            · have q2 : (0 : Int) < (i : Int) := by omega
              have HS : Hid (mayRL 7 n i (l.drop i) = (mayRT (.node tk ts tn ta tl) true && mayRL 7 n (i + 1) (l.drop (i + 1)))) := by
                show _ = _
                rw [HS0.out]
                simp only [Tr.kind]
                simp [q1]
              cases hmt : mayRT (.node tk ts tn ta tl) true
              all_goals
                have HM := Lib.hid (ih (.node tk ts tn ta tl) A' c' true wr.drew (by omega) (TIn.below _ hIn ((Below.refl _ wr).drew) (Nat.le_refl _)))
                rw [hmt] at HM
                have HMT := Lib.hid hmt
                clear hmt
                go_wp2_with fail
                go_still_tail 12, (by kernel_rfl)
                change wpList _ _ _ _ _ wr.drew
                go_wp2_with fail
                refine HM.out.mono ?_
                rintro e w2 ⟨rfl, hb2'⟩
                have hb2 : Below wr.heap.size wr w2 := (Below.refl _ wr).drew.trans hb2'
                go_wp2_with fail
              · go_ret
                exact ⟨ret_bool (by rw [HE.out, HQ.out, HS.out, HMT.out]; simp), hbw.trans (hb2.mono hbs)⟩
              · go_roundw
                case rel =>
                  refine ⟨i + 1, by omega, by go_num, ?_, hL.below hb2 hL.lt, hbw.trans (hb2.mono hbs)⟩
                  show _ = _
                  rw [HQ.out, HS.out, HMT.out]; simp
                case measure => simp [intOf]; omega
            · have q2 : ¬ (0 : Int) < (i : Int) := by omega
              have HS : Hid (mayRL 7 n i (l.drop i) = (mayRT (.node tk ts tn ta tl) false && mayRL 7 n (i + 1) (l.drop (i + 1)))) := by
                show _ = _
                rw [HS0.out]
                simp only [Tr.kind]
                rw [decide_eq_false q1]; simp
              cases hmt : mayRT (.node tk ts tn ta tl) false
              all_goals
                have HM := Lib.hid (ih (.node tk ts tn ta tl) A' c' false wr.drew (by omega) (TIn.below _ hIn ((Below.refl _ wr).drew) (Nat.le_refl _)))
                rw [hmt] at HM
                have HMT := Lib.hid hmt
                clear hmt
                go_wp2_with fail
                go_still_tail 12, (by kernel_rfl)
                change wpList _ _ _ _ _ wr.drew
                go_wp2_with fail
                refine HM.out.mono ?_
                rintro e w2 ⟨rfl, hb2'⟩
                have hb2 : Below wr.heap.size wr w2 := (Below.refl _ wr).drew.trans hb2'
                go_wp2_with fail
              · go_ret
                exact ⟨ret_bool (by rw [HE.out, HQ.out, HS.out, HMT.out]; simp), hbw.trans (hb2.mono hbs)⟩
              · go_roundw
                case rel =>
                  refine ⟨i + 1, by omega, by go_num, ?_, hL.below hb2 hL.lt, hbw.trans (hb2.mono hbs)⟩
                  show _ = _
                  rw [HQ.out, HS.out, HMT.out]; simp
                case measure => simp [intOf]; omega
          · go_wp2_with fail
            go_ret
            obtain rfl : i = m := by omega
            exact ⟨ret_bool (by rw [HE.out, HQ.out, List.drop_eq_nil_of_le (by omega), mayRL]), hbw⟩
      · have e8 : (k == 8) = false := by simpa using q8
        have e7 : (k == 7) = false := by simpa using q7
        have Q8 := Lib.hid q8
        have Q7 := Lib.hid q7
        clear q8 q7
        have ed : decide (k = 8) = false := by simpa using Q8.out
        rw [ed] at HE ⊢
        clear ed
        go_enter Tryz.func50, Tryz.ntmps50
        go_wp2_with fail
        refine HN.out.mono ?_
        rintro e w2 ⟨rfl, hb2⟩
        have hL2 := hL0.below hb2 (by simp)
        obtain ⟨⟨c0, c1, c2, c3, c4⟩, _⟩ := hL2.five
        go_wp2_with fail
        refine (HPP.out _).mono ?_
        rintro e w3 ⟨rfl, hb3⟩
        have hL3 := hL2.below hb3 hL2.lt
        have d3 := hL3.five.1.2.2.2.1
        have hbw3 : Below w.heap.size w w3 := (below_ac hb2).trans (hb3.mono (by have := hb2.size; simp at this; omega))
        clear hb2 hb3 hL0 hL2 c0 c1 c2 c3 c4
        go_wp2_with fail
        clear d3
        go_loopw [5] (fun x wr => ∃ i : Nat, i ≤ m ∧ x = .int .i64 i ∧ Hid (mayRL k n 0 l = mayRL k n i (l.drop i)) ∧ Lies wr w.heap.size 24 #[.int .i64 k, .string s, .int .i64 n, .int .i64 a, .slice A m c] ∧ Below w.heap.size w wr) (fun x _ => m - (intOf x).toNat)
        case atStart => exact ⟨0, by omega, rfl, by exact rfl, hL3, hbw3⟩
        case round =>
          obtain ⟨i, hi, rfl, HQ, hL, hbw⟩ := hrel
          have hbs := hbw.size
          obtain ⟨b0, b1, b2, b3, b4⟩ := hL.five.1
          by_cases hlt : i < m
          · have hia : i < l.length := by omega
            obtain ⟨g, o, A', c', ⟨hA, _⟩, d0, d1, d2, d3, d4, hIn⟩ := TIn.part (TIn.below _ HI.out hbw (Nat.le_refl _)) i hia
            subst hA
            have hm3 := depthL_mem l (l[i]'hia) (List.getElem_mem hia)
            have HS0 : Hid (mayRL k n i (l.drop i) = (!(decide ((k : Int) = 8) && (decide ((i : Int) < n) && decide ((l[i]'hia).kind ≠ 1))) && (mayRT (l[i]'hia) (decide ((k : Int) = 7) && decide (0 < i)) && mayRL k n (i + 1) (l.drop (i + 1))))) := by
              show _ = _
              rw [List.drop_eq_getElem_cons hia, mayRL]
            simp only [Tr.parts] at d0 d1 d2 d3 d4 hIn
            obtain ⟨tr, hu⟩ : ∃ tr, tr = l[i]'hia := ⟨_, rfl⟩
            rw [← hu] at d0 d1 d2 d3 d4 hIn hm3 HS0
            clear hu
            obtain ⟨tk, ts, tn, ta, tl⟩ := tr
            simp only [Tr.kind, Tr.name, Tr.n, Tr.place] at d0 d1 d2 d3 d4
            have HS : Hid (mayRL k n i (l.drop i) = (mayRT (.node tk ts tn ta tl) false && mayRL k n (i + 1) (l.drop (i + 1)))) := by
              show _ = _
              rw [HS0.out]
              simp only [Tr.kind]
              simp [Q8.out, Q7.out]
            cases hmt : mayRT (.node tk ts tn ta tl) false
            all_goals
              have HM := Lib.hid (ih (.node tk ts tn ta tl) A' c' false wr.drew (by omega) (TIn.below _ hIn ((Below.refl _ wr).drew) (Nat.le_refl _)))
              rw [hmt] at HM
              have HMT := Lib.hid hmt
              clear hmt
              go_wp2_with fail
              go_still_tail 12, (by kernel_rfl)
              change wpList _ _ _ _ _ wr.drew
              go_wp2_with fail
              refine HM.out.mono ?_
              rintro e w2 ⟨rfl, hb2'⟩
              have hb2 : Below wr.heap.size wr w2 := (Below.refl _ wr).drew.trans hb2'
              go_wp2_with fail
            · go_ret
              exact ⟨ret_bool (by rw [HE.out, HQ.out, HS.out, HMT.out]; simp), hbw.trans (hb2.mono hbs)⟩
            · go_roundw
              case rel =>
                refine ⟨i + 1, by omega, by go_num, ?_, hL.below hb2 hL.lt, hbw.trans (hb2.mono hbs)⟩
                show _ = _
                rw [HQ.out, HS.out, HMT.out]; simp
              case measure => simp [intOf]; omega
          · go_wp2_with fail
            go_ret
            obtain rfl : i = m := by omega
            exact ⟨ret_bool (by rw [HE.out, HQ.out, List.drop_eq_nil_of_le (by omega), mayRL]), hbw⟩
end Lx
end Go.Proofs.YteabbkhlgnoliaaGreatDoor
namespace Go.Proofs.YteabbkhlgnoliaaGreatDoor
open Go.RowKit
namespace Lx
set_option maxRecDepth 100000
theorem TIn.mk {w : World} {X : Nat → Prop} {k n a : Int} {s : ByteArray} {l : List Tr} {A : Option Addr} (hs : s.size ≤ 140737488351232) (hl : l.length ≤ 140737488351232) (h : LIn w X l A 0) : TIn w X (.node k s n a l) A := by
  rw [TIn]; exact ⟨hs, hl, h⟩
theorem TIn.leaf {w : World} {X : Nat → Prop} {k n a : Int} {s : ByteArray} {A : Option Addr} (hs : s.size ≤ 140737488351232) : TIn w X (.node k s n a []) A :=
  TIn.mk hs (by simp) (by rw [LIn]; trivial)
theorem LIn.of_lies {w : World} {X : Nat → Prop} {l : List Tr} {xs : List Value} {g : Nat} {cs : Array Value} {t : TypeId} (h : RowTr w X l xs) (L : Lies w g t cs) (hcs : cs.toList = xs) (hg : X g) : LIn w X l (some ⟨g, 0, none⟩) 0 := by
  refine h.parts hg (fun _ hb _ => hb) fun j u hu => ?_
  rw [Nat.zero_add, L.cell j, ← hu, ← hcs, Array.getElem?_toList]
theorem LIn.one {w : World} {X : Nat → Prop} {t1 : Tr} {A1 : Option Addr} {c1 : Nat} {g : Nat} {cs : Array Value} {t : TypeId} (L : Lies w g t cs) (hcs : cs.toList = cellsT t1 A1 c1) (hg : X g) (h1 : TIn w X t1 A1) : LIn w X [t1] (some ⟨g, 0, none⟩) 0 :=
  LIn.of_lies ((RowTr.nil w X).snoc (c := c1) h1) L (by simpa using hcs) hg
theorem LIn.two {w : World} {X : Nat → Prop} {t1 t2 : Tr} {A1 A2 : Option Addr} {c1 c2 : Nat} {g : Nat} {cs : Array Value} {t : TypeId} (L : Lies w g t cs) (hcs : cs.toList = cellsT t1 A1 c1 ++ cellsT t2 A2 c2) (hg : X g) (h1 : TIn w X t1 A1) (h2 : TIn w X t2 A2) : LIn w X [t1, t2] (some ⟨g, 0, none⟩) 0 :=
  LIn.of_lies (((RowTr.nil w X).snoc (c := c1) h1).snoc (c := c2) h2) L (by simpa using hcs) hg
theorem rMay_any (t : Tr) (A : Option Addr) (c : Nat) (w : World) (hI : TIn w Any t A) :
    Calls Tryz.prog 26 #[tv t A c] w fun e w' => e = .returned (.bool (mayV t)) ∧ Below w.heap.size w w' := by
  have hE : mayRT t false = mayV t := by
    rw [may_eq]
    unfold mayV
    by_cases h : t.kind = 8 <;> simp [h]
  obtain ⟨k, s, n, a, l⟩ := t
  have HM := Lib.hid (rmay_any (depthT (.node k s n a l)) (.node k s n a l) A c false (w.alloc (.cells #[.int .i64 k, .string s, .int .i64 n, .int .i64 a, .slice A l.length (capF l.length c)] 24)) (Nat.le_refl _) (TIn.below _ hI ((Below.refl _ w).alloc (Nat.le_refl _) _) (Nat.le_refl _)))
  rw [hE] at HM
  clear hE hI
  show Calls Tryz.prog 26 #[.agg #[.int .i64 k, .string s, .int .i64 n, .int .i64 a, .slice A l.length (capF l.length c)]] w _
  go_enter Tryz.func26, Tryz.ntmps26
  go_wp2_with fail
  refine HM.out.mono ?_
  rintro e w2 ⟨rfl, hb2⟩
  go_wp2_with fail
  go_ret
  exact ⟨rfl, below_ac hb2⟩

def bx : ByteArray := ⟨#[120]⟩
def T1 : Tr := .node 2 bx 0 1 [.node 1 bx 0 3 []]
def T2 : Tr := .node 9 ⟨#[]⟩ 7 6 []
/-- A function that tells what it is told, applied to a number. -/
def T0 : Tr := .node 3 ⟨#[]⟩ 0 0 [T1, T2]
theorem LIn.shift : ∀ (l : List Tr) {w : World} {X : Nat → Prop} {g o j : Nat}, LIn w X l (some ⟨g, o, none⟩) (j + 1) → LIn w X l (some ⟨g, o + 5, none⟩) j
  | [], w, X, g, o, j, _ => by rw [LIn]; trivial
  | t :: r, w, X, g, o, j, h => by
    rw [LIn] at h ⊢
    obtain ⟨⟨g', o', A', c, ⟨e, hX⟩, h0, h1, h2, h3, h4, ht⟩, hr⟩ := h
    injection e with e
    injection e with e1 e2
    subst e1 e2
    have ho : o + 5 + j * 5 = o + (j + 1) * 5 := by omega
    exact ⟨⟨g, o + 5, A', c, ⟨rfl, hX⟩, by rw [ho]; exact h0, by rw [ho]; exact h1, by rw [ho]; exact h2, by rw [ho]; exact h3, by rw [ho]; exact h4, ht⟩, LIn.shift r hr⟩

/-- What stands all along: the law's tree, its bare one, and the table of signs. -/
structure Fx (w W : World) (g G1 G2 : Nat) (A2 : Option Addr) (c2 : Nat) : Prop where
  lt : Lies W G1 24 #[.int .i64 3, .string ⟨#[]⟩, .int .i64 0, .int .i64 0, .slice (some ⟨g, 0, none⟩) 2 2]
  lb : Lies W G2 24 #[.int .i64 3, .string ⟨#[]⟩, .int .i64 0, .int .i64 0, .slice A2 2 c2]
  t0 : TIn W Any T0 (some ⟨g, 0, none⟩)
  b0 : TIn W Any (bareT T0) A2
  sg : Signs W
  bw : Below w.heap.size w W
theorem Fx.step {w W W' : World} {g G1 G2 : Nat} {A2 : Option Addr} {c2 : Nat} (h : Fx w W g G1 G2 A2 c2) (hb : Below W.heap.size W W') : Fx w W' g G1 G2 A2 c2 :=
  ⟨h.lt.below hb h.lt.lt, h.lb.below hb h.lb.lt, TIn.below _ h.t0 hb (Nat.le_refl _), TIn.below _ h.b0 hb (Nat.le_refl _), h.sg.below hb h.sg.pos, h.bw.trans (hb.mono h.bw.size)⟩
theorem Fx.part {w W : World} {g G1 G2 : Nat} {A2 : Option Addr} {c2 : Nat} (h : Fx w W g G1 G2 A2 c2) : ∃ A' c', W.cell? ⟨g, 0, none⟩ = some (.int .i64 2) ∧ W.cell? ⟨g, 1, none⟩ = some (.string bx) ∧ W.cell? ⟨g, 2, none⟩ = some (.int .i64 0) ∧ W.cell? ⟨g, 3, none⟩ = some (.int .i64 1) ∧ W.cell? ⟨g, 4, none⟩ = some (.slice A' 1 c') ∧ TIn W Any T1 A' := by
  obtain ⟨g', o', A', c', ⟨e, _⟩, h0, h1, h2, h3, h4, ht⟩ := h.t0.part 0 (by decide)
  injection e with e
  injection e with e1 e2
  subst e1 e2
  exact ⟨A', capF 1 c', h0, h1, h2, h3, h4, ht⟩
theorem Fx.bare {w W : World} {g G1 G2 : Nat} {A2 : Option Addr} {c2 : Nat} (h : Fx w W g G1 G2 A2 c2) : ∃ g' o', A2 = some ⟨g', o', none⟩ ∧ W.cell? ⟨g', o' + 3, none⟩ = some (.int .i64 0) := by
  obtain ⟨g', o', A', c', ⟨e, _⟩, h0, h1, h2, h3, h4, ht⟩ := h.b0.part 0 (by decide)
  refine ⟨g', o', e, ?_⟩
  rw [Nat.zero_mul, Nat.add_zero] at h3
  exact h3
/-- The alternative of the second part. -/
def T8 : Tr := .node 8 ⟨#[65]⟩ 0 0 [T2]
theorem Fx.alt {w W : World} {g G1 G2 : Nat} {A2 : Option Addr} {c2 : Nat} (h : Fx w W g G1 G2 A2 c2) : TIn W Any T8 (some ⟨g, 5, none⟩) := by
  have h0 := h.t0
  unfold T0 at h0
  rw [TIn, LIn] at h0
  have h1 := LIn.shift _ h0.2.2.2
  rw [Nat.zero_add] at h1
  exact TIn.mk (by decide) (by decide) h1
end Lx
end Go.Proofs.YteabbkhlgnoliaaGreatDoor
namespace Go.Proofs.YteabbkhlgnoliaaGreatDoor
open Go.RowKit
namespace Lx
set_option maxRecDepth 100000
section
variable {H : Type} {enc : TypeId × Value → H}
theorem cT5 : Tryz.prog.cellsOf 24 = 5 := by kernel_rfl
theorem bT64 : Tryz.prog.bytesOf 24 = 64 := by kernel_rfl
theorem c3_1 : Tryz.prog.cellsOf 3 = 1 := by kernel_rfl
theorem c9_1 : Tryz.prog.cellsOf 9 = 1 := by kernel_rfl
theorem cL1 : Tryz.prog.cellsOf 22 = 1 := by kernel_rfl
theorem cells?_get {w : World} {base : Nat} {a : Addr} {n : Nat} {cs : List Value} (h : w.cells? base a n = some cs) : ∀ j, j < n → w.cell? (a.add j) = cs[j]? := (World.cells?_some h).2.2
/-- The five cells of a tree's reading. -/
theorem open_parts {W : World} {base : Nat} {sp : Nat → Bool} {hd : Bool} {fuel : Nat} {cs : List Value} {x : DataW H × List MemPlace} (h : DataW.trod enc Tryz.prog W base sp hd fuel 24 cs = some x) :
    ∃ (k : Int) (s : ByteArray) (n a : Int) (v : Value) (m : Nat) (y : DataW H × List MemPlace), fuel = m + 1 ∧ cs = [.int .i64 k, .string s, .int .i64 n, .int .i64 a, v] ∧ DataW.trod enc Tryz.prog W base sp hd m 22 [v] = some y ∧
      x = (.agg [.lit (.int .i64 k), .lit (.string s.data.toList), .lit (.int .i64 n), .lit (.int .i64 a), y.1], y.2) := by
  obtain ⟨xs, m, e, hx, hl, hlen, hf⟩ := DataW.trod_struct Tryz.underlying24 h
  rw [cT5] at hl
  match cs, hl with
  | [c0, c1, c2, c3, c4], _ =>
  match xs, hlen with
  | [x0, x1, x2, x3, x4], _ =>
  have h0 := hf 0 { name := "Kind", type := 3, offset := 0, embedded := false, tag := "", pkgPath := "", byteOffset := 0 } rfl
  have h1 := hf 1 { name := "Name", type := 9, offset := 1, embedded := false, tag := "", pkgPath := "", byteOffset := 8 } rfl
  have h2 := hf 2 { name := "N", type := 3, offset := 2, embedded := false, tag := "", pkgPath := "", byteOffset := 24 } rfl
  have h3 := hf 3 { name := "At", type := 3, offset := 3, embedded := false, tag := "", pkgPath := "", byteOffset := 32 } rfl
  have h4 := hf 4 { name := "L", type := 22, offset := 4, embedded := false, tag := "", pkgPath := "", byteOffset := 40 } rfl
  dsimp only at h0 h1 h2 h3 h4
  rw [c3_1] at h0 h2 h3
  rw [c9_1] at h1
  rw [cL1] at h4
  dsimp at h0 h1 h2 h3 h4
  obtain ⟨k, e0, y0, _⟩ := DataW.trod_int Tryz.underlying3 h0
  obtain ⟨s, e1, y1, _⟩ := DataW.trod_string Tryz.underlying9 h1
  obtain ⟨n, e2, y2, _⟩ := DataW.trod_int Tryz.underlying3 h2
  obtain ⟨a, e3, y3, _⟩ := DataW.trod_int Tryz.underlying3 h3
  obtain rfl := (List.cons.inj e0).1
  obtain rfl := (List.cons.inj e1).1
  obtain rfl := (List.cons.inj e2).1
  obtain rfl := (List.cons.inj e3).1
  subst y0 y1 y2 y3
  refine ⟨k, s, n, a, c4, m, x4, e, rfl, ?_, ?_⟩
  · exact h4
  · rw [hx]; simp
theorem row_of {Q : Nat → Tr → Prop} : ∀ (n : Nat), (∀ i, i < n → ∃ t, Q i t) → ∃ l : List Tr, l.length = n ∧ ∀ (i : Nat) (hi : i < l.length), Q i (l[i]'hi)
  | 0, _ => ⟨[], rfl, fun i hi => by simp at hi⟩
  | n + 1, h => by
    obtain ⟨l, hl, hq⟩ := row_of n fun i hi => h i (by omega)
    obtain ⟨t, ht⟩ := h n (by omega)
    refine ⟨l ++ [t], by simp [hl], fun i hi => ?_⟩
    rcases Nat.lt_or_ge i l.length with hlt | hge
    · rw [List.getElem_append_left hlt]; exact hq i hlt
    · have e : i = n := by simp at hi; omega
      subst e
      rw [List.getElem_append_right (by omega)]
      simpa [hl] using ht
theorem spot_none {w : World} {a : Addr} {v : Value} (h : w.cell? a = some v) : a.spot = none := by
  unfold World.cell? at h
  split at h
  · split at h
    · cases h
    · rename_i hs; simpa using hs
  · cases h
theorem weightsAll_mem {P : Program} {e : TypeId} : ∀ (L : List (DataW H)) (d : DataW H), d ∈ L → ∀ q ∈ DataW.weights P e d, q ∈ DataW.weightsAll P e L
  | [], d, h, _, _ => by cases h
  | a :: r, d, h, q, hq => by
    rw [DataW.weightsAll, List.mem_append]
    rcases List.mem_cons.1 h with rfl | h
    · exact .inl hq
    · exact .inr (weightsAll_mem r d h q hq)
/-- What reads as a tree is one. -/
theorem open_tree {W : World} {base : Nat} {sp : Nat → Bool} {hd : Bool} : ∀ (N fuel : Nat), fuel ≤ N → ∀ {cs : List Value} {x : DataW H × List MemPlace}, DataW.trod enc Tryz.prog W base sp hd fuel 24 cs = some x →
    (∀ k ∈ DataW.weights Tryz.prog 24 x.1, k ≤ reachBytes) → ∃ t A c, cs = cellsT t A c ∧ TIn W Any t A := by
  intro N
  induction N with
  | zero => intro fuel hf cs x h; obtain ⟨_, _, _, _, _, m, _, e, _⟩ := open_parts h; omega
  | succ N ih =>
    intro fuel hf cs x h hw
    obtain ⟨k, s, n, a, v, m, y, e, rfl, hv, rfl⟩ := open_parts h
    have hwv : ∀ q ∈ DataW.weights Tryz.prog 22 y.1, q ≤ reachBytes := fun q hq => hw q (by
      rw [DataW.weights, Tryz.underlying24]
      simp [DataW.weightsEach, DataW.weights, hq])
    have hs : s.size ≤ 140737488351232 := by
      have := hw s.data.toList.length (by
        rw [DataW.weights, Tryz.underlying24]
        simp [DataW.weightsEach, DataW.weights])
      simpa [reachBytes] using this
    rcases DataW.trod_slice Tryz.underlying22 hv with ⟨e1, rfl⟩ | ⟨p, len, cap, elems, rest, m', em, e1, rfl, hb, hl, hm, hlen, hel, _, _⟩
    · obtain rfl := (List.cons.inj e1).1
      exact ⟨.node k s n a [], none, 0, rfl, TIn.leaf hs⟩
    · obtain rfl := (List.cons.inj e1).1
      have hwe : ∀ (i : Nat) (y' : DataW H × List MemPlace), elems[i]? = some y' → ∀ q ∈ DataW.weights Tryz.prog 24 y'.1, q ≤ reachBytes := fun i y' hy q hq => hwv q (by
        rw [DataW.weights, Tryz.underlying22]
        have := weightsAll_mem (elems.map (·.1)) y'.1 (List.mem_map_of_mem (List.mem_of_getElem? hy)) q hq
        simp [this])
      have hlen' : len ≤ 140737488351232 := by
        have := hwv ((elems.length + rest.length) * 64) (by
          rw [DataW.weights, Tryz.underlying22]
          simp [bT64])
        have : (elems.length + rest.length) * 64 ≤ 140737488351232 := this
        omega
      obtain ⟨l, hll, hq⟩ := row_of (Q := fun i t => ∃ A c, W.cells? base (p.add (i * 5)) 5 = some (cellsT t A c) ∧ TIn W Any t A) len fun i hi => by
        have h1 := hel i hi
        rw [cT5] at h1
        obtain ⟨y', hy'⟩ : ∃ y', elems[i]? = some y' := ⟨_, List.getElem?_eq_getElem (by omega)⟩
        rw [hy', Option.bind_eq_some_iff] at h1
        obtain ⟨cs', hc', ht'⟩ := h1
        obtain ⟨t, A, c, rfl, hT⟩ := ih m' (by omega) ht' (hwe i y' hy')
        exact ⟨t, A, c, hc', hT⟩
      subst hll
      refine ⟨.node k s n a l, some p, cap, (by simp only [cellsT, Tr.kind, Tr.name, Tr.n, Tr.place, Tr.parts]; rw [capF_of hl]), TIn.mk hs hlen' ?_⟩
      cases l with
      | nil => trivial
      | cons t0 r =>
        have hps : p.spot = none := by
          obtain ⟨A, c, hc, _⟩ := hq 0 (by simp)
          have := cells?_get hc 0 (by omega)
          have := spot_none (this.trans (rfl : (cellsT _ _ _)[0]? = some _))
          simpa [Addr.add] using this
        obtain ⟨pb, po, ps⟩ := p
        dsimp only at hps
        subst hps
        refine LIn.mk (t0 :: r) 0 fun i hi => ?_
        obtain ⟨A, c, hc, hT⟩ := hq i hi
        have hcell : ∀ j, j < 5 → W.cell? ⟨pb, po + i * 5 + j, none⟩ = (cellsT ((t0 :: r)[i]'hi) A c)[j]? := fun j hj => by
          have ea : ((⟨pb, po, none⟩ : Addr).add (i * 5)).add j = ⟨pb, po + i * 5 + j, none⟩ := by
            by_cases hi0 : i * 5 = 0 <;> by_cases hj0 : j = 0 <;> simp [Addr.add, hi0, hj0]
          rw [← cells?_get hc j hj, ea]
        rw [Nat.zero_add]
        exact ⟨pb, po, A, c, ⟨rfl, trivial⟩, hcell 0 (by omega), hcell 1 (by omega), hcell 2 (by omega), hcell 3 (by omega), hcell 4 (by omega), hT⟩
end
end Lx
end Go.Proofs.YteabbkhlgnoliaaGreatDoor
namespace Go.Proofs.YteabbkhlgnoliaaGreatDoor
open Go.ChangeShapes Go.WideShapes Go.ChangeAt Go.RowKit
namespace Lx
set_option maxRecDepth 100000
section
variable {H : Type} {enc : TypeId × Value → H}
/-- The end of a row without variables whose call left all that was there as it was. -/
theorem post_left {P : Program} {f : Func} {s : ChangeSpec} {apart fresh handsOn again : Bool} {W W' : World} {args : Array Value} {v : Value} {ds : List (DataW H)} {before : List MemPlace}
    (hW : DataW.Whole enc P f.params.toList s.vars apart W args.toList ds [] before)
    (hres : ∀ (b : Nat) (sp : Nat → Bool) (hd : Bool), DataW.TrodAll enc P W' b sp hd f.resultTypes.toList (v.resultList f.resultTypes.size) (s.fn H (ds ++ [])).results [])
    (hargs : ∀ sp : Nat → Bool, (∀ p ∈ before, sp p.block = true) → DataW.TrodAll enc P W' 0 sp true f.params.toList args.toList (s.fn H (ds ++ [])).args before)
    (hvars : ∀ sp : Nat → Bool, DataW.TrodVars enc P W' sp s.vars (s.fn H (ds ++ [])).vars [])
    (hb : Below W.heap.size W W')
    (hok : ∀ (j : Nat) (t : TypeId) (r : Value), f.resultTypes[j]? = some t → (v.resultList f.resultTypes.size)[j]? = some r → Value.okWide P W' .any 0 t r) :
    s.post enc P f apart fresh handsOn again W args v W' := by
  have hlt : ∀ p ∈ before, p.block < W.heap.size := fun p hp => hW.lt p hp
  refine ⟨ds, [], before, [], before, [], hW, hres _ _ _, hargs _ (fun p hp => by simpa using hlt p hp), hvars _, World.keptBut_mono (fun p hp => ⟨hp, .inr (.inl hp)⟩) (hb.frame (· ∈ before)), fun _ => ?_⟩
  obtain ⟨_, _, _, _, _, hz, hn⟩ := hW
  refine ⟨hok, _, _, ([] ++ before) ++ [], ⟨[] ++ before, [], trodAll_append (hargs _ (fun _ _ => rfl)) (hres _ _ _), hvars _, rfl, ?_, ?_⟩, ?_⟩
  · intro b off hp
    have hin : MemPlace.cell b off ∈ before := by simpa using hp
    rw [hb.frozen (hlt _ hin)]
    exact hz b off hin
  · intro ha
    simpa using hn ha
  · intro p hp _
    simpa using hp
/-- A tree among the arguments. -/
theorem tree_arg {W : World} {base b0 : Nat} {sp : Nat → Bool} {hd : Bool} {v : Value} {d : DataW H} {ps : List MemPlace} (hval : Value.okWide Tryz.prog W .any b0 24 v)
    (h : DataW.Trod enc Tryz.prog W base sp hd 24 v d ps) (hw : ∀ k ∈ DataW.weights Tryz.prog 24 d, k ≤ reachBytes) : ∃ t A c, v = tv t A c ∧ TIn W Any t A := by
  obtain ⟨cs, rfl, _⟩ := okWide_struct Tryz.underlying24 hval
  obtain ⟨fuel, hf⟩ := h
  obtain ⟨t, A, c, hcs, hT⟩ := open_tree fuel fuel (Nat.le_refl _) hf hw
  refine ⟨t, A, c, ?_, hT⟩
  have : cs = #[.int .i64 t.kind, .string t.name, .int .i64 t.n, .int .i64 t.place, .slice A t.parts.length (capF t.parts.length c)] := Array.ext' hcs
  rw [this]
  rfl
/-- It reads behind the call as it read before. -/
theorem tree_again {W W' : World} {v : Value} {d : DataW H} {ps : List MemPlace} (h : DataW.Trod enc Tryz.prog W 0 (fun _ => true) true 24 v d ps) (hb : Below W.heap.size W W') (hlt : ∀ x ∈ ps, x.block < W.heap.size)
    {sp : Nat → Bool} (hs : ∀ x ∈ ps, sp x.block = true) : DataW.Trod enc Tryz.prog W' 0 sp true 24 v d ps :=
  WideElems.Trod_stays (by kernel_rfl) (by kernel_rfl) (of_decide_eq_true (by kernel_rfl)) h (fun x hx => hb.same (hlt x hx)) hs
end
end Lx
end Go.Proofs.YteabbkhlgnoliaaGreatDoor
namespace Go.Proofs.YteabbkhlgnoliaaGreatDoor
open Go.RowKit
namespace Lx
set_option maxRecDepth 100000
set_option maxHeartbeats 1000000 in
theorem few_stop (k n a L D : Int) (s : ByteArray) (A : Option Addr) (m c : Nat) (w : World) (h : L < 1 ∨ D < 1) :
    Calls Tryz.prog 30 #[.agg #[.int .i64 k, .string s, .int .i64 n, .int .i64 a, .slice A m c], .int .i64 L, .int .i64 D] w fun e w' => e = .returned (.int .i64 (-1)) ∧ Below w.heap.size w w' := by
  have hb : Below w.heap.size w (w.alloc (.cells #[.int .i64 k, .string s, .int .i64 n, .int .i64 a, .slice A m c] 24)) := (Below.refl _ w).alloc (Nat.le_refl _) _
  by_cases h1 : L < 1
  · clear h
    go_enter Tryz.func30, Tryz.ntmps30
    go_wp2_with fail
    go_ret
    exact ⟨rfl, hb⟩
  · have h2 : D < 1 := h.resolve_left h1
    clear h
    go_enter Tryz.func30, Tryz.ntmps30
    go_wp2_with fail
    go_ret
    exact ⟨rfl, hb⟩

set_option maxHeartbeats 1000000 in
theorem few_any (d : Nat) : ∀ (t : Tr) (A : Option Addr) (c : Nat) (L D : Int) (w : World), depthT t ≤ d → TIn w Any t A → -1000 ≤ L → L ≤ 100000 → -1000 ≤ D → D ≤ 1000 →
    Calls Tryz.prog 30 #[tv t A c, .int .i64 L, .int .i64 D] w fun e w' => e = .returned (.int .i64 (fewT t L D)) ∧ Below w.heap.size w w' := by
  induction d with
  | zero => intro t A c _ _ w h; have := depth_pos t; omega
  | succ d ih =>
    intro t A c L D w hd hI hL1 hL2 hD1 hD2
    obtain ⟨k, s, n, a, l⟩ := t
    have hdL : depthL l ≤ d := by rw [depthT] at hd; omega
    have hlen : l.length ≤ 140737488351232 := by rw [TIn] at hI; exact hI.2.1
    have HI := Lib.hid hI
    clear hI hd
    show Calls Tryz.prog 30 #[.agg #[.int .i64 k, .string s, .int .i64 n, .int .i64 a, .slice A l.length (capF l.length c)], .int .i64 L, .int .i64 D] w _
    generalize capF l.length c = c
    by_cases hst : L < 1 ∨ D < 1
    · refine (few_stop k n a L D s A _ c w hst).mono ?_
      rintro e w' ⟨rfl, hb⟩
      exact ⟨ret_int (by rw [fewT, if_pos hst]), hb⟩
    · have hL3 : ¬ L < 1 := fun h => hst (.inl h)
      have hD3 : ¬ D < 1 := fun h => hst (.inr h)
      have HE : Hid (fewT (.node k s n a l) L D = fewL l (L - 1) (D - 1)) := by
        show _ = _
        rw [fewT, if_neg hst]
      clear hst
      obtain ⟨m, hm⟩ : ∃ m, m = l.length := ⟨_, rfl⟩
      rw [← hm] at hlen ⊢
      have hm1 : m ≤ l.length := by omega
      have hm2 : l.length ≤ m := by omega
      clear hm
      go_enter Tryz.func30, Tryz.ntmps30
      go_wp2_with fail
      go_loopw [1, 7] (fun v x wr => ∃ (i : Nat) (F : Int), i ≤ m ∧ x = .int .i64 i ∧ v = .int .i64 F ∧ 0 ≤ F ∧ F ≤ 100000 ∧ Hid (fewL l (L - 1) (D - 1) = fewL (l.drop i) F (D - 1)) ∧ Below (w.heap.size + 1) (w.alloc (.cells #[.int .i64 k, .string s, .int .i64 n, .int .i64 a, .slice A m c] 24)) wr) (fun _ x _ => m - (intOf x).toNat)
      case atStart => exact ⟨0, L - 1, by omega, rfl, rfl, by omega, by omega, by exact rfl, Below.refl _ _⟩
      case round =>
        obtain ⟨i, F, hi, rfl, rfl, hF1, hF2, HQ, hbx⟩ := hrel
        have hbw : Below w.heap.size w wr := below_ac (by simpa using hbx)
        have c4 := ((Lies.new w 24 #[.int .i64 k, .string s, .int .i64 n, .int .i64 a, .slice A m c]).below hbx (by omega)).cell 4
        have hbxs := hbx.size
        simp at c4 hbxs
        by_cases hlt : i < m
        · have hia : i < l.length := by omega
          obtain ⟨g, o, A', c', ⟨hA, _⟩, d0, d1, d2, d3, d4, hIn⟩ := TIn.part (TIn.below _ HI.out hbw (Nat.le_refl _)) i hia
          subst hA
          have hm3 := depthL_mem l (l[i]'hia) (List.getElem_mem hia)
          have HS : Hid (fewL (l.drop i) F (D - 1) = if fewT (l[i]'hia) F (D - 1) < 0 then -1 else fewL (l.drop (i + 1)) (fewT (l[i]'hia) F (D - 1)) (D - 1)) := by
            show _ = _
            rw [List.drop_eq_getElem_cons hia, fewL]
          have hfs := few_size (l[i]'hia) F (D - 1)
          simp only [Tr.parts] at d0 d1 d2 d3 d4 hIn
          obtain ⟨tr, hu⟩ : ∃ tr, tr = l[i]'hia := ⟨_, rfl⟩
          rw [← hu] at d0 d1 d2 d3 d4 hIn hm3 HS hfs
          clear hu
          obtain ⟨tk, ts, tn, ta, tl⟩ := tr
          simp only [Tr.kind, Tr.name, Tr.n, Tr.place] at d0 d1 d2 d3 d4
          obtain ⟨G, hG⟩ : ∃ G, G = fewT (.node tk ts tn ta tl) F (D - 1) := ⟨_, rfl⟩
          rw [← hG] at HS hfs
          have hih := ih (.node tk ts tn ta tl) A' c' F (D - 1) wr (by omega) hIn (by omega) (by omega) (by omega) (by omega)
          rw [← hG] at hih
          have HG := Lib.hid hG
          have HIH := Lib.hid hih
          have HFS := Lib.hid hfs
          clear hG hih hfs
          by_cases hneg : G < 0
          · go_wp2_with fail
            refine HIH.out.mono ?_
            rintro e w2 ⟨rfl, hb2⟩
            go_wp2_with fail
            go_ret
            refine ⟨ret_int ?_, hbw.trans (hb2.mono (by omega))⟩
            rw [HE.out, HQ.out, HS.out, if_pos hneg]
          · go_wp2_with fail
            refine HIH.out.mono ?_
            rintro e w2 ⟨rfl, hb2⟩
            go_wp2_with fail
            go_roundw
            case rel =>
              have h1 := HFS.out (by omega)
              refine ⟨i + 1, G, by omega, by go_num, rfl, by omega, by omega, ?_, hbx.trans (hb2.mono (by omega))⟩
              show _ = _
              rw [HQ.out, HS.out, if_neg (by omega)]
            case measure => simp [intOf]; omega
        · go_wp2_with fail
          go_ret
          obtain rfl : i = m := by omega
          refine ⟨ret_int ?_, hbw⟩
          rw [HE.out, HQ.out, List.drop_eq_nil_of_le (by omega), fewL]

theorem tsmall_any (t : Tr) (A : Option Addr) (c : Nat) (L : Int) (w : World) (hI : TIn w Any t A) (hL1 : 0 ≤ L) (hL2 : L ≤ 100000) :
    Calls Tryz.prog 9 #[tv t A c, .int .i64 L] w fun e w' => e = .returned (.bool (decide (0 ≤ fewT t L 200))) ∧ Below w.heap.size w w' := by
  obtain ⟨k, s, n, a, l⟩ := t
  have hF := few_any (depthT (.node k s n a l)) (.node k s n a l) A c L 200 (w.alloc (.cells #[.int .i64 k, .string s, .int .i64 n, .int .i64 a, .slice A l.length (capF l.length c)] 24)) (Nat.le_refl _)
    (TIn.below _ hI ((Below.refl _ w).alloc (Nat.le_refl _) _) (Nat.le_refl _)) (by omega) hL2 (by omega) (by omega)
  have HF := Lib.hid hF
  clear hF hI
  show Calls Tryz.prog 9 #[.agg #[.int .i64 k, .string s, .int .i64 n, .int .i64 a, .slice A l.length (capF l.length c)], .int .i64 L] w _
  go_enter Tryz.func9, Tryz.ntmps9
  go_wp2_with fail
  refine HF.out.mono ?_
  rintro e w2 ⟨rfl, hb2⟩
  go_wp2_with fail
  go_ret
  exact ⟨rfl, below_ac hb2⟩
end Lx
end Go.Proofs.YteabbkhlgnoliaaGreatDoor
namespace Go.Proofs.YteabbkhlgnoliaaGreatDoor
open Go.RowKit
namespace Lx
set_option maxRecDepth 100000
theorem str_ne {s t : ByteArray} (h : s ≠ t) : ¬ s.toList = t.toList := by
  intro e
  rw [data_list, data_list] at e
  apply h
  obtain ⟨⟨a⟩⟩ := s
  obtain ⟨⟨b⟩⟩ := t
  simp at e
  rw [e]
end Lx
end Go.Proofs.YteabbkhlgnoliaaGreatDoor
namespace Go.Proofs.YteabbkhlgnoliaaGreatDoor
open Go.RowKit
namespace Lx
set_option maxRecDepth 100000
/-- Where the blanks end. -/
def blkEnd (l : List UInt8) (k : Nat) : Nat := k + run blkR (l.drop k)
theorem blkEnd_le (l : List UInt8) (k : Nat) (h : k ≤ l.length) : blkEnd l k ≤ l.length := by
  have := run_le blkR (l.drop k)
  rw [List.length_drop] at this
  unfold blkEnd
  omega
theorem blkEnd_step {l : List UInt8} {k : Nat} {c : UInt8} {r : List UInt8} (h : l.drop k = c :: r) (hr : l.drop (k + 1) = r) (hc : blkR (c.toNat : Int) = true) : blkEnd l k = blkEnd l (k + 1) := by
  unfold blkEnd
  rw [h, hr, run]
  simp [hc]
  omega
theorem blkEnd_stop {l : List UInt8} {k : Nat} {c : UInt8} {r : List UInt8} (h : l.drop k = c :: r) (hc : blkR (c.toNat : Int) = false) : blkEnd l k = k := by
  unfold blkEnd
  rw [h, run]
  simp [hc]
theorem cls_blank (c : UInt8) : (clsV (c.toNat : Int) == 4) = blkR (c.toNat : Int) := by
  have := c.toNat_lt
  unfold clsV
  cases h1 : lowR (c.toNat : Int)
  · cases h2 : upR (c.toNat : Int)
    · cases h3 : digR (c.toNat : Int)
      · cases h4 : blkR (c.toNat : Int) <;> simp
      · have h4 : blkR (c.toNat : Int) = false := by simp [digR] at h3; simp [blkR]; omega
        simp [h4]
    · have h4 : blkR (c.toNat : Int) = false := by simp [upR] at h2; simp [blkR]; omega
      simp [h4]
  · have h4 : blkR (c.toNat : Int) = false := by simp [lowR] at h1; simp [blkR]; omega
    simp [h4]
theorem res_three {fn : Func} {p q r : Tmp} (h : fn.results = #[.tmp p, .tmp q, .tmp r]) {tmps : Array Value} {x y z : Value} (hp : tmps.getD p undef = x) (hq : tmps.getD q undef = y) (hr : tmps.getD r undef = z) {w : World} :
    (results fn tmps).run Tryz.prog w = .ok (.tuple #[x, y, z]) w := by
  subst hp hq hr
  simp only [results, h]
  simp
/-- What R.All answers. -/
def RAllPost (w : World) (r : Except (Int × Int) (List Tok)) (e : Ending) (w' : World) : Prop :=
  (∀ ts, r = .ok ts → ∃ A c, e = .returned (.tuple #[.slice A ts.length c, .int .i64 0, .int .i64 0]) ∧ Row w' A ts) ∧
  (∀ p x, r = .error (p, x) → e = .returned (.tuple #[.slice none 0 0, .int .i64 p, .int .i64 x])) ∧ Below w.heap.size w w'
set_option maxHeartbeats 4000000 in
theorem rall_any (s : ByteArray) (w : World) (hs : s.size ≤ 60000) :
    Calls Tryz.prog 38 #[.string s] w fun e w' => RAllPost w (allK s.data.toList) e w' := by
  have hl0 := Lib.hid (Lib.size_eq s)
  go_enter Tryz.func38, Tryz.ntmps38
  go_wp2_with fail
  go_loopw [5, 6] (fun v a wr => ∃ (k f : Nat) (acc : List Tok), k ≤ s.size ∧ a = .int .i64 k ∧ s.size < blkEnd s.data.toList k + f ∧ acc.length ≤ k ∧ wr.ownsRow w.heap.size 68 4 v acc.length (cellsOf acc) ∧ Below w.heap.size w wr ∧ Hid (allK s.data.toList = glue acc (scan f (s.data.toList.drop (blkEnd s.data.toList k)) (blkEnd s.data.toList k)))) (fun _ a _ => s.size - (intOf a).toNat)
  case atStart =>
    refine ⟨0, s.size + 1, [], by omega, rfl, by omega, by simp, World.ownsRow_made w #[] 0 (Nat.le_refl _) (by simp [maxLen]) rfl, (Below.refl _ w).alloc (Nat.le_refl _) _, ?_⟩
    show allK s.data.toList = _
    have e : blkEnd s.data.toList 0 = run blkR s.data.toList := by simp [blkEnd]
    unfold allK
    rw [e, ← hl0.out]
    cases scan (s.size + 1) (s.data.toList.drop (run blkR s.data.toList)) (run blkR s.data.toList) <;> simp [glue]
  case round =>
    obtain ⟨k, f, acc, hk, rfl, hf, ha, hown, hbw, HS⟩ := hrel
    have hbs := hbw.size
    by_cases hlt : k < s.size
    · have hlen : k < s.data.toList.length := by simpa using hlt
      have hb : s.data.toList[k]'hlen = s[k]'hlt := by simp [ByteArray.getElem_eq_getElem_data]
      have hD := List.drop_eq_getElem_cons hlen
      rw [hb] at hD
      obtain ⟨c, hc⟩ : ∃ c, s[k]'hlt = c := ⟨_, rfl⟩
      rw [hc] at hD
      have HC := fun w => Lib.hid (class_any (c.toNat : Int) w (u8_bd c).1 (u8_bd c).2)
      have HCB := Lib.hid (cls_blank c)
      obtain ⟨v0, hv0⟩ : ∃ v, v = clsV (c.toNat : Int) := ⟨_, rfl⟩
      rw [← hv0] at HC HCB
      clear hv0
      cases hbk : blkR (c.toNat : Int) with
      | true =>
        have hv4 : (v0 == 4) = true := by rw [HCB.out, hbk]
        have HE := Lib.hid (blkEnd_step hD rfl hbk)
        clear hbk
        go_wp2_with fail
        refine (HC _).out.mono ?_
        rintro e w2 ⟨rfl, rfl⟩
        go_wp2_with fail
        go_roundw
        case rel => exact ⟨k + 1, f, acc, by omega, by go_num, by rw [← HE.out]; exact hf, by omega, hown, hbw, by rw [← HE.out]; exact HS⟩
        case measure => simp [intOf]; omega
      | false =>
        have hv4 : (v0 == 4) = false := by rw [HCB.out, hbk]
        have hE := blkEnd_stop hD hbk
        rw [hE] at hf HS
        clear hbk hE
        obtain ⟨f, rfl⟩ : ∃ f', f = f' + 1 := ⟨f - 1, by omega⟩
        have HO := fun w => Lib.hid (one_both s k w hlt (by omega))
        cases htk : tokK (s.data.toList.drop k) with
        | error x =>
          have hx0 : (x == 0) = false := by rcases tokK_err htk with rfl | rfl <;> rfl
          have HE := Lib.hid (scan_bad (f := f) (k := k) (by intro e; have := congrArg List.length e; simp at this; omega) htk)
          have HT := Lib.hid htk
          clear htk
          go_wp2_with fail
          refine (HC _).out.mono ?_
          rintro e w2 ⟨rfl, rfl⟩
          go_wp2_with fail
          refine (HO _).out.mono ?_
          rintro e w2 ⟨_, he, hb2⟩
          obtain rfl := he x HT.out
          unfold noTokR
          go_wp2_with fail
          refine bodyPost_ret (res_three (p := 2) (q := 3) (r := 4) Tryz.results38 rfl rfl rfl) rfl ?_
          refine ⟨fun ts h => ?_, fun p y h => ?_, (hbw.trans (hb2.mono hbs)).alloc (Nat.le_trans hbs hb2.size) _⟩
          · rw [HS.out, HE.out] at h; cases h
          · rw [HS.out, HE.out] at h
            simp only [glue, Except.error.injEq, Prod.mk.injEq] at h
            rw [← h.1, ← h.2]
            try rfl
        | ok r =>
          obtain ⟨kd, n, t⟩ := r
          have hst := scan_step (l := s.data.toList) (by rw [← hl0.out]; exact hlt) (by rw [← hl0.out]; omega) ha htk HS.out
          rw [← hl0.out] at hst
          obtain ⟨s1, s2, s3, s4, s5⟩ := hst
          have HS5 := Lib.hid s5
          have ht1 := (tok_text htk).1
          have ht2 := (tok_text htk).2.1
          rw [List.length_drop, ← hl0.out] at ht2
          have HT := Lib.hid htk
          clear htk s5 HS
          go_wp2_with fail
          refine (HC _).out.mono ?_
          rintro e w2 ⟨rfl, rfl⟩
          go_wp2_with fail
          refine (HO _).out.mono ?_
          rintro e w2 ⟨he, _, hb2⟩
          obtain rfl := he kd n t HT.out
          unfold tokR
          have hown2 := own_below hown hb2 (Nat.le_refl _)
          have hsz2 := hb2.size
          obtain ⟨i0, hi, hz0, hz1, hz2⟩ := info_parts info33
          clear HC HCB HO hD hc hb
          go_wp2_with (at_builtin; refine wpList_append_own _ rfl _ _ 58 rfl w.heap.size 68 i0 _ 4 40 Tryz.underlying58 hi hz0 hz1 hz2 rfl (by decide) _ _ _ rfl ((hown2.alloc _).alloc _) ⟨w2.heap.size + 1, 0, none⟩ 1 1 [.int .i64 kd, .string ⟨t.toArray⟩, .int .i64 n, .int .i64 k] rfl rfl ?c1 ?c2 ?c3 ?c4 ?c5 ?_)
          case c1 => exact new_cells _ 68 [.int .i64 kd, .string ⟨t.toArray⟩, .int .i64 n, .int .i64 k] _ (by simp)
          case c2 => intro u hu; simp at hu; rcases hu with rfl | rfl | rfl | rfl <;> rfl
          case c3 => simp only [maxLen]; omega
          case c4 => omega
          case c5 => simp; omega
          intro v' w3 hown3 hg3 _
          have hL : Lies w3 w2.heap.size 68 #[.int .i64 kd, .string ⟨t.toArray⟩, .int .i64 n, .int .i64 k] :=
            ((Lies.new w2 68 _).old _).grown hg3 (fun e => by have := hown2.lt _ e.symm; omega)
          have hB3 : Below w.heap.size w w3 := ((((hbw.trans (hb2.mono hbs)).alloc (by omega) _).alloc (by simp; omega) _)).grown hg3 (by simp; omega) (fun q hq => (hown2.lt q hq).1)
          clear hi hz0 hz1 hz2 hg3 hown2
          obtain ⟨⟨_, c1, _, _⟩, _⟩ := hL.four
          go_wp2_with fail
          go_roundw
          case rel =>
            refine ⟨k + t.length, f, acc ++ [⟨kd, t, n, k⟩], by omega, by go_num, s3, by simp; omega, ?_, hB3, HS5⟩
            rw [cellsOf_snoc, List.length_append]
            exact hown3
          case measure => simp [intOf]; omega
    · go_wp2_with fail
      refine bodyPost_ret (res_three (p := 2) (q := 3) (r := 4) Tryz.results38 rfl rfl rfl) rfl ?_
      have hkk : k = s.size := by omega
      have hE : blkEnd s.data.toList k = k := by
        unfold blkEnd
        rw [List.drop_eq_nil_of_le (by rw [← hl0.out]; omega)]
        rfl
      have hH := HS.out
      rw [hE, List.drop_eq_nil_of_le (by rw [← hl0.out]; omega), scan_end] at hH
      simp only [glue, List.append_nil] at hH
      refine ⟨fun ts h => ?_, fun p x h => ?_, hbw⟩
      · rw [hH] at h
        cases h
        obtain ⟨A, c, rfl⟩ := own_slice hown
        exact ⟨A, c, rfl, Row.of_own hown⟩
      · rw [hH] at h; cases h
end Lx
end Go.Proofs.YteabbkhlgnoliaaGreatDoor
