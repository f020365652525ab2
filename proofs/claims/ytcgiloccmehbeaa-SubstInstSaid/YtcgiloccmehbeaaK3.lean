/-
  Texts that lie one behind the other: Tr Tin HeldK OwnLe Ref RefRun RefSign RefOne Name Depth RefTok.
-/
import Derived.Test.YtcgiloccmehbeaaK1
import Derived.Test.YtcgiloccmehbeaaProg
import Derived.WalkKit
import Derived.Deep.RegionHeld
import Derived.OwnWalk
import Derived.Deep.QuietTactic
import Derived.BigQuiet
import Derived.Deep.RegionHeld3
import Derived.Deep.DrawnRows
namespace Go.Proofs.Ytcgiloccmehbeaa
namespace Lx
set_option maxRecDepth 100000

inductive Tr where
  | node (kind : Int) (name : ByteArray) (n : Int) (place : Int) (l : List Tr)

def Tr.kind : Tr → Int | .node k _ _ _ _ => k
def Tr.name : Tr → ByteArray | .node _ s _ _ _ => s
def Tr.n : Tr → Int | .node _ _ n _ _ => n
def Tr.place : Tr → Int | .node _ _ _ a _ => a
def Tr.parts : Tr → List Tr | .node _ _ _ _ l => l

mutual
def depthT : Tr → Nat
  | .node _ _ _ _ l => depthL l + 1
def depthL : List Tr → Nat
  | [] => 0
  | t :: r => max (depthT t) (depthL r)
end
mutual
def sizeT : Tr → Nat
  | .node _ _ _ _ l => sizeL l + 1
def sizeL : List Tr → Nat
  | [] => 0
  | t :: r => sizeT t + sizeL r
end
mutual
/-- How many of so many parts are left; -1: there are more, or they lie deeper. -/
def fewT : Tr → Int → Int → Int
  | .node _ _ _ _ l, left, deep => if left < 1 ∨ deep < 1 then -1 else fewL l (left - 1) (deep - 1)
def fewL : List Tr → Int → Int → Int
  | [], left, _ => left
  | t :: r, left, deep => if fewT t left deep < 0 then -1 else fewL r (fewT t left deep) deep
end
mutual
/-- Bare. -/
def bareT : Tr → Tr
  | .node k s n _ l => .node k s n 0 (bareL l)
def bareL : List Tr → List Tr
  | [] => []
  | t :: r => bareT t :: bareL r
end
mutual
/-- The same, but for places. -/
def sameT : Tr → Tr → Bool
  | .node k s n _ l, .node k' s' n' _ l' => decide (k = k') && (decide (s = s') && (decide (n = n') && sameL l l'))
def sameL : List Tr → List Tr → Bool
  | [], [] => true
  | t :: r, t' :: r' => sameT t t' && sameL r r'
  | _, _ => false
end
mutual
/-- The same, places and all. -/
def oneT : Tr → Tr → Bool
  | .node k s n a l, .node k' s' n' a' l' => decide (k = k') && (decide (s = s') && (decide (n = n') && (decide (a = a') && oneL l l')))
def oneL : List Tr → List Tr → Bool
  | [], [] => true
  | t :: r, t' :: r' => oneT t t' && oneL r r'
  | _, _ => false
end

/-- Is a text a token's of kind 1, or of kind 2? -/
def nameV (l : List UInt8) : Bool := decide (0 < run lowR l) && (decide (run ldR l = l.length) && (decide (l.length ≤ 16) && !wordS l))
def conV (l : List UInt8) : Bool := decide (0 < run upR l) && (decide (run ldR l = l.length) && decide (l.length ≤ 16))
def opV (l : List UInt8) : Bool := l == [43] || (l == [45] || (l == [42] || (l == [47] || (l == [60] || l == [61, 61]))))
/-- What a tree's Name is to be, by number: 0 empty, 1 a name, 2 a constructor's, 3 an operator's. -/
def whatV (w : Int) (l : List UInt8) : Bool := if w = 1 then nameV l else if w = 2 then conV l else if w = 3 then opV l else l == []

/-- What trees of a kind have: what their Name is, N at most, parts at least and at most. -/
def shapeV (k : Int) : Option (Int × Int × Int × Int) :=
  if k = 1 then some (1, 0, 0, 0) else if k = 2 then some (1, 0, 1, 1) else if k = 3 then some (0, 0, 2, 2) else if k = 4 then some (1, 0, 2, 2) else if k = 5 then some (1, 0, 2, 2)
  else if k = 6 then some (2, 0, 0, 8) else if k = 7 then some (0, 0, 2, 9) else if k = 8 then some (2, 8, 1, 9) else if k = 9 then some (0, 999999999999999999, 0, 0) else if k = 10 then some (3, 0, 2, 2) else none
/-- Does a tree fit a shape, whatever its parts are? -/
def fitsV (h : Int × Int × Int × Int) (k : Int) (s : List UInt8) (n a : Int) (m : Nat) : Bool :=
  if a < 0 ∨ n < 0 ∨ h.2.1 < n then false
  else if (m : Int) < h.2.2.1 ∨ h.2.2.2 < (m : Int) then false
  else if k = 8 ∧ (m : Int) ≠ n + 1 then false
  else whatV h.1 s
/-- May part number i of a tree be of kind p? -/
def standsV (k n : Int) (i : Nat) (p : Int) : Bool :=
  if k = 7 ∧ 0 < i then decide (p = 8) else if k = 8 ∧ (i : Int) < n then decide (p = 1) else decide (p ≠ 8)
mutual
/-- The program's own reckoning. -/
def mayT : Tr → Bool
  | .node k s n a l =>
    match shapeV k with
    | some h => fitsV h k s.data.toList n a l.length && mayL k n 0 l
    | none => false
def mayL (k n : Int) : Nat → List Tr → Bool
  | _, [] => true
  | i, t :: r => standsV k n i t.kind && (mayT t && mayL k n (i + 1) r)
end
/-- The reference's reckoning. -/
def nameOkV (k : Int) (s : List UInt8) : Bool :=
  if k = 1 ∨ k = 2 ∨ k = 4 ∨ k = 5 then nameV s else if k = 6 ∨ k = 8 then conV s else if k = 10 then opV s else s == []
def partsV (k n : Int) (m : Nat) : Bool :=
  if k = 1 then decide (m = 0) && decide (n = 0) else if k = 2 then decide (m = 1) && decide (n = 0)
  else if k = 3 ∨ k = 4 ∨ k = 5 ∨ k = 10 then decide (m = 2) && decide (n = 0) else if k = 6 then decide (m ≤ 8) && decide (n = 0)
  else if k = 7 then decide (2 ≤ m) && (decide (m ≤ 9) && decide (n = 0)) else if k = 8 then decide (0 ≤ n) && (decide (n ≤ 8) && decide ((m : Int) = n + 1))
  else if k = 9 then decide (m = 0) && (decide (0 ≤ n) && decide (n < 1000000000000000000)) else false
mutual
def mayRT : Tr → Bool → Bool
  | .node k s n a l, alt => (decide (k = 8) == alt) && (nameOkV k s.data.toList && (partsV k n l.length && (decide (0 ≤ a) && mayRL k n 0 l)))
def mayRL (k n : Int) : Nat → List Tr → Bool
  | _, [] => true
  | i, t :: r => !(decide (k = 8) && (decide ((i : Int) < n) && decide (t.kind ≠ 1))) && (mayRT t (decide (k = 7) && decide (0 < i)) && mayRL k n (i + 1) r)
end

theorem fits_eq (k : Int) (s : List UInt8) (n a : Int) (m : Nat) :
    (match shapeV k with | some h => fitsV h k s n a m | none => false) = (nameOkV k s && (partsV k n m && decide (0 ≤ a))) := by
  by_cases ha : 0 ≤ a
  · have ha' : ¬ a < 0 := by omega
    rcases (by omega : k = 1 ∨ k = 2 ∨ k = 3 ∨ k = 4 ∨ k = 5 ∨ k = 6 ∨ k = 7 ∨ k = 8 ∨ k = 9 ∨ k = 10 ∨ (k < 1 ∨ 10 < k)) with rfl | rfl | rfl | rfl | rfl | rfl | rfl | rfl | rfl | rfl | hk
    case inr.inr.inr.inr.inr.inr.inr.inr.inr.inr =>
      have e : ∀ j : Int, 1 ≤ j → j ≤ 10 → k ≠ j := by omega
      simp [shapeV, partsV, e 1, e 2, e 3, e 4, e 5, e 6, e 7, e 8, e 9, e 10]
    all_goals
      simp only [shapeV, fitsV, nameOkV, partsV, whatV]
      simp [ha, ha']
      generalize nameV s = b1
      generalize conV s = b2
      generalize opV s = b3
      rw [Bool.eq_iff_iff]
      by_cases e0 : s = []
      all_goals
        cases b1 <;> cases b2 <;> cases b3 <;> simp [e0] <;> omega
  · have ha' : a < 0 := by omega
    have e : decide (0 ≤ a) = false := by simp; omega
    rw [e]
    simp only [Bool.and_false]
    cases shapeV k <;> simp [fitsV, ha']

mutual
theorem may_eq : ∀ (t : Tr) (alt : Bool), mayRT t alt = ((decide (t.kind = 8) == alt) && mayT t)
  | .node k s n a l, alt => by
    rw [mayRT, mayT, may_eqL k n l 0]
    have h := fits_eq k s.data.toList n a l.length
    show _ = ((decide (k = 8) == alt) && _)
    cases hs : shapeV k with
    | none =>
      rw [hs] at h
      have h' : (nameOkV k s.data.toList && (partsV k n l.length && decide (0 ≤ a))) = false := h.symm
      show ((decide (k = 8) == alt) && (nameOkV k s.data.toList && (partsV k n l.length && (decide (0 ≤ a) && mayL k n 0 l)))) = ((decide (k = 8) == alt) && false)
      cases h1 : nameOkV k s.data.toList <;> cases h2 : partsV k n l.length <;> cases h3 : decide (0 ≤ a) <;> simp_all
    | some h0 =>
      rw [hs] at h
      have h' : fitsV h0 k s.data.toList n a l.length = (nameOkV k s.data.toList && (partsV k n l.length && decide (0 ≤ a))) := h
      show _ = ((decide (k = 8) == alt) && (fitsV h0 k s.data.toList n a l.length && mayL k n 0 l))
      rw [h']
      simp [Bool.and_assoc]
theorem may_eqL : ∀ (k n : Int) (l : List Tr) (i : Nat), mayRL k n i l = mayL k n i l
  | k, n, [], i => rfl
  | k, n, t :: r, i => by
    rw [mayRL, mayL, may_eqL k n r (i + 1), may_eq t]
    unfold standsV
    cases mayT t
    · simp
    · by_cases h7 : k = 7
      · subst h7
        by_cases hi : 0 < i <;> simp [hi]
      · by_cases h8 : k = 8
        · subst h8
          by_cases hi : (i : Int) < n
          · by_cases h1 : t.kind = 1
            · simp [h1, hi]
            · simp [h1, hi]
          · simp [hi]
        · simp [h7, h8]
end

theorem depthL_snoc (l : List Tr) (t : Tr) : depthL (l ++ [t]) = max (depthL l) (depthT t) := by
  induction l with
  | nil => simp [depthL]
  | cons a r ih => simp only [List.cons_append, depthL, ih]; omega
theorem sizeL_snoc (l : List Tr) (t : Tr) : sizeL (l ++ [t]) = sizeL l + sizeT t := by
  induction l with
  | nil => simp [sizeL]
  | cons a r ih => simp only [List.cons_append, sizeL, ih]; omega
theorem bareL_map (l : List Tr) : bareL l = l.map bareT := by
  induction l with
  | nil => rfl
  | cons a r ih => simp [bareL, ih]
theorem depth_pos (t : Tr) : 0 < depthT t := by cases t; simp [depthT]
theorem size_pos (t : Tr) : 0 < sizeT t := by cases t; simp [sizeT]
theorem depthL_mem : ∀ (l : List Tr) (t : Tr), t ∈ l → depthT t ≤ depthL l
  | [], t, h => by simp at h
  | a :: r, t, h => by
    rw [depthL]
    rcases List.mem_cons.1 h with rfl | h
    · omega
    · have := depthL_mem r t h; omega
theorem sizeL_mem : ∀ (l : List Tr) (t : Tr), t ∈ l → sizeT t ≤ sizeL l
  | [], t, h => by simp at h
  | a :: r, t, h => by
    rw [sizeL]
    rcases List.mem_cons.1 h with rfl | h
    · omega
    · have := sizeL_mem r t h; omega
theorem sizeL_len : ∀ l : List Tr, l.length ≤ sizeL l
  | [] => by simp [sizeL]
  | a :: r => by
    have := sizeL_len r
    have := size_pos a
    simp only [List.length_cons, sizeL]; omega
mutual
theorem depth_le_size : ∀ t : Tr, depthT t ≤ sizeT t
  | .node _ _ _ _ l => by rw [depthT, sizeT]; have := depthL_le_size l; omega
theorem depthL_le_size : ∀ l : List Tr, depthL l ≤ sizeL l
  | [] => by simp [depthL]
  | t :: r => by rw [depthL, sizeL]; have := depth_le_size t; have := depthL_le_size r; omega
end
theorem depthL_take (l : List Tr) (i : Nat) : depthL (l.take i) ≤ depthL l := by
  induction l generalizing i with
  | nil => simp
  | cons a r ih =>
    cases i with
    | zero => simp [depthL]
    | succ i => simp only [List.take_succ_cons, depthL]; have := ih i; omega
theorem sizeL_take (l : List Tr) (i : Nat) : sizeL (l.take i) ≤ sizeL l := by
  induction l generalizing i with
  | nil => simp
  | cons a r ih =>
    cases i with
    | zero => simp [sizeL]
    | succ i => simp only [List.take_succ_cons, sizeL]; have := ih i; omega

theorem sameL_len : ∀ l l' : List Tr, sameL l l' = true → l.length = l'.length
  | [], [], _ => rfl
  | [], _ :: _, h => by simp [sameL] at h
  | _ :: _, [], h => by simp [sameL] at h
  | a :: r, a' :: r', h => by
    rw [sameL, Bool.and_eq_true] at h
    simp [sameL_len r r' h.2]
theorem oneL_len : ∀ l l' : List Tr, oneL l l' = true → l.length = l'.length
  | [], [], _ => rfl
  | [], _ :: _, h => by simp [oneL] at h
  | _ :: _, [], h => by simp [oneL] at h
  | a :: r, a' :: r', h => by
    rw [oneL, Bool.and_eq_true] at h
    simp [oneL_len r r' h.2]
mutual
theorem few_size : ∀ (t : Tr) (a d : Int), 0 ≤ fewT t a d → (sizeT t : Int) + fewT t a d = a ∧ (depthT t : Int) ≤ d
  | .node _ _ _ _ l, a, d, h => by
    rw [fewT] at h ⊢
    split at h
    · omega
    · rename_i h1
      rw [if_neg h1]
      have h2 := few_sizeL l (a - 1) (d - 1) h
      rw [sizeT, depthT]
      rcases h2.2 with h4 | rfl
      · omega
      · simp only [depthL, sizeL] at h2 ⊢
        omega
theorem few_sizeL : ∀ (l : List Tr) (a d : Int), 0 ≤ fewL l a d → (sizeL l : Int) + fewL l a d = a ∧ ((depthL l : Int) ≤ d ∨ l = [])
  | [], a, d, h => by simp [fewL, sizeL]
  | t :: r, a, d, h => by
    rw [fewL] at h ⊢
    split at h
    · omega
    · rename_i h1
      rw [if_neg h1]
      have h2 := few_size t a d (by omega)
      have h3 := few_sizeL r (fewT t a d) d h
      rw [sizeL, depthL]
      refine ⟨by omega, .inl ?_⟩
      rcases h3.2 with h4 | rfl
      · omega
      · simp [depthL]; omega
end
end Lx
end Go.Proofs.Ytcgiloccmehbeaa
namespace Go.Proofs.Ytcgiloccmehbeaa
open Go.RowKit
namespace Lx
set_option maxRecDepth 100000
/-- A capacity is no less than the length. -/
def capF (n c : Nat) : Nat := max n c
theorem le_capF (n c : Nat) : n ≤ capF n c := Nat.le_max_left n c
theorem capF_of {n c : Nat} (h : n ≤ c) : capF n c = c := Nat.max_eq_right h
theorem own_sliceF {w : World} {base : Nat} {e : TypeId} {size : Nat} {v : Value} {n : Nat} {xs : List Value} (h : w.ownsRow base e size v n xs) : ∃ A c, v = .slice A n (capF n c) := by
  rcases h.2 with ⟨rfl, rfl⟩ | ⟨g, cap, cur, rfl, _, _, hle, _⟩
  · exact ⟨_, 0, rfl⟩
  · exact ⟨_, cap, by rw [capF_of hle]⟩
/-- Whatever block. -/
def Any : Nat → Prop := fun _ => True
mutual
/-- The parts of a tree lie from A on, in blocks of which X holds. -/
def TIn (w : World) (X : Nat → Prop) : Tr → Option Addr → Prop
  | .node _ s _ _ l, A => s.size ≤ 140737488351232 ∧ l.length ≤ 140737488351232 ∧ LIn w X l A 0
def LIn (w : World) (X : Nat → Prop) : List Tr → Option Addr → Nat → Prop
  | [], _, _ => True
  | t :: r, A, i => (∃ g o A' c, (A = some ⟨g, o, none⟩ ∧ X g) ∧ w.cell? ⟨g, o + i * 5, none⟩ = some (.int .i64 t.kind) ∧ w.cell? ⟨g, o + i * 5 + 1, none⟩ = some (.string t.name) ∧
      w.cell? ⟨g, o + i * 5 + 2, none⟩ = some (.int .i64 t.n) ∧ w.cell? ⟨g, o + i * 5 + 3, none⟩ = some (.int .i64 t.place) ∧
      w.cell? ⟨g, o + i * 5 + 4, none⟩ = some (.slice A' t.parts.length (capF t.parts.length c)) ∧ TIn w X t A') ∧ LIn w X r A (i + 1)
end
/-- A tree as a value. -/
def tv (t : Tr) (A : Option Addr) (c : Nat) : Value := .agg #[.int .i64 t.kind, .string t.name, .int .i64 t.n, .int .i64 t.place, .slice A t.parts.length (capF t.parts.length c)]

mutual
theorem TIn.keep : ∀ (t : Tr) {w w' : World} {X Y : Nat → Prop} {A : Option Addr}, TIn w X t A → (∀ g j, X g → g < w.heap.size → w'.cell? ⟨g, j, none⟩ = w.cell? ⟨g, j, none⟩ ∧ Y g) → TIn w' Y t A
  | .node k s n a l, w, w', X, Y, A, h, hk => by
    rw [TIn] at h ⊢
    exact ⟨h.1, h.2.1, LIn.keep l h.2.2 hk⟩
theorem LIn.keep : ∀ (l : List Tr) {w w' : World} {X Y : Nat → Prop} {A : Option Addr} {i : Nat}, LIn w X l A i → (∀ g j, X g → g < w.heap.size → w'.cell? ⟨g, j, none⟩ = w.cell? ⟨g, j, none⟩ ∧ Y g) → LIn w' Y l A i
  | [], w, w', X, Y, A, i, _, _ => by rw [LIn]; trivial
  | t :: r, w, w', X, Y, A, i, h, hk => by
    rw [LIn] at h ⊢
    obtain ⟨⟨g, o, A', c, ⟨e, hX⟩, h0, h1, h2, h3, h4, ht⟩, hr⟩ := h
    have hlt := cell_lt h0
    have hc : ∀ j, w'.cell? ⟨g, j, none⟩ = w.cell? ⟨g, j, none⟩ := fun j => (hk g j hX hlt).1
    exact ⟨⟨g, o, A', c, ⟨e, (hk g 0 hX hlt).2⟩, by rw [hc]; exact h0, by rw [hc]; exact h1, by rw [hc]; exact h2, by rw [hc]; exact h3, by rw [hc]; exact h4, TIn.keep t ht hk⟩, LIn.keep r hr hk⟩
end
theorem TIn.below (t : Tr) {w w' : World} {X : Nat → Prop} {A : Option Addr} {B : Nat} (h : TIn w X t A) (hb : Below B w w') (hB : w.heap.size ≤ B) : TIn w' X t A :=
  TIn.keep t h fun g j hX hlt => ⟨hb.cell (p := ⟨g, j, none⟩) (by show g < B; omega), hX⟩
theorem TIn.wide (t : Tr) {w : World} {X Y : Nat → Prop} {A : Option Addr} (h : TIn w X t A) (hXY : ∀ g, X g → g < w.heap.size → Y g) : TIn w Y t A :=
  TIn.keep t h fun g _ hX hlt => ⟨rfl, hXY g hX hlt⟩
theorem TIn.any (t : Tr) {w : World} {X : Nat → Prop} {A : Option Addr} (h : TIn w X t A) : TIn w Any t A := TIn.wide t h fun _ _ _ => trivial
theorem TIn.setCell (t : Tr) {w : World} {X : Nat → Prop} {A : Option Addr} (h : TIn w X t A) (p : Addr) (u : Value) (hp : ¬ X p.block) : TIn (w.setCell p u) X t A :=
  TIn.keep t h fun g j hX _ => ⟨World.cell?_setCell_other w p ⟨g, j, none⟩ u (fun e => by subst e; exact hp hX), hX⟩
theorem TIn.grown (t : Tr) {w w' : World} {X : Nat → Prop} {A : Option Addr} {row : Option Nat} (h : TIn w X t A) (hg : w.grownBy w' row) (hp : ∀ g, row = some g → ¬ X g) : TIn w' X t A :=
  TIn.keep t h fun g _ hX hlt => ⟨World.cell?_of_block (hg.block g hlt (fun e => hp g e.symm hX)), hX⟩

theorem LIn.at_ : ∀ (l : List Tr) {w : World} {X : Nat → Prop} {A : Option Addr} {j : Nat}, LIn w X l A j → ∀ (i : Nat) (hi : i < l.length),
    ∃ g o A' c, (A = some ⟨g, o, none⟩ ∧ X g) ∧ w.cell? ⟨g, o + (j + i) * 5, none⟩ = some (.int .i64 (l[i]'hi).kind) ∧ w.cell? ⟨g, o + (j + i) * 5 + 1, none⟩ = some (.string (l[i]'hi).name) ∧
      w.cell? ⟨g, o + (j + i) * 5 + 2, none⟩ = some (.int .i64 (l[i]'hi).n) ∧ w.cell? ⟨g, o + (j + i) * 5 + 3, none⟩ = some (.int .i64 (l[i]'hi).place) ∧
      w.cell? ⟨g, o + (j + i) * 5 + 4, none⟩ = some (.slice A' (l[i]'hi).parts.length (capF (l[i]'hi).parts.length c)) ∧ TIn w X (l[i]'hi) A'
  | [], w, X, A, j, _, i, hi => by simp at hi
  | t :: r, w, X, A, j, h, 0, hi => by
    rw [LIn] at h
    simpa using h.1
  | t :: r, w, X, A, j, h, i + 1, hi => by
    rw [LIn] at h
    have := LIn.at_ r h.2 i (by simpa using hi)
    rw [show j + 1 + i = j + (i + 1) from by omega] at this
    simpa using this
theorem LIn.mk : ∀ (l : List Tr) {w : World} {X : Nat → Prop} {A : Option Addr} (j : Nat), (∀ (i : Nat) (hi : i < l.length),
    ∃ g o A' c, (A = some ⟨g, o, none⟩ ∧ X g) ∧ w.cell? ⟨g, o + (j + i) * 5, none⟩ = some (.int .i64 (l[i]'hi).kind) ∧ w.cell? ⟨g, o + (j + i) * 5 + 1, none⟩ = some (.string (l[i]'hi).name) ∧
      w.cell? ⟨g, o + (j + i) * 5 + 2, none⟩ = some (.int .i64 (l[i]'hi).n) ∧ w.cell? ⟨g, o + (j + i) * 5 + 3, none⟩ = some (.int .i64 (l[i]'hi).place) ∧
      w.cell? ⟨g, o + (j + i) * 5 + 4, none⟩ = some (.slice A' (l[i]'hi).parts.length (capF (l[i]'hi).parts.length c)) ∧ TIn w X (l[i]'hi) A') → LIn w X l A j
  | [], w, X, A, j, _ => by rw [LIn]; trivial
  | t :: r, w, X, A, j, h => by
    rw [LIn]
    refine ⟨(by have := h 0 (by simp); rw [Nat.add_zero] at this; exact this), LIn.mk r (j + 1) fun i hi => ?_⟩
    have := h (i + 1) (by simpa using hi)
    rw [show j + 1 + i = j + (i + 1) from by omega]
    simpa using this
/-- The five cells of part i, and its own parts. -/
theorem TIn.part {t : Tr} {w : World} {X : Nat → Prop} {A : Option Addr} (h : TIn w X t A) (i : Nat) (hi : i < t.parts.length) :
    ∃ g o A' c, (A = some ⟨g, o, none⟩ ∧ X g) ∧ w.cell? ⟨g, o + i * 5, none⟩ = some (.int .i64 (t.parts[i]'hi).kind) ∧ w.cell? ⟨g, o + i * 5 + 1, none⟩ = some (.string (t.parts[i]'hi).name) ∧
      w.cell? ⟨g, o + i * 5 + 2, none⟩ = some (.int .i64 (t.parts[i]'hi).n) ∧ w.cell? ⟨g, o + i * 5 + 3, none⟩ = some (.int .i64 (t.parts[i]'hi).place) ∧
      w.cell? ⟨g, o + i * 5 + 4, none⟩ = some (.slice A' (t.parts[i]'hi).parts.length (capF (t.parts[i]'hi).parts.length c)) ∧ TIn w X (t.parts[i]'hi) A' := by
  obtain ⟨k, s, n, a, l⟩ := t
  rw [TIn] at h
  have := LIn.at_ l h.2.2 i hi
  rw [Nat.zero_add] at this
  exact this
end Lx
end Go.Proofs.Ytcgiloccmehbeaa
namespace Go.Proofs.Ytcgiloccmehbeaa
open Go
namespace Lx
set_option maxRecDepth 100000
section
variable {P : Program} {ops : Array Oper} {Q : Exit → Act → World → Prop} {md : Region.Mode} {S : World → Prop} {last : Nat}

/-- Whatever order is picked from here on, and S holds behind every operation but the last. -/
def wpAnyK (P : Program) (md : Region.Mode) (ops : Array Oper) (Q : Exit → Act → World → Prop) (S : World → Prop) (last : Nat) : Nat → Array Bool → Act → World → Prop
  | 0, listed, a, w => Region.ready md ops listed = [] ∧ Q .normal a w
  | fuel + 1, listed, a, w =>
    (Region.ready md ops listed = [] → Q .normal a w) ∧
    ∀ i ∈ Region.ready md ops listed, wpOp P ops Q i (fun a' w' => (i ≠ last → S w') ∧ wpAnyK P md ops Q S last fuel (listed.setIfInBounds i true) a' w') a w
theorem wpAny_of_K : ∀ (fuel : Nat) (listed : Array Bool) (a : Act) (w : World), wpAnyK P md ops Q S last fuel listed a w → wpAny P md ops Q fuel listed a w
  | 0, _, _, _, h => h
  | fuel + 1, _, _, _, h => ⟨h.1, fun i hi => wpOp_mono (fun a' w' h' => wpAny_of_K fuel _ a' w' h'.2) (h.2 i hi)⟩
/-- The last operation waits for number i. -/
def waitsB (md : Region.Mode) (ops : Array Oper) (last i : Nat) : Bool :=
  match ops[last]? with
  | some o => o.after.any fun e => Region.binds md e && e.on == i
  | none => false
theorem waits_ready {i : Nat} {listed : Array Bool} (h : waitsB md ops last i = true) (hl : last ∈ Region.ready md ops listed) : listed.getD i false = true := by
  obtain ⟨_, o, ho, hall⟩ := mem_ready.1 hl
  unfold waitsB at h
  rw [ho] at h
  obtain ⟨e, he, hb⟩ := Array.any_eq_true'.1 h
  simp only [Bool.and_eq_true, beq_iff_eq] at hb
  have := hall e he hb.1
  rwa [hb.2] at this
theorem unlisted {i : Nat} {listed : Array Bool} (h : listed.getD i true = false) : listed.getD i false ≠ true := by
  intro h'
  rcases Nat.lt_or_ge i listed.size with hl | hl
  · simp [hl] at h h'; rw [h] at h'; cases h'
  · simp [Array.getElem?_eq_none hl] at h
theorem wpAnyK_first {i : Nat} {oi : Oper} {v : Value} (hi : ops[i]? = some oi) (hsel : ∀ (j : Nat) (o : Oper) cs b, ops[j]? = some o → o.op ≠ .select cs b)
    (hQ : ∀ c a w, Q (.panic c) (a.put oi.dst v) w → Q (.panic c) a w) (hwt : waitsB md ops last i = true) :
    ∀ (fuel : Nat) (listed : Array Bool) (a : Act) (w : World),
      (∀ j oj, ops[j]? = some oj → j ≠ i → listed.getD j true = false → (∀ e ∈ oj.after, Region.binds md e = true → e.on ≠ i) → oi.apart ops oj = true) →
      i ∈ Region.ready md ops listed → YieldsIf P ops S oi v a → S w →
      wpAnyK P md ops Q S last fuel (listed.setIfInBounds i true) (a.put oi.dst v) w → wpAnyK P md ops Q S last (fuel + 1) listed a w := by
  intro fuel
  induction fuel with
  | zero =>
    intro listed a w _ hr hy hS H
    refine ⟨fun h => (by rw [h] at hr; cases hr), fun j hj => ?_⟩
    by_cases hji : j = i
    · subst hji; exact hy.wpOp hi hS ⟨fun _ => hS, H⟩
    · have := ready_mono hj hji
      rw [H.1] at this
      cases this
  | succ fuel ih =>
    intro listed a w hfree hr hy hS H
    refine ⟨fun h => (by rw [h] at hr; cases hr), fun j hj => ?_⟩
    by_cases hji : j = i
    · subst hji; exact hy.wpOp hi hS ⟨fun _ => hS, H⟩
    · have hjl : j ≠ last := fun e => by
        subst e
        exact unlisted (mem_ready.1 hr).1 (waits_ready hwt hj)
      have h1 := H.2 j (ready_mono hj hji)
      obtain ⟨hjun, oj, hoj, hall⟩ := mem_ready.1 hj
      have hnot : ∀ e ∈ oj.after, Region.binds md e = true → e.on ≠ i := fun e he hb heq => by
        have h1 := hall e he hb
        rw [heq] at h1
        exact unlisted (mem_ready.1 hr).1 h1
      have h2 := wpOp_putIf hoj (hfree j oj hoj hji hjun hnot) (fun cs b => hsel i oi cs b hi) (fun cs b => hsel j oj cs b hoj) hQ hy h1
      have hfree' : ∀ k ok, ops[k]? = some ok → k ≠ i → (listed.setIfInBounds j true).getD k true = false →
          (∀ e ∈ ok.after, Region.binds md e = true → e.on ≠ i) → oi.apart ops ok = true := fun k ok hk hki hun hno => by
        refine hfree k ok hk hki ?_ hno
        by_cases hjk : j = k
        · subst hjk; exact hjun
        · rw [getD_set_ne true hjk] at hun; exact hun
      refine wpOp_mono (fun a' w' h3 => ⟨h3.2.1, ih (listed.setIfInBounds j true) a' w' hfree' (ready_mono hr (Ne.symm hji)) h3.1 (h3.2.1 hjl) ?_⟩) h2
      rw [Array.setIfInBounds_comm _ _ hji]
      exact h3.2.2
theorem wpAnyK_take {i : Nat} {oi : Oper} {v : Value} {fuel : Nat} {listed : Array Bool} {a : Act} {w : World} (hi : ops[i]? = some oi)
    (hs : Region.noSelect ops = true) (hwt : waitsB md ops last i = true) (hf : Region.free md ops listed i = true) (hr : (Region.ready md ops listed).contains i = true)
    (hQ : ∀ c a w, Q (.panic c) (a.put oi.dst v) w → Q (.panic c) a w) (hy : YieldsIf P ops S oi v a) (hS : S w)
    (h : wpAnyK P md ops Q S last fuel (listed.setIfInBounds i true) (a.put oi.dst v) w) : wpAnyK P md ops Q S last (fuel + 1) listed a w :=
  wpAnyK_first hi (Region.noSelect_spec hs) hQ hwt fuel listed a w (Region.free_spec hi hf) (by simpa using hr) hy hS h
/-- One operation alone may come up. -/
theorem wpAnyK_one {i : Nat} {o : Oper} {fuel : Nat} {listed : Array Bool} {a : Act} {w : World} (ho : ops[i]? = some o) (hg : o.guard = none) (hr : Region.ready md ops listed = [i])
    (h : ∀ K' : Act → World → Prop, Shut (∀ a w, (i ≠ last → S w) → ((i ≠ last → S w) → wpAnyK P md ops Q S last fuel (listed.setIfInBounds i true) a w) → K' a w) → Oper.wp P o a w K' Q) :
    wpAnyK P md ops Q S last (fuel + 1) listed a w := by
  refine ⟨fun h0 => (by rw [hr] at h0; cases h0), fun j hj => ?_⟩
  rw [hr] at hj
  obtain rfl : j = i := by simpa using hj
  refine wpOp_step ho fun K' hK => ?_
  rw [if_pos (by simp [Region.wanted, hg])]
  exact h K' (fun a w hS hW => hK a w ⟨hS, hW hS⟩)
theorem wpAnyK_done {listed : Array Bool} {a : Act} {w : World} (hr : Region.ready md ops listed = []) (h : Q .normal a w) : ∀ fuel, wpAnyK P md ops Q S last fuel listed a w
  | 0 => ⟨hr, h⟩
  | _ + 1 => ⟨fun _ => h, by rw [hr]; simp⟩
theorem wp_region_K {id : Nat} {a : Act} {w : World} (last : Nat) (hm : P.follows .mixedOrders = true) (hS : S w.drew)
    (h : S w.drew → wpAnyK P .any ops Q S last ops.size (Array.replicate ops.size false) a w.drew) : (Code.region id ops true).wp P Q a w :=
  wp_region_any hm (wpAny_of_K _ _ _ _ (h hS))
end
end Lx
end Go.Proofs.Ytcgiloccmehbeaa
namespace Go.Proofs.Ytcgiloccmehbeaa
open Go.RowKit
namespace Lx
theorem own_le {w : World} {base : Nat} {e : TypeId} {size : Nat} {A : Option Addr} {m c : Nat} {n : Nat} {xs : List Value} (h : w.ownsRow base e size (.slice A m c) n xs) : n ≤ c := by
  rcases h.2 with ⟨h1, rfl⟩ | ⟨g, cap, cur, h1, _, _, hle, _⟩
  · exact Nat.zero_le _
  · injection h1 with _ _ h2
    omega
theorem tv_own {k n pc : Int} {nm : ByteArray} {pl : List Tr} {B : Option Addr} {bc : Nat} (h : pl.length ≤ bc) : Ending.returned (.agg #[.int .i64 k, .string nm, .int .i64 n, .int .i64 pc, .slice B pl.length bc]) = .returned (tv (.node k nm n pc pl) B bc) := by
  unfold tv
  simp only [Tr.kind, Tr.name, Tr.n, Tr.place, Tr.parts]
  rw [capF_of h]
end Lx
end Go.Proofs.Ytcgiloccmehbeaa
namespace Go.Proofs.Ytcgiloccmehbeaa
open Go.RowKit
namespace Lx
set_option maxRecDepth 100000
/-- The class of a byte. -/
def clsV (c : Int) : Int := if lowR c = true then 1 else if upR c = true then 2 else if digR c = true then 3 else if blkR c = true then 4 else 0
set_option maxHeartbeats 1000000 in
theorem class_any (c : Int) (w : World) (h0 : 0 ≤ c) (h1 : c ≤ 255) : Calls Try.prog 46 #[.int .u8 c] w fun e w' => e = .returned (.int .i64 (clsV c)) ∧ w = w' := by
  have hc : (97 ≤ c ∧ c ≤ 122) ∨ (65 ≤ c ∧ c ≤ 90) ∨ (48 ≤ c ∧ c ≤ 57) ∨ c = 32 ∨ c = 10 ∨ c = 9 ∨ (122 < c) ∨ (90 < c ∧ c < 97) ∨ (57 < c ∧ c < 65) ∨ (32 < c ∧ c < 48) ∨ (10 < c ∧ c < 32) ∨ c < 9 := by omega
  rcases hc with ⟨a, b⟩ | ⟨a, b⟩ | ⟨a, b⟩ | rfl | rfl | rfl | a | ⟨a, b⟩ | ⟨a, b⟩ | ⟨a, b⟩ | ⟨a, b⟩ | a
  all_goals
    try have n1 : (c == 32) = false := by simp; omega
    try have n2 : (c == 10) = false := by simp; omega
    try have n3 : (c == 9) = false := by simp; omega
    go_enter Try.func46, Try.ntmps46
    go_wp2
  all_goals
    go_ret
    refine ⟨ret_int ?_, rfl⟩
    first
      | rfl
      | (simp [clsV, lowR, upR, digR, blkR, *]; done)
      | (have e1 : lowR c = false := by simp [lowR]; omega
         have e2 : upR c = false := by simp [upR]; omega
         have e3 : digR c = false := by simp [digR]; omega
         have e4 : blkR c = false := by simp [blkR]; omega
         simp [clsV, e1, e2, e3, e4]; done)
      | (have e1 : lowR c = false := by simp [lowR]; omega
         have e2 : upR c = false := by simp [upR]; omega
         have e3 : digR c = true := by simp [digR]; omega
         simp [clsV, e1, e2, e3]; done)
      | (have e1 : lowR c = false := by simp [lowR]; omega
         have e2 : upR c = true := by simp [upR]; omega
         simp [clsV, e1, e2]; done)

theorem rword_any (s : ByteArray) (w : World) : Calls Try.prog 48 #[.string s] w fun e w' => e = .returned (.bool (wordS s.data.toList)) ∧ w = w' := by
  go_enter Try.func48, Try.ntmps48
  go_wp2
  all_goals
    go_ret
    refine ⟨ret_bool ?_, rfl⟩
    rw [← data_list]
    simp_all [wordS, Bool.or_assoc]

set_option maxHeartbeats 1000000 in
theorem rnumber_any (s : ByteArray) (w : World) (hd : run digR s.data.toList = s.data.toList.length) (h18 : s.size ≤ 18) :
    Calls Try.prog 47 #[.string s] w fun e w' => e = .returned (.int .i64 (numV s.data.toList)) ∧ w = w' := by
  have HD := Lib.hid hd
  clear hd
  go_enter Try.func47, Try.ntmps47
  go_wp2_with fail
  go_loop [3, 4] (fun n a => ∃ k : Nat, k ≤ s.size ∧ a = .int .i64 k ∧ n = .int .i64 (numV (s.data.toList.take k))) (fun _ a => s.size - (intOf a).toNat)
  case atStart => exact ⟨0, Nat.zero_le _, rfl, rfl⟩
  case round =>
    obtain ⟨k, hk, rfl, rfl⟩ := hrel
    by_cases hlt : k < s.size
    · have hlen : k < s.data.toList.length := by simpa using hlt
      have hb : s.data.toList[k]'hlen = s[k] := by simp [ByteArray.getElem_eq_getElem_data]
      have hmem := dig_of digR _ HD.out (s.data.toList[k]'hlen) (List.getElem_mem hlen)
      have HS := Lib.hid (take_snoc s.data.toList k hlen)
      have hbd := numV_bd k (s.data.toList.take k) (by simp; omega) (fun c hc => dig_of digR _ HD.out c (List.mem_of_mem_take hc))
      have hp := pow_le17 k (by omega)
      rw [hb] at hmem HS
      have hd2 : 48 ≤ ((s[k]'hlt).toNat : Int) ∧ ((s[k]'hlt).toNat : Int) ≤ 57 := by simpa [digR] using hmem
      obtain ⟨hd3, hd4⟩ := hd2
      obtain ⟨hb3, hb4⟩ := hbd
      have hb5 : numV (s.data.toList.take k) ≤ 100000000000000000 := by omega
      clear hp hb4 hmem hb
      obtain ⟨N, hN⟩ : ∃ N, N = numV (s.data.toList.take k) := ⟨_, rfl⟩
      rw [← hN] at hb3 hb5 ⊢
      have HNN := Lib.hid hN
      clear hN
      go_wp2_with fail
      go_round
      case rel =>
        refine ⟨k + 1, by omega, by go_num, congrArg (Value.int .i64) ?_⟩
        rw [HS.out, numV_snoc, ← HNN.out]
        omega
      case measure => simp [intOf]; omega
    · go_wp2_with fail
      go_ret
      refine ⟨ret_int ?_, rfl⟩
      rw [List.take_of_length_le (by simp; omega)]
end Lx
end Go.Proofs.Ytcgiloccmehbeaa
namespace Go.Proofs.Ytcgiloccmehbeaa
open Go.RowKit
namespace Lx
set_option maxRecDepth 100000
theorem run_pos2 {P : Int → Bool} {c : UInt8} {q : List UInt8} (h : 0 < run P (c :: q)) : P (c.toNat : Int) = true := by
  by_cases hc : P (c.toNat : Int) = true
  · exact hc
  · simp [run, hc] at h
theorem run_lt_at (P : Int → Bool) : ∀ (l : List UInt8) (m : Nat), m < run P l → ∃ h : m < l.length, P ((l[m]'h).toNat : Int) = true
  | [], m, h => by simp [run] at h
  | c :: l, 0, h => ⟨by simp, run_pos2 h⟩
  | c :: l, m + 1, h => by
    cases hc : P (c.toNat : Int)
    · simp [run, hc] at h
    · simp [run, hc] at h
      obtain ⟨h1, h2⟩ := run_lt_at P l m h
      exact ⟨by simp; omega, by simpa using h2⟩
theorem run_stop_at (P : Int → Bool) : ∀ (l : List UInt8) (h : run P l < l.length), P ((l[run P l]'h).toNat : Int) = false
  | [], h => by simp at h
  | c :: l, h => by
    cases hc : P (c.toNat : Int)
    · simp [run, hc]
    · have h1 : run P l < l.length := by simp [run, hc] at h; omega
      have := run_stop_at P l h1
      simpa [run, hc] using this
theorem run_min (P Q : Int → Bool) (hPQ : ∀ x, P x = true → Q x = true) : ∀ l : List UInt8, run P l ≤ run Q l
  | [] => by simp [run]
  | c :: l => by
    have := run_min P Q hPQ l
    cases hc : P (c.toNat : Int)
    · simp [run, hc]
    · simp [run, hc, hPQ _ hc, this]

set_option maxHeartbeats 2000000 in
theorem rrun_any (s : ByteArray) (k : Nat) (w : World) (hk : k ≤ s.size) (hs : s.size ≤ 140737488351232) :
    Calls Try.prog 44 #[.string s, .int .i64 k] w fun e w' => e = .returned (.tuple #[.int .i64 (run ldR (s.data.toList.drop k)), .bool (decide (run digR (s.data.toList.drop k) < run ldR (s.data.toList.drop k)))]) ∧ w = w' := by
  obtain ⟨D, hD⟩ : ∃ D, D = s.data.toList.drop k := ⟨_, rfl⟩
  have hDl : D.length = s.size - k := by rw [hD, List.length_drop, Lib.size_eq]
  have hle := run_le ldR D
  rw [← hD]
  have HD := Lib.hid hD
  have HDL := Lib.hid hDl
  rw [hDl] at hle
  clear hD hDl
  go_enter Try.func44, Try.ntmps44
  go_wp2_with fail
  go_loop [6, 7] (fun a b => ∃ m : Nat, m ≤ run ldR D ∧ a = .int .i64 m ∧ b = .bool (decide (run digR D < m))) (fun a _ => s.size - (intOf a).toNat)
  case atStart => exact ⟨0, Nat.zero_le _, rfl, by simp⟩
  case round =>
    obtain ⟨m, hm, rfl, rfl⟩ := hrel
    by_cases hlt : k + m < s.size
    · have hmD : m < D.length := by rw [HDL.out]; omega
      obtain ⟨c, hc⟩ : ∃ c, c = s[k + m]'hlt := ⟨_, rfl⟩
      have hcD : D[m]'hmD = c := by
        rw [hc]
        have h1 : D[m]'hmD = (s.data.toList.drop k)[m]'(by rw [← HD.out]; exact hmD) := by congr 1
        rw [h1, List.getElem_drop]
        simp [ByteArray.getElem_eq_getElem_data]
      have hb0 : s[k + m]'hlt = c := hc.symm
      have HCD := Lib.hid hcD
      clear hc hcD
      have hcn : (c.toNat : Int) ≤ 255 := by have := c.toNat_lt; omega
      by_cases hin : m < run ldR D
      · obtain ⟨h1, h2⟩ := run_lt_at ldR D m hin
        rw [HCD.out] at h2
        by_cases hdg : digR (c.toNat : Int) = true
        · have hcl : clsV (c.toNat : Int) = 3 := by
            simp only [digR, Bool.and_eq_true, decide_eq_true_eq] at hdg
            have e1 : lowR (c.toNat : Int) = false := by simp [lowR]; omega
            have e2 : upR (c.toNat : Int) = false := by simp [upR]; omega
            have e3 : digR (c.toNat : Int) = true := by simp [digR, hdg]
            simp [clsV, e1, e2, e3]
          have HCL := Lib.hid hcl
          have HDG := Lib.hid hdg
          clear hcl hdg h2
          cases hL : decide (run digR D < m)
          all_goals
            go_wp2_with fail
            refine (class_any _ _ (by omega) hcn).mono ?_
            rintro e w' ⟨rfl, rfl⟩
            rw [HCL.out]
            go_wp2_with fail
            go_round
            case rel =>
              refine ⟨m + 1, by omega, by go_num, congrArg Value.bool ?_⟩
              have h3 : run digR D ≠ m := by
                intro e
                have := run_stop_at digR D (by rw [e]; exact hmD)
                simp only [e] at this
                rw [HCD.out, HDG.out] at this
                cases this
              simp at hL ⊢
              omega
            case measure => simp [intOf]; omega
        · have hno : run digR D ≤ m := by
            rcases Nat.lt_or_ge m (run digR D) with h3 | h3
            · obtain ⟨_, h4⟩ := run_lt_at digR D m h3
              rw [HCD.out] at h4
              exact absurd h4 hdg
            · exact h3
          have hcl : clsV (c.toNat : Int) = 1 ∨ clsV (c.toNat : Int) = 2 := by
            simp only [ldR, Bool.or_eq_true] at h2
            cases e1 : lowR (c.toNat : Int)
            · cases e2 : upR (c.toNat : Int)
              · rw [e1, e2] at h2
                simp at h2
                exact absurd h2 hdg
              · right; simp [clsV, e1, e2]
            · left; simp [clsV, e1]
          clear hdg h2
          rcases hcl with hcl | hcl
          all_goals
            have HCL := Lib.hid hcl
            clear hcl
            cases hL : decide (run digR D < m)
            all_goals
              go_wp2_with fail
              refine (class_any _ _ (by omega) hcn).mono ?_
              rintro e w' ⟨rfl, rfl⟩
              rw [HCL.out]
              go_wp2_with fail
              go_round
              case rel =>
                refine ⟨m + 1, by omega, by go_num, congrArg Value.bool ?_⟩
                simp
                omega
              case measure => simp [intOf]; omega
      · have hme : m = run ldR D := by omega
        have hst := run_stop_at ldR D (by rw [← hme]; exact hmD)
        simp only [← hme] at hst
        rw [HCD.out] at hst
        have hcl : clsV (c.toNat : Int) = 4 ∨ clsV (c.toNat : Int) = 0 := by
          simp only [ldR, Bool.or_eq_false_iff] at hst
          obtain ⟨e1, e2, e3⟩ := hst
          cases e4 : blkR (c.toNat : Int)
          · right; simp [clsV, e1, e2, e3, e4]
          · left; simp [clsV, e1, e2, e3, e4]
        have HME := Lib.hid hme
        clear hst hme
        rcases hcl with hcl | hcl
        all_goals
          have HCL := Lib.hid hcl
          clear hcl
          go_wp2_with fail
          refine (class_any _ _ (by omega) hcn).mono ?_
          rintro e w' ⟨rfl, rfl⟩
          rw [HCL.out]
          go_wp2_with fail
          go_ret2
          have hme := HME.out
          subst hme
          exact ⟨rfl, rfl⟩
    · go_wp2_with fail
      go_ret2
      have : m = run ldR D := by omega
      subst this
      exact ⟨rfl, rfl⟩
end Lx
end Go.Proofs.Ytcgiloccmehbeaa
namespace Go.Proofs.Ytcgiloccmehbeaa
open Go.RowKit
namespace Lx
set_option maxRecDepth 100000
def ones : List UInt8 := [92, 46, 40, 41, 61, 123, 125, 124, 43, 45, 42, 47, 60]
theorem one_at (k : Nat) (h : k < 13) (w : World) : (Instr.index 9 (.string ⟨#[92, 46, 40, 41, 61, 123, 125, 124, 43, 45, 42, 47, 60]⟩) (.int .i64 k)).run Try.prog w = .ok (.int .u8 ((ones.getD k 0).toNat : Int)) w := by
  have i0 : (Instr.index 9 (.string ⟨#[92, 46, 40, 41, 61, 123, 125, 124, 43, 45, 42, 47, 60]⟩) (.int .i64 0)).run Try.prog w = .ok (.int .u8 ((ones.getD 0 0).toNat : Int)) w := by kernel_rfl
  have i1 : (Instr.index 9 (.string ⟨#[92, 46, 40, 41, 61, 123, 125, 124, 43, 45, 42, 47, 60]⟩) (.int .i64 1)).run Try.prog w = .ok (.int .u8 ((ones.getD 1 0).toNat : Int)) w := by kernel_rfl
  have i2 : (Instr.index 9 (.string ⟨#[92, 46, 40, 41, 61, 123, 125, 124, 43, 45, 42, 47, 60]⟩) (.int .i64 2)).run Try.prog w = .ok (.int .u8 ((ones.getD 2 0).toNat : Int)) w := by kernel_rfl
  have i3 : (Instr.index 9 (.string ⟨#[92, 46, 40, 41, 61, 123, 125, 124, 43, 45, 42, 47, 60]⟩) (.int .i64 3)).run Try.prog w = .ok (.int .u8 ((ones.getD 3 0).toNat : Int)) w := by kernel_rfl
  have i4 : (Instr.index 9 (.string ⟨#[92, 46, 40, 41, 61, 123, 125, 124, 43, 45, 42, 47, 60]⟩) (.int .i64 4)).run Try.prog w = .ok (.int .u8 ((ones.getD 4 0).toNat : Int)) w := by kernel_rfl
  have i5 : (Instr.index 9 (.string ⟨#[92, 46, 40, 41, 61, 123, 125, 124, 43, 45, 42, 47, 60]⟩) (.int .i64 5)).run Try.prog w = .ok (.int .u8 ((ones.getD 5 0).toNat : Int)) w := by kernel_rfl
  have i6 : (Instr.index 9 (.string ⟨#[92, 46, 40, 41, 61, 123, 125, 124, 43, 45, 42, 47, 60]⟩) (.int .i64 6)).run Try.prog w = .ok (.int .u8 ((ones.getD 6 0).toNat : Int)) w := by kernel_rfl
  have i7 : (Instr.index 9 (.string ⟨#[92, 46, 40, 41, 61, 123, 125, 124, 43, 45, 42, 47, 60]⟩) (.int .i64 7)).run Try.prog w = .ok (.int .u8 ((ones.getD 7 0).toNat : Int)) w := by kernel_rfl
  have i8 : (Instr.index 9 (.string ⟨#[92, 46, 40, 41, 61, 123, 125, 124, 43, 45, 42, 47, 60]⟩) (.int .i64 8)).run Try.prog w = .ok (.int .u8 ((ones.getD 8 0).toNat : Int)) w := by kernel_rfl
  have i9 : (Instr.index 9 (.string ⟨#[92, 46, 40, 41, 61, 123, 125, 124, 43, 45, 42, 47, 60]⟩) (.int .i64 9)).run Try.prog w = .ok (.int .u8 ((ones.getD 9 0).toNat : Int)) w := by kernel_rfl
  have i10 : (Instr.index 9 (.string ⟨#[92, 46, 40, 41, 61, 123, 125, 124, 43, 45, 42, 47, 60]⟩) (.int .i64 10)).run Try.prog w = .ok (.int .u8 ((ones.getD 10 0).toNat : Int)) w := by kernel_rfl
  have i11 : (Instr.index 9 (.string ⟨#[92, 46, 40, 41, 61, 123, 125, 124, 43, 45, 42, 47, 60]⟩) (.int .i64 11)).run Try.prog w = .ok (.int .u8 ((ones.getD 11 0).toNat : Int)) w := by kernel_rfl
  have i12 : (Instr.index 9 (.string ⟨#[92, 46, 40, 41, 61, 123, 125, 124, 43, 45, 42, 47, 60]⟩) (.int .i64 12)).run Try.prog w = .ok (.int .u8 ((ones.getD 12 0).toNat : Int)) w := by kernel_rfl
  match k, h with
  | 0, _ => exact i0
  | 1, _ => exact i1
  | 2, _ => exact i2
  | 3, _ => exact i3
  | 4, _ => exact i4
  | 5, _ => exact i5
  | 6, _ => exact i6
  | 7, _ => exact i7
  | 8, _ => exact i8
  | 9, _ => exact i9
  | 10, _ => exact i10
  | 11, _ => exact i11
  | 12, _ => exact i12
/-- How long the sign at the beginning is; 0: there is none. -/
def sgnV (l : List UInt8) : Nat := match signOf l with | some g => g.length | none => 0
def twoV (c : UInt8) (r : List UInt8) : Bool := (c == 45 && r.head? == some 62) || (c == 61 && r.head? == some 61)
def inV (c : UInt8) : Int := if ones.contains c = true then 1 else 0
theorem sgn_cons (c : UInt8) (r : List UInt8) : sgnV (c :: r) = if twoV c r = true then 2 else if ones.contains c = true then 1 else 0 := by
  unfold sgnV signOf signsS
  simp only [Lib.hasPrefix]
  by_cases h1 : c = 45
  · subst h1
    cases r with
    | nil => rfl
    | cons d q =>
      by_cases h2 : d = 62
      · subst h2; rfl
      · have e : ((62 : UInt8) == d) = false := by simpa using fun h => h2 h.symm
        have e2 : (d == (62 : UInt8)) = false := by simpa using h2
        simp [List.find?, List.isPrefixOf, e, twoV, ones, h2]
  · by_cases h2 : c = 61
    · subst h2
      cases r with
      | nil => rfl
      | cons d q =>
        by_cases h3 : d = 61
        · subst h3; rfl
        · have e : ((61 : UInt8) == d) = false := by simpa using fun h => h3 h.symm
          simp [List.find?, List.isPrefixOf, e, twoV, ones, h3]
    · have e1 : ((45 : UInt8) == c) = false := by simpa using fun h => h1 h.symm
      have e2 : ((61 : UInt8) == c) = false := by simpa using fun h => h2 h.symm
      have et : twoV c r = false := by simp [twoV, h1, h2]
      rw [et]
      by_cases a1 : c = 92
      · subst a1; simp [List.find?, List.isPrefixOf, ones]
      by_cases a2 : c = 46
      · subst a2; simp [List.find?, List.isPrefixOf, ones]
      by_cases a3 : c = 40
      · subst a3; simp [List.find?, List.isPrefixOf, ones]
      by_cases a4 : c = 41
      · subst a4; simp [List.find?, List.isPrefixOf, ones]
      by_cases a5 : c = 123
      · subst a5; simp [List.find?, List.isPrefixOf, ones]
      by_cases a6 : c = 125
      · subst a6; simp [List.find?, List.isPrefixOf, ones]
      by_cases a7 : c = 124
      · subst a7; simp [List.find?, List.isPrefixOf, ones]
      by_cases a8 : c = 43
      · subst a8; simp [List.find?, List.isPrefixOf, ones]
      by_cases a9 : c = 42
      · subst a9; simp [List.find?, List.isPrefixOf, ones]
      by_cases a10 : c = 47
      · subst a10; simp [List.find?, List.isPrefixOf, ones]
      by_cases a11 : c = 60
      · subst a11; simp [List.find?, List.isPrefixOf, ones]
      have n : ∀ x : UInt8, c ≠ x → (x == c) = false := fun x h => by simpa using fun h' => h h'.symm
      simp [List.find?, List.isPrefixOf, ones, e1, e2, n _ a1, n _ a2, n _ a3, n _ a4, n _ a5, n _ a6, n _ a7, n _ a8, n _ a9, n _ a10, n _ a11, a1, a2, a3, a4, a5, a6, a7, a8, a9, a10, a11, h1, h2]

theorem u8_eq (c x : UInt8) : ((x.toNat : Int) == (c.toNat : Int)) = decide (x = c) := by
  rw [Bool.eq_iff_iff]
  simp only [beq_iff_eq, decide_eq_true_eq]
  constructor
  · intro h; apply UInt8.toNat_inj.1; omega
  · rintro rfl; rfl
theorem none_of (c : UInt8) (h : ∀ j, j < 13 → ones.getD j 0 ≠ c) : ones.contains c = false := by
  have h0 := h 0 (by omega)
  have h1 := h 1 (by omega)
  have h2 := h 2 (by omega)
  have h3 := h 3 (by omega)
  have h4 := h 4 (by omega)
  have h5 := h 5 (by omega)
  have h6 := h 6 (by omega)
  have h7 := h 7 (by omega)
  have h8 := h 8 (by omega)
  have h9 := h 9 (by omega)
  have h10 := h 10 (by omega)
  have h11 := h 11 (by omega)
  have h12 := h 12 (by omega)
  simp only [ones, List.getD_cons_zero, List.getD_cons_succ] at h0 h1 h2 h3 h4 h5 h6 h7 h8 h9 h10 h11 h12
  simp [ones, Ne.symm h0, Ne.symm h1, Ne.symm h2, Ne.symm h3, Ne.symm h4, Ne.symm h5, Ne.symm h6, Ne.symm h7, Ne.symm h8, Ne.symm h9, Ne.symm h10, Ne.symm h11, Ne.symm h12]
theorem some_of (c : UInt8) (j : Nat) (hj : j < 13) (h : ones.getD j 0 = c) : ones.contains c = true := by
  rw [← h, List.getD_eq_getElem?_getD, List.getElem?_eq_getElem (show j < ones.length from hj)]
  simp

set_option maxHeartbeats 2000000 in
theorem rsign_loop (s : ByteArray) (k : Nat) (c : UInt8) (w : World) (hk : k < s.size) (hs : s.size ≤ 140737488351232) (hc : s[k]'hk = c)
    (h2 : s.size ≤ k + 1 ∨ (k + 1 < s.size ∧ ∃ d, (s.extract k (k + 2)).toList = [c, d] ∧ ([c, d] == [45, 62]) = false ∧ ([c, d] == [61, 61]) = false)) :
    Calls Try.prog 45 #[.string s, .int .i64 k] w fun e w' => e = .returned (.int .i64 (inV c)) ∧ ∃ q, w' = w.drewN q := by
  have i0 : (0 : Int) ≤ (k : Int) := by omega
  have i1 : (k : Int) < (s.size : Int) := by omega
  rcases h2 with h2 | ⟨h2, d, hcut, n1, n2⟩
  all_goals
    first
      | (have h3 : ¬ (k : Int) + 1 < (s.size : Int) := by omega)
      | (have h3 : (k : Int) + 1 < (s.size : Int) := by omega
         have e1 : (k : Int) + 2 ≤ (s.size : Int) := by omega
         have e2 : (0 : Int) ≤ (k : Int) + 2 := by omega
         have e3 : (k : Int) ≤ (k : Int) + 2 := by omega)
    go_enter Try.func45, Try.ntmps45
    go_wp2_with fail
    go_loopw [5] (fun v wr => ∃ (j q : Nat), j ≤ 13 ∧ v = .int .i64 j ∧ wr = w.drewN q ∧ Hid (∀ x, x < j → ones.getD x 0 ≠ c)) (fun v _ => 13 - (intOf v).toNat)
    case atStart => exact ⟨0, 0, by omega, rfl, rfl, fun x hx => by omega⟩
    case round =>
      obtain ⟨j, q, hj, rfl, rfl, HQ⟩ := hrel
      by_cases hlt : j < 13
      · have hix := fun W => one_at j hlt W
        by_cases hq : ones.getD j 0 = c
        · have HC := Lib.hid (some_of c j hlt hq)
          have heq : (((ones.getD j 0).toNat : Int) == (c.toNat : Int)) = true := by rw [u8_eq]; simpa using hq
          generalize ones.getD j 0 = b at hix heq
          clear hq
          go_wp2_with fail
          go_quiet (fail)
          go_wp2_with fail
          go_ret
          refine ⟨ret_int ?_, q + nq, by first | rfl | rw [World.drewN_drewN]⟩
          unfold inV; rw [HC.out]; rfl
        · have HN := Lib.hid hq
          have heq : (((ones.getD j 0).toNat : Int) == (c.toNat : Int)) = false := by rw [u8_eq]; simpa using hq
          have HNJ : Hid (∀ x, x < j + 1 → ones.getD x 0 ≠ c) := fun x hx => by
            rcases Nat.lt_or_ge x j with h | h
            · exact HQ.out x h
            · obtain rfl : x = j := by omega
              exact HN.out
          clear hq HN
          generalize ones.getD j 0 = b at hix heq
          go_wp2_with fail
          go_quiet (fail)
          go_wp2_with fail
          go_roundw
          case rel => exact ⟨j + 1, q + nq, by omega, by go_num, by first | rfl | rw [World.drewN_drewN], HNJ⟩
          case measure => simp [intOf]; omega
      · go_wp2_with fail
        go_ret
        obtain rfl : j = 13 := by omega
        refine ⟨ret_int ?_, q, rfl⟩
        unfold inV; rw [none_of c HQ.out]; rfl

set_option maxHeartbeats 1000000 in
theorem rsign_two (s : ByteArray) (k : Nat) (c d : UInt8) (w : World) (hk : k + 1 < s.size) (hs : s.size ≤ 140737488351232)
    (hcut : (s.extract k (k + 2)).toList = [c, d]) (h : (c = 45 ∧ d = 62) ∨ (c = 61 ∧ d = 61)) :
    Calls Try.prog 45 #[.string s, .int .i64 k] w fun e w' => e = .returned (.int .i64 2) ∧ w = w' := by
  have i0 : (0 : Int) ≤ (k : Int) := by omega
  have i1 : (k : Int) < (s.size : Int) := by omega
  have h3 : (k : Int) + 1 < (s.size : Int) := by omega
  have e1 : (k : Int) + 2 ≤ (s.size : Int) := by omega
  have e2 : (0 : Int) ≤ (k : Int) + 2 := by omega
  have e3 : (k : Int) ≤ (k : Int) + 2 := by omega
  rcases h with ⟨rfl, rfl⟩ | ⟨rfl, rfl⟩
  all_goals
    go_enter Try.func45, Try.ntmps45
    go_wp2_with fail
    go_ret
    exact ⟨rfl, rfl⟩

theorem rsign_any (s : ByteArray) (k : Nat) (w : World) (hk : k < s.size) (hs : s.size ≤ 140737488351232) :
    Calls Try.prog 45 #[.string s, .int .i64 k] w fun e w' => e = .returned (.int .i64 (sgnV (s.data.toList.drop k))) ∧ ∃ q, w' = w.drewN q := by
  have hlen : k < s.data.toList.length := by simpa using hk
  have hb : s.data.toList[k]'hlen = s[k]'hk := by simp [ByteArray.getElem_eq_getElem_data]
  have hD := List.drop_eq_getElem_cons hlen
  rw [hb] at hD
  by_cases h1 : k + 1 < s.size
  · have hlen1 : k + 1 < s.data.toList.length := by simpa using h1
    have hb1 : s.data.toList[k + 1]'hlen1 = s[k + 1]'h1 := by simp [ByteArray.getElem_eq_getElem_data]
    have hD1 := List.drop_eq_getElem_cons hlen1
    rw [hb1] at hD1
    rw [hD1] at hD
    have hcut : (s.extract k (k + 2)).toList = [s[k]'hk, s[k + 1]'h1] := by
      rw [data_list, Lib.extract_data, show k + 2 - k = 2 from by omega, hD]; rfl
    by_cases ht : (s[k]'hk = 45 ∧ s[k + 1]'h1 = 62) ∨ (s[k]'hk = 61 ∧ s[k + 1]'h1 = 61)
    · refine (rsign_two s k _ _ w h1 hs hcut ht).mono ?_
      rintro e w' ⟨rfl, rfl⟩
      refine ⟨ret_int ?_, 0, rfl⟩
      rw [hD, sgn_cons, if_pos (by rcases ht with ⟨a, b⟩ | ⟨a, b⟩ <;> simp [twoV, a, b])]
      rfl
    · have n1 : ([s[k]'hk, s[k + 1]'h1] == [45, 62]) = false := by
        simp only [beq_eq_false_iff_ne, ne_eq, List.cons.injEq, and_true]
        exact fun h => ht (.inl h)
      have n2 : ([s[k]'hk, s[k + 1]'h1] == [61, 61]) = false := by
        simp only [beq_eq_false_iff_ne, ne_eq, List.cons.injEq, and_true]
        exact fun h => ht (.inr h)
      refine (rsign_loop s k _ w hk hs rfl (.inr ⟨h1, _, hcut, n1, n2⟩)).mono ?_
      rintro e w' ⟨rfl, hq⟩
      refine ⟨ret_int ?_, hq⟩
      rw [hD, sgn_cons, if_neg (by
        intro h
        apply ht
        simp only [twoV, Bool.or_eq_true, Bool.and_eq_true, beq_iff_eq, List.head?_cons, Option.some.injEq] at h
        exact h)]
      unfold inV; split <;> rfl
  · refine (rsign_loop s k _ w hk hs rfl (.inl (by omega))).mono ?_
    rintro e w' ⟨rfl, hq⟩
    refine ⟨ret_int ?_, hq⟩
    rw [hD, List.drop_eq_nil_of_le (by rw [← Lib.size_eq]; omega), sgn_cons, if_neg (by simp [twoV])]
    unfold inV; split <;> rfl
end Lx
end Go.Proofs.Ytcgiloccmehbeaa
namespace Go.Proofs.Ytcgiloccmehbeaa
open Go.RowKit
namespace Lx
set_option maxRecDepth 100000
theorem res_tok2 {fn : Func} {p q : Tmp} (h : fn.results = #[.cell p 60, .tmp q]) {tmps : Array Value} {g : Nat} {a b c d : Value} {w : World} (hp : tmps.getD p undef = .pointer (some ⟨g, 0, none⟩)) (L : Lies w g 60 #[a, b, c, d]) :
    (results fn tmps).run Try.prog w = .ok (.tuple #[.agg #[a, b, c, d], tmps.getD q undef]) w := by
  have hl := run_loadVar_row (P := Try.prog) w g 60 60 #[a, b, c, d] (0, 0) _ L Try.underlying60 rfl (by kernel_rfl)
  have hp' : tmps[p]?.getD undef = .pointer (some ⟨g, 0, none⟩) := by simpa using hp
  simp only [results, h]
  simp [hp', asAddr, hl]
theorem cut_mid (s : ByteArray) (k n : Nat) : s.extract k (k + n) = ⟨((s.data.toList.drop k).take n).toArray⟩ := by
  rw [← toBytes (s.extract k (k + n)), Lib.extract_data, show k + n - k = n from by omega]
def noTokR (x : Int) : Value := .tuple #[.agg #[.int .i64 0, .string ⟨#[]⟩, .int .i64 0, .int .i64 0], .int .i64 x]
def tokR (kd n : Int) (t : List UInt8) (k : Nat) : Value := .tuple #[.agg #[.int .i64 kd, .string ⟨t.toArray⟩, .int .i64 n, .int .i64 k], .int .i64 0]

set_option maxHeartbeats 2000000 in
theorem one_sign (s : ByteArray) (k : Nat) (w : World) (hk : k < s.size) (hs : s.size ≤ 140737488351232) (h0 : run ldR (s.data.toList.drop k) = 0) (g : Nat) (hg : sgnV (s.data.toList.drop k) = g) (hg0 : 0 < g) (hle : k + g ≤ s.size) :
    Calls Try.prog 43 #[.string s, .int .i64 k] w fun e w' => e = .returned (tokR 5 0 ((s.data.toList.drop k).take g) k) ∧ Below w.heap.size w w' := by
  have HR := Lib.hid (rrun_any s k (w.alloc (.cells #[.int .i64 0, .string ⟨#[]⟩, .int .i64 0, .int .i64 0] 60)) (by omega) hs)
  rw [h0] at HR
  have HS := Lib.hid (rsign_any s k (w.alloc (.cells #[.int .i64 0, .string ⟨#[]⟩, .int .i64 0, .int .i64 0] 60)) hk hs)
  rw [hg] at HS
  have HC := Lib.hid (cut_mid s k g)
  have hg1 : ((g : Int) == 0) = false := by simp; omega
  have e1 : (k : Int) + (g : Int) ≤ (s.size : Int) := by omega
  have e2 : (0 : Int) ≤ (k : Int) + (g : Int) := by omega
  have e3 : (k : Int) ≤ (k : Int) + (g : Int) := by omega
  have e4 : (0 : Int) ≤ (k : Int) := by omega
  clear h0 hg
  unfold tokR
  go_enter Try.func43, Try.ntmps43
  go_wp2_with fail
  refine HR.out.mono ?_
  rintro e w' ⟨rfl, rfl⟩
  go_wp2_with fail
  refine HS.out.mono ?_
  rintro e w' ⟨rfl, q, rfl⟩
  have hL := (Lies.new w 60 #[.int .i64 0, .string ⟨#[]⟩, .int .i64 0, .int .i64 0]).drewN q
  obtain ⟨⟨c0, c1, c2, c3⟩, f0, f1, f2, f3⟩ := hL.four
  go_wp2_with fail
  refine bodyPost_ret (res_tok2 (p := 4) (q := 5) Try.results43 rfl (hL.all _ _ _ _)) rfl ⟨?_, Below.all (below_drewN ((Below.refl _ w).alloc (Nat.le_refl _) _) q) (Nat.le_refl _) _ _ _ _⟩
  rw [HC.out]; rfl
set_option maxHeartbeats 2000000 in
theorem one_none (s : ByteArray) (k : Nat) (w : World) (hk : k < s.size) (hs : s.size ≤ 140737488351232) (h0 : run ldR (s.data.toList.drop k) = 0) (hg : sgnV (s.data.toList.drop k) = 0) :
    Calls Try.prog 43 #[.string s, .int .i64 k] w fun e w' => e = .returned (noTokR 10) ∧ Below w.heap.size w w' := by
  have HR := Lib.hid (rrun_any s k (w.alloc (.cells #[.int .i64 0, .string ⟨#[]⟩, .int .i64 0, .int .i64 0] 60)) (by omega) hs)
  rw [h0] at HR
  have HS := Lib.hid (rsign_any s k (w.alloc (.cells #[.int .i64 0, .string ⟨#[]⟩, .int .i64 0, .int .i64 0] 60)) hk hs)
  rw [hg] at HS
  clear h0 hg
  unfold noTokR
  go_enter Try.func43, Try.ntmps43
  go_wp2_with fail
  refine HR.out.mono ?_
  rintro e w' ⟨rfl, rfl⟩
  go_wp2_with fail
  refine HS.out.mono ?_
  rintro e w' ⟨rfl, q, rfl⟩
  have hL := (Lies.new w 60 #[.int .i64 0, .string ⟨#[]⟩, .int .i64 0, .int .i64 0]).drewN q
  obtain ⟨⟨c0, c1, c2, c3⟩, f0, f1, f2, f3⟩ := hL.four
  go_wp2_with fail
  exact bodyPost_ret (res_tok2 (p := 4) (q := 5) Try.results43 rfl (hL.all _ _ _ _)) rfl ⟨rfl, Below.all (below_drewN ((Below.refl _ w).alloc (Nat.le_refl _) _) q) (Nat.le_refl _) _ _ _ _⟩
/-- What the walks of letters and digits share. -/
structure RunAt (s : ByteArray) (k n : Nat) (c : UInt8) (b : Bool) : Prop where
  hk : k < s.size
  hs : s.size ≤ 140737488351232
  hc : s[k]'hk = c
  hn : run ldR (s.data.toList.drop k) = n
  hb : decide (run digR (s.data.toList.drop k) < n) = b
theorem RunAt.le {s : ByteArray} {k n : Nat} {c : UInt8} {b : Bool} (h : RunAt s k n c b) : k + n ≤ s.size := by
  have := run_le ldR (s.data.toList.drop k)
  have h1 := h.hn
  have h2 := h.hk
  rw [List.length_drop, ← Lib.size_eq] at this
  omega
theorem RunAt.run {s : ByteArray} {k n : Nat} {c : UInt8} {b : Bool} (h : RunAt s k n c b) (w : World) :
    Calls Try.prog 44 #[.string s, .int .i64 k] w fun e w' => e = .returned (.tuple #[.int .i64 n, .bool b]) ∧ w = w' := by
  refine (rrun_any s k w (by have := h.hk; omega) h.hs).mono ?_
  rintro e w' ⟨rfl, rfl⟩
  exact ⟨by rw [h.hn, h.hb], rfl⟩
theorem u8_bd (c : UInt8) : (0 : Int) ≤ (c.toNat : Int) ∧ (c.toNat : Int) ≤ 255 := by have := c.toNat_lt; omega

set_option maxHeartbeats 2000000 in
theorem one_err (s : ByteArray) (k n : Nat) (c : UInt8) (b : Bool) (w : World) (h : RunAt s k n c b) (hn0 : 0 < n) (x : Int)
    (hx : (digR (c.toNat : Int) = true ∧ b = true ∧ x = 10) ∨ (digR (c.toNat : Int) = true ∧ b = false ∧ 18 < n ∧ x = 11) ∨ (digR (c.toNat : Int) = true ∧ b = false ∧ ¬ 18 < n ∧ 1 < n ∧ c = 48 ∧ x = 11) ∨
      (digR (c.toNat : Int) = false ∧ 16 < n ∧ (clsV (c.toNat : Int) == 3) = false ∧ x = 11)) :
    Calls Try.prog 43 #[.string s, .int .i64 k] w fun e w' => e = .returned (noTokR x) ∧ Below w.heap.size w w' := by
  have HR := Lib.hid h.run
  have hle := h.le
  have HC := fun w => class_any (c.toNat : Int) w (u8_bd c).1 (u8_bd c).2
  have hk := h.hk
  have hb0 : s[k]'hk = c := h.hc
  have hs := h.hs
  have hn1 : ((n : Int) == 0) = false := by simp; omega
  have e1 : (k : Int) + (n : Int) ≤ (s.size : Int) := by omega
  have e2 : (0 : Int) ≤ (k : Int) + (n : Int) := by omega
  have e3 : (k : Int) ≤ (k : Int) + (n : Int) := by omega
  have e4 : (0 : Int) ≤ (k : Int) := by omega
  have e5 : (k : Int) < (s.size : Int) := by omega
  have h3 : ∀ hd : digR (c.toNat : Int) = true, clsV (c.toNat : Int) = 3 := fun hd => by
    have a1 : lowR (c.toNat : Int) = false := by simp [digR] at hd; simp [lowR]; omega
    have a2 : upR (c.toNat : Int) = false := by simp [digR] at hd; simp [upR]; omega
    simp [clsV, a1, a2, hd]
  clear h
  unfold noTokR
  rcases hx with ⟨hd, rfl, rfl⟩ | ⟨hd, rfl, g18, rfl⟩ | ⟨hd, rfl, g18, g1, rfl, rfl⟩ | ⟨hd, g16, hc3, rfl⟩
  case inr.inr.inr =>
    have HCC := Lib.hid HC
    have g16' : (16 : Int) < (n : Int) := by omega
    generalize clsV (c.toNat : Int) = v at HCC hc3
    clear HC h3 hd
    go_enter Try.func43, Try.ntmps43
    go_wp2_with fail
    refine (HR.out _).mono ?_
    rintro e w' ⟨rfl, rfl⟩
    go_wp2_with fail
    refine (HCC.out _).mono ?_
    rintro e w' ⟨rfl, rfl⟩
    have hL := (Lies.new w 60 #[.int .i64 0, .string ⟨#[]⟩, .int .i64 0, .int .i64 0]).old (.cells #[.int .i64 0, .string (s.extract k (k + n)), .int .i64 0, .int .i64 k] 60)
    go_wp2_with fail
    exact bodyPost_ret (res_tok2 (p := 4) (q := 5) Try.results43 rfl hL) rfl ⟨rfl, ((Below.refl _ w).alloc (Nat.le_refl _) _).alloc (by simp) _⟩
  all_goals
    rw [h3 hd] at HC
    have HCC := Lib.hid HC
    clear HC h3 hd
    go_enter Try.func43, Try.ntmps43
    go_wp2_with fail
    refine (HR.out _).mono ?_
    rintro e w' ⟨rfl, rfl⟩
    go_wp2_with fail
    refine (HCC.out _).mono ?_
    rintro e w' ⟨rfl, rfl⟩
    have hL := (Lies.new w 60 #[.int .i64 0, .string ⟨#[]⟩, .int .i64 0, .int .i64 0]).old (.cells #[.int .i64 0, .string (s.extract k (k + n)), .int .i64 0, .int .i64 k] 60)
    go_wp2_with fail
    exact bodyPost_ret (res_tok2 (p := 4) (q := 5) Try.results43 rfl hL) rfl ⟨rfl, ((Below.refl _ w).alloc (Nat.le_refl _) _).alloc (by simp) _⟩
set_option maxHeartbeats 2000000 in
theorem one_num (s : ByteArray) (k n : Nat) (c : UInt8) (w : World) (h : RunAt s k n c false) (hn0 : 0 < n) (hd : digR (c.toNat : Int) = true) (h18 : ¬ 18 < n) (h0 : n ≤ 1 ∨ (1 < n ∧ ((c.toNat : Int) == 48) = false)) (hall : run digR ((s.data.toList.drop k).take n) = n) :
    Calls Try.prog 43 #[.string s, .int .i64 k] w fun e w' => e = .returned (tokR 3 (numV ((s.data.toList.drop k).take n)) ((s.data.toList.drop k).take n) k) ∧ Below w.heap.size w w' := by
  have HR := Lib.hid h.run
  have hle := h.le
  have HC := fun w => class_any (c.toNat : Int) w (u8_bd c).1 (u8_bd c).2
  have hk := h.hk
  have hb0 : s[k]'hk = c := h.hc
  have hs := h.hs
  have hn1 : ((n : Int) == 0) = false := by simp; omega
  have e1 : (k : Int) + (n : Int) ≤ (s.size : Int) := by omega
  have e2 : (0 : Int) ≤ (k : Int) + (n : Int) := by omega
  have e3 : (k : Int) ≤ (k : Int) + (n : Int) := by omega
  have e4 : (0 : Int) ≤ (k : Int) := by omega
  have e5 : (k : Int) < (s.size : Int) := by omega
  have e6 : ¬ (18 : Int) < (n : Int) := by omega
  have h3 : clsV (c.toNat : Int) = 3 := by
    have a1 : lowR (c.toNat : Int) = false := by simp [digR] at hd; simp [lowR]; omega
    have a2 : upR (c.toNat : Int) = false := by simp [digR] at hd; simp [upR]; omega
    simp [clsV, a1, a2, hd]
  rw [h3] at HC
  have HCC := Lib.hid HC
  obtain ⟨tx, htx⟩ : ∃ tx, tx = s.extract k (k + n) := ⟨_, rfl⟩
  have hdat : tx.data.toList = (s.data.toList.drop k).take n := by rw [htx, Lib.extract_data, show k + n - k = n from by omega]
  have htl : ((s.data.toList.drop k).take n).length = n := by rw [List.length_take, List.length_drop, ← Lib.size_eq]; omega
  have HNm := Lib.hid (fun w => rnumber_any tx w (by rw [hdat, hall, htl]) (by rw [Lib.size_eq, hdat, htl]; omega))
  have HTX : Hid ((⟨((s.data.toList.drop k).take n).toArray⟩ : ByteArray) = tx) := by
    show _ = _
    rw [htx, cut_mid]
  have HDT := Lib.hid hdat
  have HX := Lib.hid htx
  clear h HC h3 hd hdat htx hall htl
  unfold tokR
  rcases h0 with h0 | ⟨h0, h1⟩
  all_goals
    go_enter Try.func43, Try.ntmps43
    go_wp2_with fail
    refine (HR.out _).mono ?_
    rintro e w' ⟨rfl, rfl⟩
    go_wp2_with fail
    rw [← HX.out]
    refine (HCC.out _).mono ?_
    rintro e w' ⟨rfl, rfl⟩
    go_wp2_with fail
    refine (HNm.out _).mono ?_
    rintro e w' ⟨rfl, rfl⟩
    rw [HDT.out]
    have hL := (Lies.new w 60 #[.int .i64 3, .string tx, .int .i64 (numV ((s.data.toList.drop k).take n)), .int .i64 k]).old (.cells #[.int .i64 3, .string tx, .int .i64 (numV ((s.data.toList.drop k).take n)), .int .i64 k] 60)
    go_wp2_with fail
    exact bodyPost_ret (res_tok2 (p := 4) (q := 5) Try.results43 rfl hL) rfl ⟨by rw [HTX.out]; rfl, ((Below.refl _ w).alloc (Nat.le_refl _) _).alloc (by simp) _⟩
set_option maxHeartbeats 2000000 in
theorem one_word (s : ByteArray) (k n : Nat) (c : UInt8) (b : Bool) (w : World) (h : RunAt s k n c b) (hn0 : 0 < n) (v : Int) (hv : clsV (c.toNat : Int) = v) (h3 : (v == 3) = false) (h16 : ¬ 16 < n) (wd : Bool) (hw : wordS ((s.data.toList.drop k).take n) = wd) :
    Calls Try.prog 43 #[.string s, .int .i64 k] w fun e w' => e = .returned (tokR (cond wd 4 v) 0 ((s.data.toList.drop k).take n) k) ∧ Below w.heap.size w w' := by
  have HR := Lib.hid h.run
  have hle := h.le
  have HC := fun w => class_any (c.toNat : Int) w (u8_bd c).1 (u8_bd c).2
  have hk := h.hk
  have hb0 : s[k]'hk = c := h.hc
  have hs := h.hs
  have hn1 : ((n : Int) == 0) = false := by simp; omega
  have e1 : (k : Int) + (n : Int) ≤ (s.size : Int) := by omega
  have e2 : (0 : Int) ≤ (k : Int) + (n : Int) := by omega
  have e3 : (k : Int) ≤ (k : Int) + (n : Int) := by omega
  have e4 : (0 : Int) ≤ (k : Int) := by omega
  have e5 : (k : Int) < (s.size : Int) := by omega
  have e6 : ¬ (16 : Int) < (n : Int) := by omega
  rw [hv] at HC
  have HCC := Lib.hid HC
  obtain ⟨tx, htx⟩ : ∃ tx, tx = s.extract k (k + n) := ⟨_, rfl⟩
  have hdat : tx.data.toList = (s.data.toList.drop k).take n := by rw [htx, Lib.extract_data, show k + n - k = n from by omega]
  have HW := fun w => rword_any tx w
  rw [hdat, hw] at HW
  have HWW := Lib.hid HW
  have HTX : Hid ((⟨((s.data.toList.drop k).take n).toArray⟩ : ByteArray) = tx) := by
    show _ = _
    rw [htx, cut_mid]
  have HX := Lib.hid htx
  clear h HC hv hdat htx HW hw
  unfold tokR
  cases wd
  all_goals
    go_enter Try.func43, Try.ntmps43
    go_wp2_with fail
    refine (HR.out _).mono ?_
    rintro e w' ⟨rfl, rfl⟩
    go_wp2_with fail
    rw [← HX.out]
    refine (HCC.out _).mono ?_
    rintro e w' ⟨rfl, rfl⟩
    go_wp2_with fail
    refine (HWW.out _).mono ?_
    rintro e w' ⟨rfl, rfl⟩
  · have hL := (Lies.new w 60 #[.int .i64 v, .string tx, .int .i64 0, .int .i64 k]).old (.cells #[.int .i64 v, .string tx, .int .i64 0, .int .i64 k] 60)
    go_wp2_with fail
    exact bodyPost_ret (res_tok2 (p := 4) (q := 5) Try.results43 rfl hL) rfl ⟨by rw [HTX.out]; rfl, ((Below.refl _ w).alloc (Nat.le_refl _) _).alloc (by simp) _⟩
  · have hL := (Lies.new w 60 #[.int .i64 4, .string tx, .int .i64 0, .int .i64 k]).old (.cells #[.int .i64 4, .string tx, .int .i64 0, .int .i64 k] 60)
    go_wp2_with fail
    exact bodyPost_ret (res_tok2 (p := 4) (q := 5) Try.results43 rfl hL) rfl ⟨by rw [HTX.out]; rfl, ((Below.refl _ w).alloc (Nat.le_refl _) _).alloc (by simp) _⟩
end Lx
end Go.Proofs.Ytcgiloccmehbeaa
namespace Go.Proofs.Ytcgiloccmehbeaa
namespace Lx
set_option maxRecDepth 100000
/-- The program's reckoning, and the reference's. -/
def isTokV (l : List UInt8) (k : Int) : Bool := match allK l with | .ok [t] => decide (t.kind = k) && (t.text == l) | _ => false
def refTokV (l : List UInt8) (k : Int) : Bool := match tokK l with | .ok (kd, _, t) => decide (kd = k) && (t == l) | .error _ => false
def kindV (k : Int) (l : List UInt8) : Bool := if k = 1 then nameV l else conV l

theorem tok_cons {c : UInt8} {r : List UInt8} {kd n : Int} (h : tokK (c :: r) = .ok (kd, n, c :: r)) : allK (c :: r) = .ok [⟨kd, c :: r, n, 0⟩] := by
  have hb := blk_head h
  have h0 : run blkR (c :: r) = 0 := by simp [run, hb]
  unfold allK
  rw [h0, List.drop_zero]
  simp only [List.length_cons]
  rw [scan]
  simp only [h]
  have hd : List.drop (c :: r).length (c :: r) = [] := List.drop_length
  rw [hd]
  simp [run, scan_end]
theorem all_single {l : List UInt8} {t : Tok} (hl : l ≠ []) (h : allK l = .ok [t]) (ht : t.text = l) : ∃ n, tokK l = .ok (t.kind, n, l) := by
  unfold allK at h
  rw [scan] at h
  split at h
  · cases h
  · split at h
    · cases h
    · rename_i kd n x hx
      have h1 := tok_text hx
      split at h
      · cases h
      · rename_i rest hr
        have h2 := Except.ok.inj h
        have h3 := (List.cons.inj h2).1
        rw [← h3] at ht ⊢
        have ht' : x = l := ht
        rw [ht'] at h1 hx
        have hlen := h1.2.1
        simp only [List.length_drop] at hlen
        have hpos := List.length_pos_iff.2 hl
        have h0 : run blkR l = 0 := by omega
        rw [h0, List.drop_zero] at hx
        exact ⟨n, hx⟩
theorem allK_nil : allK [] = .ok [] := rfl
theorem isTok_ref (l : List UInt8) (k : Int) (hl : l ≠ []) : isTokV l k = refTokV l k := by
  unfold isTokV refTokV
  cases ht : tokK l with
  | error x =>
    simp only
    split
    · rename_i t ha
      by_cases he : t.text = l
      · obtain ⟨n, h⟩ := all_single hl ha he
        rw [ht] at h; cases h
      · simp [he]
    · rfl
  | ok r =>
    obtain ⟨kd, n, x⟩ := r
    simp only
    by_cases hx : x = l
    · subst hx
      obtain ⟨c, q, rfl⟩ := List.exists_cons_of_ne_nil hl
      rw [tok_cons ht]
    · have e : (x == l) = false := by simpa using hx
      rw [e, Bool.and_false]
      split
      · rename_i t ha
        by_cases he : t.text = l
        · obtain ⟨n', h⟩ := all_single hl ha he
          rw [ht] at h
          simp only [Except.ok.injEq, Prod.mk.injEq] at h
          exact absurd h.2.2 hx
        · simp [he]
      · rfl
theorem isTok_nil (k : Int) : isTokV [] k = false := rfl

theorem run_pos_iff (P : Int → Bool) (c : UInt8) (r : List UInt8) : (0 < run P (c :: r)) ↔ P (c.toNat : Int) = true := by
  cases h : P (c.toNat : Int) <;> simp [run, h]
theorem numK_kind {l : List UInt8} {kd n : Int} (h : numK l = .ok (kd, n)) : kd = 3 := by
  unfold numK at h
  split at h
  · cases h
  · split at h
    · cases h
    · cases h; rfl
theorem refTok_kind (l : List UInt8) (k : Int) (hk : k = 1 ∨ k = 2) (hl : l ≠ []) : refTokV l k = kindV k l := by
  obtain ⟨c, q, rfl⟩ := List.exists_cons_of_ne_nil hl
  have hle := run_le ldR (c :: q)
  unfold refTokV
  by_cases hw : run ldR (c :: q) = (c :: q).length
  · have hp : 0 < run ldR (c :: q) := by rw [hw]; simp
    have ht : (c :: q).take (run ldR (c :: q)) = c :: q := by rw [hw]; exact List.take_length
    have hL : ldR (c.toNat : Int) = true := (run_pos_iff _ _ _).1 hp
    unfold tokK
    rw [if_pos hp, ht]
    unfold kindV nameV conV
    rw [hw]
    unfold runK
    simp only [run_pos_iff]
    by_cases hd : digR (c.toNat : Int) = true
    · have e1 : lowR (c.toNat : Int) = false := by simp [digR] at hd; simp [lowR]; omega
      have e2 : upR (c.toNat : Int) = false := by simp [digR] at hd; simp [upR]; omega
      rw [if_pos hd]
      cases hn : numK (c :: q) with
      | error x => simp [e1, e2]
      | ok r =>
        obtain ⟨kd, n⟩ := r
        have := numK_kind hn
        subst this
        rcases hk with rfl | rfl <;> simp [e1, e2]
    · rw [if_neg hd]
      by_cases h16 : 16 < (c :: q).length
      · rw [if_pos h16]
        have e : decide ((c :: q).length ≤ 16) = false := by simp only [decide_eq_false_iff_not]; omega
        rcases hk with rfl | rfl <;> simp only [e] <;> simp
      · rw [if_neg h16]
        have e : decide ((c :: q).length ≤ 16) = true := by simp only [decide_eq_true_eq]; omega
        by_cases hwd : wordS (c :: q) = true
        · rw [if_pos hwd]
          have hlow : lowR (c.toNat : Int) = true := by
            simp [wordS] at hwd
            rcases hwd with ⟨rfl, _⟩ | ⟨rfl, _⟩ | ⟨rfl, _⟩ | ⟨rfl, _⟩ | ⟨rfl, _⟩ <;> rfl
          have hup : upR (c.toNat : Int) = false := by simp [lowR] at hlow; simp [upR]; omega
          rcases hk with rfl | rfl <;> simp [hwd, hup]
        · rw [if_neg hwd]
          have hwd' : wordS (c :: q) = false := by simpa using hwd
          cases hlow : lowR (c.toNat : Int)
          · have hup : upR (c.toNat : Int) = true := by
              simp [ldR, hlow, hd] at hL
              exact hL
            rcases hk with rfl | rfl <;> simp only [e, hup, hwd'] <;> simp
          · have hup : upR (c.toNat : Int) = false := by simp [lowR] at hlow; simp [upR]; omega
            rcases hk with rfl | rfl <;> simp only [e, hup, hwd'] <;> simp
  · have hf : kindV k (c :: q) = false := by
      unfold kindV nameV conV
      have e : decide (run ldR (c :: q) = (c :: q).length) = false := by simpa using hw
      rcases hk with rfl | rfl <;> simp only [e] <;> simp
    rw [hf]
    cases ht : tokK (c :: q) with
    | error x => rfl
    | ok r =>
      obtain ⟨kd, n, x⟩ := r
      simp only
      unfold tokK at ht
      split at ht
      · split at ht
        · simp only [Except.ok.injEq, Prod.mk.injEq] at ht
          obtain ⟨rfl, rfl, rfl⟩ := ht
          have e : ((c :: q).take (run ldR (c :: q)) == c :: q) = false := by
            rw [beq_eq_false_iff_ne]
            intro e
            have := congrArg List.length e
            rw [List.length_take] at this
            omega
          rw [e, Bool.and_false]
        · cases ht
      · split at ht
        · simp only [Except.ok.injEq, Prod.mk.injEq] at ht
          obtain ⟨rfl, rfl, rfl⟩ := ht
          rcases hk with rfl | rfl <;> rfl
        · cases ht
theorem isTok_kind (l : List UInt8) (k : Int) (hk : k = 1 ∨ k = 2) : isTokV l k = kindV k l := by
  by_cases hl : l = []
  · subst hl; rcases hk with rfl | rfl <;> rfl
  · rw [isTok_ref l k hl, refTok_kind l k hk hl]
theorem kindV_long (l : List UInt8) (k : Int) (h : 16 < l.length) : kindV k l = false := by
  unfold kindV nameV conV
  have e : decide (l.length ≤ 16) = false := by simp only [decide_eq_false_iff_not]; omega
  split <;> simp [e]
end Lx
end Go.Proofs.Ytcgiloccmehbeaa
namespace Go.Proofs.Ytcgiloccmehbeaa
open Go.RowKit
namespace Lx
set_option maxRecDepth 100000
theorem below_al {w wr w2 : World} {o : Obj} (hbw : Below w.heap.size w wr) (hb2 : Below (wr.alloc o).heap.size (wr.alloc o) w2) : Below w.heap.size w w2 :=
  (hbw.alloc hbw.size _).trans (hb2.mono (by have := hbw.size; simp; omega))
end Lx
end Go.Proofs.Ytcgiloccmehbeaa
namespace Go.Proofs.Ytcgiloccmehbeaa
open Go.RowKit
namespace Lx
set_option maxRecDepth 100000
theorem run_take_min (P : Int → Bool) : ∀ (l : List UInt8) (n : Nat), run P (l.take n) = min (run P l) n
  | [], n => by simp [run]
  | c :: l, 0 => by simp [run]
  | c :: l, n + 1 => by
    have := run_take_min P l n
    by_cases h : P (c.toNat : Int)
    · simp only [List.take_succ_cons, run, h, if_true, this]; omega
    · simp [run, h]
theorem b48' (c : UInt8) : ((c.toNat : Int) == 48) = decide (c = 48) := b48 c
theorem one_both (s : ByteArray) (k : Nat) (w : World) (hk : k < s.size) (hs : s.size ≤ 140737488351232) :
    Calls Try.prog 43 #[.string s, .int .i64 k] w fun e w' =>
      (∀ kd n t, tokK (s.data.toList.drop k) = .ok (kd, n, t) → e = .returned (tokR kd n t k)) ∧ (∀ x, tokK (s.data.toList.drop k) = .error x → e = .returned (noTokR x)) ∧ Below w.heap.size w w' := by
  have hlen : k < s.data.toList.length := by simpa using hk
  have hb : s.data.toList[k]'hlen = s[k]'hk := by simp [ByteArray.getElem_eq_getElem_data]
  have hD := List.drop_eq_getElem_cons hlen
  rw [hb] at hD
  obtain ⟨c, hc⟩ : ∃ c, s[k]'hk = c := ⟨_, rfl⟩
  rw [hc] at hD
  obtain ⟨D, hDD⟩ : ∃ D, D = s.data.toList.drop k := ⟨_, rfl⟩
  obtain ⟨r, hr⟩ : ∃ r, r = s.data.toList.drop (k + 1) := ⟨_, rfl⟩
  rw [← hDD, ← hr] at hD
  obtain ⟨N, hN⟩ : ∃ N, run ldR D = N := ⟨_, rfl⟩
  have hNle := run_le ldR D
  have hDl : D.length = s.size - k := by rw [hDD, List.length_drop, ← Lib.size_eq]
  rcases Nat.eq_zero_or_pos N with h0 | h0
  · have ht : tokK D = match signOf D with | some g => .ok (5, 0, g) | none => .error 10 := by
      unfold tokK; rw [if_neg (by omega)]
      cases signOf D <;> rfl
    rw [← hDD]
    cases hg : signOf D with
    | none =>
      rw [hg] at ht
      refine (one_none s k w hk hs (by rw [← hDD, hN, h0]) (by rw [← hDD]; unfold sgnV; rw [hg])).mono ?_
      rintro e w' ⟨rfl, hb⟩
      refine ⟨fun kd n t h => ?_, fun x h => ?_, hb⟩
      · rw [ht] at h; cases h
      · rw [ht] at h; cases h; rfl
    | some g =>
      rw [hg] at ht
      have htt := tok_text ht
      refine (one_sign s k w hk hs (by rw [← hDD, hN, h0]) g.length (by rw [← hDD]; unfold sgnV; rw [hg]) htt.1 (by omega)).mono ?_
      rintro e w' ⟨rfl, hb⟩
      refine ⟨fun kd n t h => ?_, fun x h => ?_, hb⟩
      · rw [ht] at h
        simp only [Except.ok.injEq, Prod.mk.injEq] at h
        obtain ⟨rfl, rfl, rfl⟩ := h
        rw [← hDD, htt.2.2]
      · rw [ht] at h; cases h
  · obtain ⟨L, hL⟩ : ∃ L, L = D.take N := ⟨_, rfl⟩
    have hLl : L.length = N := by rw [hL, List.length_take]; omega
    have hLc : ∃ q, L = c :: q := by
      rw [hL, hD]
      obtain ⟨m, rfl⟩ : ∃ m, N = m + 1 := ⟨N - 1, by omega⟩
      exact ⟨_, List.take_succ_cons⟩
    have hdl : run digR L = min (run digR D) N := by rw [hL, run_take_min]
    have ht : tokK D = match runK L with | .ok (k, n) => .ok (k, n, L) | .error e => .error e := by
      unfold tokK; rw [if_pos (by omega), hN, ← hL]
      rcases runK L with e | ⟨a, b⟩ <;> rfl
    have hld : ldR (c.toNat : Int) = true := (run_pos_iff ldR c r).1 (by rw [← hD, hN]; exact h0)
    have hR : ∀ b, decide (run digR D < N) = b → RunAt s k N c b := fun b hb => ⟨hk, hs, hc, by rw [← hDD, hN], by rw [← hDD]; exact hb⟩
    have hLD : (s.data.toList.drop k).take N = L := by rw [← hDD, hL]
    rw [← hDD]
    obtain ⟨q, hq⟩ := hLc
    by_cases hd : digR (c.toNat : Int) = true
    · have h1 : 0 < run digR L := by rw [hq]; exact (run_pos_iff digR c q).2 hd
      have hrk : runK L = numK L := by unfold runK; rw [if_pos h1]
      by_cases hlt : run digR D < N
      · have hn : numK L = .error 10 := by unfold numK; rw [if_pos (by omega)]
        rw [hrk, hn] at ht
        refine (one_err s k N c true w (hR _ (by simpa using hlt)) h0 10 (.inl ⟨hd, rfl, rfl⟩)).mono ?_
        rintro e w' ⟨rfl, hb⟩
        refine ⟨fun kd n t h => ?_, fun x h => ?_, hb⟩
        · rw [ht] at h; cases h
        · rw [ht] at h; cases h; rfl
      · have hRf := hR false (by simpa using hlt)
        have hnd : ¬ run digR L < L.length := by omega
        by_cases h18 : 18 < N
        · have hn : numK L = .error 11 := by unfold numK; rw [if_neg hnd, if_pos (.inl (by omega))]
          rw [hrk, hn] at ht
          refine (one_err s k N c false w hRf h0 11 (.inr (.inl ⟨hd, rfl, h18, rfl⟩))).mono ?_
          rintro e w' ⟨rfl, hb⟩
          refine ⟨fun kd n t h => ?_, fun x h => ?_, hb⟩
          · rw [ht] at h; cases h
          · rw [ht] at h; cases h; rfl
        · by_cases hz : 1 < N ∧ c = 48
          · have hn : numK L = .error 11 := by unfold numK; rw [if_neg hnd, if_pos (.inr ⟨by omega, by rw [hq, hz.2]; rfl⟩)]
            rw [hrk, hn] at ht
            refine (one_err s k N c false w hRf h0 11 (.inr (.inr (.inl ⟨hd, rfl, h18, hz.1, hz.2, rfl⟩)))).mono ?_
            rintro e w' ⟨rfl, hb⟩
            refine ⟨fun kd n t h => ?_, fun x h => ?_, hb⟩
            · rw [ht] at h; cases h
            · rw [ht] at h; cases h; rfl
          · have hn : numK L = .ok (3, numV L) := by
              unfold numK
              rw [if_neg hnd, if_neg]
              rintro (h | ⟨h, h'⟩)
              · omega
              · rw [hq] at h'
                exact hz ⟨by omega, by simpa using h'⟩
            rw [hrk, hn] at ht
            refine (one_num s k N c w hRf h0 hd h18 ?_ (by rw [hLD, hdl]; omega)).mono ?_
            · by_cases h1' : 1 < N
              · refine .inr ⟨h1', ?_⟩
                rw [b48', decide_eq_false]
                exact fun h => hz ⟨h1', h⟩
              · exact .inl (by omega)
            rintro e w' ⟨rfl, hb⟩
            refine ⟨fun kd n t h => ?_, fun x h => ?_, hb⟩
            · rw [ht] at h
              simp only [Except.ok.injEq, Prod.mk.injEq] at h
              obtain ⟨rfl, rfl, rfl⟩ := h
              rw [hLD]
            · rw [ht] at h; cases h
    · have hd' : digR (c.toNat : Int) = false := by simpa using hd
      have h1 : ¬ 0 < run digR L := by rw [hq, run_pos_iff]; exact hd
      obtain ⟨b, hb'⟩ : ∃ b, decide (run digR D < N) = b := ⟨_, rfl⟩
      have hlu : lowR (c.toNat : Int) = true ∨ (lowR (c.toNat : Int) = false ∧ upR (c.toNat : Int) = true) := by
        simp only [ldR, hd', Bool.or_false] at hld
        cases h : lowR (c.toNat : Int)
        · rw [h] at hld; exact .inr ⟨rfl, by simpa using hld⟩
        · exact .inl rfl
      have hcv : clsV (c.toNat : Int) = if 0 < run lowR L then 1 else 2 := by
        rw [hq]
        simp only [run_pos_iff]
        rcases hlu with h | ⟨h, h'⟩
        · simp [clsV, h]
        · simp [clsV, h, h']
      have hc3 : (clsV (c.toNat : Int) == 3) = false := by rw [hcv]; split <;> rfl
      by_cases h16 : 16 < N
      · have hrk : runK L = .error 11 := by unfold runK; rw [if_neg h1, if_pos (by omega)]
        rw [hrk] at ht
        refine (one_err s k N c b w (hR b hb') h0 11 (.inr (.inr (.inr ⟨hd', h16, hc3, rfl⟩)))).mono ?_
        rintro e w' ⟨rfl, hb⟩
        refine ⟨fun kd n t h => ?_, fun x h => ?_, hb⟩
        · rw [ht] at h; cases h
        · rw [ht] at h; cases h; rfl
      · refine (one_word s k N c b w (hR b hb') h0 _ rfl hc3 h16 (wordS L) (by rw [hLD])).mono ?_
        rintro e w' ⟨rfl, hb⟩
        have hrk : runK L = .ok (cond (wordS L) 4 (clsV (c.toNat : Int)), 0) := by
          unfold runK
          rw [if_neg h1, if_neg (by omega), hcv]
          cases wordS L
          · by_cases hp : 0 < run lowR L <;> simp [hp]
          · simp
        rw [hrk] at ht
        refine ⟨fun kd n t h => ?_, fun x h => ?_, hb⟩
        · rw [ht] at h
          simp only [Except.ok.injEq, Prod.mk.injEq] at h
          obtain ⟨rfl, rfl, rfl⟩ := h
          rw [hLD]
        · rw [ht] at h; cases h
end Lx
end Go.Proofs.Ytcgiloccmehbeaa
