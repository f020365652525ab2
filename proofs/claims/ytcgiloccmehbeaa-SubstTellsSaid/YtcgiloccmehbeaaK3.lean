/-
  Texts that lie one behind the other: Tr Tin HeldK OwnLe.
-/
import Derived.Test.YtcgiloccmehbeaaK1
import Derived.Test.YtcgiloccmehbeaaProg
import Derived.WalkKit
import Derived.Deep.RegionHeld
namespace Go.Proofs.Ytcgiloccmehbeaa
namespace Lx
set_option maxRecDepth 100000

inductive Tr where
  | node (kind : Int) (name : ByteArray) (n : Int) (place : Int) (l : List Tr)

def Tr.kind : Tr → Int | .node k _ _ _ _ => k
def Tr.name : Tr → ByteArray | .node _ s _ _ _ => s
def Tr.n : Tr → Int | .node _ _ n _ _ => n
def Tr.place : Tr → Int | .node _ _ _ a _ => a
def Tr.parts : Tr → List Tr | .node _ _ _ _ l => l

mutual
def depthT : Tr → Nat
  | .node _ _ _ _ l => depthL l + 1
def depthL : List Tr → Nat
  | [] => 0
  | t :: r => max (depthT t) (depthL r)
end
mutual
def sizeT : Tr → Nat
  | .node _ _ _ _ l => sizeL l + 1
def sizeL : List Tr → Nat
  | [] => 0
  | t :: r => sizeT t + sizeL r
end
mutual
/-- How many of so many parts are left; -1: there are more, or they lie deeper. -/
def fewT : Tr → Int → Int → Int
  | .node _ _ _ _ l, left, deep => if left < 1 ∨ deep < 1 then -1 else fewL l (left - 1) (deep - 1)
def fewL : List Tr → Int → Int → Int
  | [], left, _ => left
  | t :: r, left, deep => if fewT t left deep < 0 then -1 else fewL r (fewT t left deep) deep
end
mutual
/-- Bare. -/
def bareT : Tr → Tr
  | .node k s n _ l => .node k s n 0 (bareL l)
def bareL : List Tr → List Tr
  | [] => []
  | t :: r => bareT t :: bareL r
end
mutual
/-- The same, but for places. -/
def sameT : Tr → Tr → Bool
  | .node k s n _ l, .node k' s' n' _ l' => decide (k = k') && (decide (s = s') && (decide (n = n') && sameL l l'))
def sameL : List Tr → List Tr → Bool
  | [], [] => true
  | t :: r, t' :: r' => sameT t t' && sameL r r'
  | _, _ => false
end
mutual
/-- The same, places and all. -/
def oneT : Tr → Tr → Bool
  | .node k s n a l, .node k' s' n' a' l' => decide (k = k') && (decide (s = s') && (decide (n = n') && (decide (a = a') && oneL l l')))
def oneL : List Tr → List Tr → Bool
  | [], [] => true
  | t :: r, t' :: r' => oneT t t' && oneL r r'
  | _, _ => false
end

/-- Is a text a token's of kind 1, or of kind 2? -/
def nameV (l : List UInt8) : Bool := decide (0 < run lowR l) && (decide (run ldR l = l.length) && (decide (l.length ≤ 16) && !wordS l))
def conV (l : List UInt8) : Bool := decide (0 < run upR l) && (decide (run ldR l = l.length) && decide (l.length ≤ 16))
def opV (l : List UInt8) : Bool := l == [43] || (l == [45] || (l == [42] || (l == [47] || (l == [60] || l == [61, 61]))))
/-- What a tree's Name is to be, by number: 0 empty, 1 a name, 2 a constructor's, 3 an operator's. -/
def whatV (w : Int) (l : List UInt8) : Bool := if w = 1 then nameV l else if w = 2 then conV l else if w = 3 then opV l else l == []

/-- What trees of a kind have: what their Name is, N at most, parts at least and at most. -/
def shapeV (k : Int) : Option (Int × Int × Int × Int) :=
  if k = 1 then some (1, 0, 0, 0) else if k = 2 then some (1, 0, 1, 1) else if k = 3 then some (0, 0, 2, 2) else if k = 4 then some (1, 0, 2, 2) else if k = 5 then some (1, 0, 2, 2)
  else if k = 6 then some (2, 0, 0, 8) else if k = 7 then some (0, 0, 2, 9) else if k = 8 then some (2, 8, 1, 9) else if k = 9 then some (0, 999999999999999999, 0, 0) else if k = 10 then some (3, 0, 2, 2) else none
/-- Does a tree fit a shape, whatever its parts are? -/
def fitsV (h : Int × Int × Int × Int) (k : Int) (s : List UInt8) (n a : Int) (m : Nat) : Bool :=
  if a < 0 ∨ n < 0 ∨ h.2.1 < n then false
  else if (m : Int) < h.2.2.1 ∨ h.2.2.2 < (m : Int) then false
  else if k = 8 ∧ (m : Int) ≠ n + 1 then false
  else whatV h.1 s
/-- May part number i of a tree be of kind p? -/
def standsV (k n : Int) (i : Nat) (p : Int) : Bool :=
  if k = 7 ∧ 0 < i then decide (p = 8) else if k = 8 ∧ (i : Int) < n then decide (p = 1) else decide (p ≠ 8)
mutual
/-- The program's own reckoning. -/
def mayT : Tr → Bool
  | .node k s n a l =>
    match shapeV k with
    | some h => fitsV h k s.data.toList n a l.length && mayL k n 0 l
    | none => false
def mayL (k n : Int) : Nat → List Tr → Bool
  | _, [] => true
  | i, t :: r => standsV k n i t.kind && (mayT t && mayL k n (i + 1) r)
end
/-- The reference's reckoning. -/
def nameOkV (k : Int) (s : List UInt8) : Bool :=
  if k = 1 ∨ k = 2 ∨ k = 4 ∨ k = 5 then nameV s else if k = 6 ∨ k = 8 then conV s else if k = 10 then opV s else s == []
def partsV (k n : Int) (m : Nat) : Bool :=
  if k = 1 then decide (m = 0) && decide (n = 0) else if k = 2 then decide (m = 1) && decide (n = 0)
  else if k = 3 ∨ k = 4 ∨ k = 5 ∨ k = 10 then decide (m = 2) && decide (n = 0) else if k = 6 then decide (m ≤ 8) && decide (n = 0)
  else if k = 7 then decide (2 ≤ m) && (decide (m ≤ 9) && decide (n = 0)) else if k = 8 then decide (0 ≤ n) && (decide (n ≤ 8) && decide ((m : Int) = n + 1))
  else if k = 9 then decide (m = 0) && (decide (0 ≤ n) && decide (n < 1000000000000000000)) else false
mutual
def mayRT : Tr → Bool → Bool
  | .node k s n a l, alt => (decide (k = 8) == alt) && (nameOkV k s.data.toList && (partsV k n l.length && (decide (0 ≤ a) && mayRL k n 0 l)))
def mayRL (k n : Int) : Nat → List Tr → Bool
  | _, [] => true
  | i, t :: r => !(decide (k = 8) && (decide ((i : Int) < n) && decide (t.kind ≠ 1))) && (mayRT t (decide (k = 7) && decide (0 < i)) && mayRL k n (i + 1) r)
end

theorem fits_eq (k : Int) (s : List UInt8) (n a : Int) (m : Nat) :
    (match shapeV k with | some h => fitsV h k s n a m | none => false) = (nameOkV k s && (partsV k n m && decide (0 ≤ a))) := by
  by_cases ha : 0 ≤ a
  · have ha' : ¬ a < 0 := by omega
    rcases (by omega : k = 1 ∨ k = 2 ∨ k = 3 ∨ k = 4 ∨ k = 5 ∨ k = 6 ∨ k = 7 ∨ k = 8 ∨ k = 9 ∨ k = 10 ∨ (k < 1 ∨ 10 < k)) with rfl | rfl | rfl | rfl | rfl | rfl | rfl | rfl | rfl | rfl | hk
    case inr.inr.inr.inr.inr.inr.inr.inr.inr.inr =>
      have e : ∀ j : Int, 1 ≤ j → j ≤ 10 → k ≠ j := by omega
      simp [shapeV, partsV, e 1, e 2, e 3, e 4, e 5, e 6, e 7, e 8, e 9, e 10]
    all_goals
      simp only [shapeV, fitsV, nameOkV, partsV, whatV]
      simp [ha, ha']
      generalize nameV s = b1
      generalize conV s = b2
      generalize opV s = b3
      rw [Bool.eq_iff_iff]
      by_cases e0 : s = []
      all_goals
        cases b1 <;> cases b2 <;> cases b3 <;> simp [e0] <;> omega
  · have ha' : a < 0 := by omega
    have e : decide (0 ≤ a) = false := by simp; omega
    rw [e]
    simp only [Bool.and_false]
    cases shapeV k <;> simp [fitsV, ha']

mutual
theorem may_eq : ∀ (t : Tr) (alt : Bool), mayRT t alt = ((decide (t.kind = 8) == alt) && mayT t)
  | .node k s n a l, alt => by
    rw [mayRT, mayT, may_eqL k n l 0]
    have h := fits_eq k s.data.toList n a l.length
    show _ = ((decide (k = 8) == alt) && _)
    cases hs : shapeV k with
    | none =>
      rw [hs] at h
      have h' : (nameOkV k s.data.toList && (partsV k n l.length && decide (0 ≤ a))) = false := h.symm
      show ((decide (k = 8) == alt) && (nameOkV k s.data.toList && (partsV k n l.length && (decide (0 ≤ a) && mayL k n 0 l)))) = ((decide (k = 8) == alt) && false)
      cases h1 : nameOkV k s.data.toList <;> cases h2 : partsV k n l.length <;> cases h3 : decide (0 ≤ a) <;> simp_all
    | some h0 =>
      rw [hs] at h
      have h' : fitsV h0 k s.data.toList n a l.length = (nameOkV k s.data.toList && (partsV k n l.length && decide (0 ≤ a))) := h
      show _ = ((decide (k = 8) == alt) && (fitsV h0 k s.data.toList n a l.length && mayL k n 0 l))
      rw [h']
      simp [Bool.and_assoc]
theorem may_eqL : ∀ (k n : Int) (l : List Tr) (i : Nat), mayRL k n i l = mayL k n i l
  | k, n, [], i => rfl
  | k, n, t :: r, i => by
    rw [mayRL, mayL, may_eqL k n r (i + 1), may_eq t]
    unfold standsV
    cases mayT t
    · simp
    · by_cases h7 : k = 7
      · subst h7
        by_cases hi : 0 < i <;> simp [hi]
      · by_cases h8 : k = 8
        · subst h8
          by_cases hi : (i : Int) < n
          · by_cases h1 : t.kind = 1
            · simp [h1, hi]
            · simp [h1, hi]
          · simp [hi]
        · simp [h7, h8]
end

theorem depthL_snoc (l : List Tr) (t : Tr) : depthL (l ++ [t]) = max (depthL l) (depthT t) := by
  induction l with
  | nil => simp [depthL]
  | cons a r ih => simp only [List.cons_append, depthL, ih]; omega
theorem sizeL_snoc (l : List Tr) (t : Tr) : sizeL (l ++ [t]) = sizeL l + sizeT t := by
  induction l with
  | nil => simp [sizeL]
  | cons a r ih => simp only [List.cons_append, sizeL, ih]; omega
theorem bareL_map (l : List Tr) : bareL l = l.map bareT := by
  induction l with
  | nil => rfl
  | cons a r ih => simp [bareL, ih]
theorem depth_pos (t : Tr) : 0 < depthT t := by cases t; simp [depthT]
theorem size_pos (t : Tr) : 0 < sizeT t := by cases t; simp [sizeT]
theorem depthL_mem : ∀ (l : List Tr) (t : Tr), t ∈ l → depthT t ≤ depthL l
  | [], t, h => by simp at h
  | a :: r, t, h => by
    rw [depthL]
    rcases List.mem_cons.1 h with rfl | h
    · omega
    · have := depthL_mem r t h; omega
theorem sizeL_mem : ∀ (l : List Tr) (t : Tr), t ∈ l → sizeT t ≤ sizeL l
  | [], t, h => by simp at h
  | a :: r, t, h => by
    rw [sizeL]
    rcases List.mem_cons.1 h with rfl | h
    · omega
    · have := sizeL_mem r t h; omega
theorem sizeL_len : ∀ l : List Tr, l.length ≤ sizeL l
  | [] => by simp [sizeL]
  | a :: r => by
    have := sizeL_len r
    have := size_pos a
    simp only [List.length_cons, sizeL]; omega
mutual
theorem depth_le_size : ∀ t : Tr, depthT t ≤ sizeT t
  | .node _ _ _ _ l => by rw [depthT, sizeT]; have := depthL_le_size l; omega
theorem depthL_le_size : ∀ l : List Tr, depthL l ≤ sizeL l
  | [] => by simp [depthL]
  | t :: r => by rw [depthL, sizeL]; have := depth_le_size t; have := depthL_le_size r; omega
end
theorem depthL_take (l : List Tr) (i : Nat) : depthL (l.take i) ≤ depthL l := by
  induction l generalizing i with
  | nil => simp
  | cons a r ih =>
    cases i with
    | zero => simp [depthL]
    | succ i => simp only [List.take_succ_cons, depthL]; have := ih i; omega
theorem sizeL_take (l : List Tr) (i : Nat) : sizeL (l.take i) ≤ sizeL l := by
  induction l generalizing i with
  | nil => simp
  | cons a r ih =>
    cases i with
    | zero => simp [sizeL]
    | succ i => simp only [List.take_succ_cons, sizeL]; have := ih i; omega

theorem sameL_len : ∀ l l' : List Tr, sameL l l' = true → l.length = l'.length
  | [], [], _ => rfl
  | [], _ :: _, h => by simp [sameL] at h
  | _ :: _, [], h => by simp [sameL] at h
  | a :: r, a' :: r', h => by
    rw [sameL, Bool.and_eq_true] at h
    simp [sameL_len r r' h.2]
theorem oneL_len : ∀ l l' : List Tr, oneL l l' = true → l.length = l'.length
  | [], [], _ => rfl
  | [], _ :: _, h => by simp [oneL] at h
  | _ :: _, [], h => by simp [oneL] at h
  | a :: r, a' :: r', h => by
    rw [oneL, Bool.and_eq_true] at h
    simp [oneL_len r r' h.2]
mutual
theorem few_size : ∀ (t : Tr) (a d : Int), 0 ≤ fewT t a d → (sizeT t : Int) + fewT t a d = a ∧ (depthT t : Int) ≤ d
  | .node _ _ _ _ l, a, d, h => by
    rw [fewT] at h ⊢
    split at h
    · omega
    · rename_i h1
      rw [if_neg h1]
      have h2 := few_sizeL l (a - 1) (d - 1) h
      rw [sizeT, depthT]
      rcases h2.2 with h4 | rfl
      · omega
      · simp only [depthL, sizeL] at h2 ⊢
        omega
theorem few_sizeL : ∀ (l : List Tr) (a d : Int), 0 ≤ fewL l a d → (sizeL l : Int) + fewL l a d = a ∧ ((depthL l : Int) ≤ d ∨ l = [])
  | [], a, d, h => by simp [fewL, sizeL]
  | t :: r, a, d, h => by
    rw [fewL] at h ⊢
    split at h
    · omega
    · rename_i h1
      rw [if_neg h1]
      have h2 := few_size t a d (by omega)
      have h3 := few_sizeL r (fewT t a d) d h
      rw [sizeL, depthL]
      refine ⟨by omega, .inl ?_⟩
      rcases h3.2 with h4 | rfl
      · omega
      · simp [depthL]; omega
end
end Lx
end Go.Proofs.Ytcgiloccmehbeaa
namespace Go.Proofs.Ytcgiloccmehbeaa
open Go.RowKit
namespace Lx
set_option maxRecDepth 100000
/-- A capacity is no less than the length. -/
def capF (n c : Nat) : Nat := max n c
theorem le_capF (n c : Nat) : n ≤ capF n c := Nat.le_max_left n c
theorem capF_of {n c : Nat} (h : n ≤ c) : capF n c = c := Nat.max_eq_right h
theorem own_sliceF {w : World} {base : Nat} {e : TypeId} {size : Nat} {v : Value} {n : Nat} {xs : List Value} (h : w.ownsRow base e size v n xs) : ∃ A c, v = .slice A n (capF n c) := by
  rcases h.2 with ⟨rfl, rfl⟩ | ⟨g, cap, cur, rfl, _, _, hle, _⟩
  · exact ⟨_, 0, rfl⟩
  · exact ⟨_, cap, by rw [capF_of hle]⟩
/-- Whatever block. -/
def Any : Nat → Prop := fun _ => True
mutual
/-- The parts of a tree lie from A on, in blocks of which X holds. -/
def TIn (w : World) (X : Nat → Prop) : Tr → Option Addr → Prop
  | .node _ s _ _ l, A => s.size ≤ 140737488351232 ∧ l.length ≤ 140737488351232 ∧ LIn w X l A 0
def LIn (w : World) (X : Nat → Prop) : List Tr → Option Addr → Nat → Prop
  | [], _, _ => True
  | t :: r, A, i => (∃ g o A' c, (A = some ⟨g, o, none⟩ ∧ X g) ∧ w.cell? ⟨g, o + i * 5, none⟩ = some (.int .i64 t.kind) ∧ w.cell? ⟨g, o + i * 5 + 1, none⟩ = some (.string t.name) ∧
      w.cell? ⟨g, o + i * 5 + 2, none⟩ = some (.int .i64 t.n) ∧ w.cell? ⟨g, o + i * 5 + 3, none⟩ = some (.int .i64 t.place) ∧
      w.cell? ⟨g, o + i * 5 + 4, none⟩ = some (.slice A' t.parts.length (capF t.parts.length c)) ∧ TIn w X t A') ∧ LIn w X r A (i + 1)
end
/-- A tree as a value. -/
def tv (t : Tr) (A : Option Addr) (c : Nat) : Value := .agg #[.int .i64 t.kind, .string t.name, .int .i64 t.n, .int .i64 t.place, .slice A t.parts.length (capF t.parts.length c)]

mutual
theorem TIn.keep : ∀ (t : Tr) {w w' : World} {X Y : Nat → Prop} {A : Option Addr}, TIn w X t A → (∀ g j, X g → g < w.heap.size → w'.cell? ⟨g, j, none⟩ = w.cell? ⟨g, j, none⟩ ∧ Y g) → TIn w' Y t A
  | .node k s n a l, w, w', X, Y, A, h, hk => by
    rw [TIn] at h ⊢
    exact ⟨h.1, h.2.1, LIn.keep l h.2.2 hk⟩
theorem LIn.keep : ∀ (l : List Tr) {w w' : World} {X Y : Nat → Prop} {A : Option Addr} {i : Nat}, LIn w X l A i → (∀ g j, X g → g < w.heap.size → w'.cell? ⟨g, j, none⟩ = w.cell? ⟨g, j, none⟩ ∧ Y g) → LIn w' Y l A i
  | [], w, w', X, Y, A, i, _, _ => by rw [LIn]; trivial
  | t :: r, w, w', X, Y, A, i, h, hk => by
    rw [LIn] at h ⊢
    obtain ⟨⟨g, o, A', c, ⟨e, hX⟩, h0, h1, h2, h3, h4, ht⟩, hr⟩ := h
    have hlt := cell_lt h0
    have hc : ∀ j, w'.cell? ⟨g, j, none⟩ = w.cell? ⟨g, j, none⟩ := fun j => (hk g j hX hlt).1
    exact ⟨⟨g, o, A', c, ⟨e, (hk g 0 hX hlt).2⟩, by rw [hc]; exact h0, by rw [hc]; exact h1, by rw [hc]; exact h2, by rw [hc]; exact h3, by rw [hc]; exact h4, TIn.keep t ht hk⟩, LIn.keep r hr hk⟩
end
theorem TIn.below (t : Tr) {w w' : World} {X : Nat → Prop} {A : Option Addr} {B : Nat} (h : TIn w X t A) (hb : Below B w w') (hB : w.heap.size ≤ B) : TIn w' X t A :=
  TIn.keep t h fun g j hX hlt => ⟨hb.cell (p := ⟨g, j, none⟩) (by show g < B; omega), hX⟩
theorem TIn.wide (t : Tr) {w : World} {X Y : Nat → Prop} {A : Option Addr} (h : TIn w X t A) (hXY : ∀ g, X g → g < w.heap.size → Y g) : TIn w Y t A :=
  TIn.keep t h fun g _ hX hlt => ⟨rfl, hXY g hX hlt⟩
theorem TIn.any (t : Tr) {w : World} {X : Nat → Prop} {A : Option Addr} (h : TIn w X t A) : TIn w Any t A := TIn.wide t h fun _ _ _ => trivial
theorem TIn.setCell (t : Tr) {w : World} {X : Nat → Prop} {A : Option Addr} (h : TIn w X t A) (p : Addr) (u : Value) (hp : ¬ X p.block) : TIn (w.setCell p u) X t A :=
  TIn.keep t h fun g j hX _ => ⟨World.cell?_setCell_other w p ⟨g, j, none⟩ u (fun e => by subst e; exact hp hX), hX⟩
theorem TIn.grown (t : Tr) {w w' : World} {X : Nat → Prop} {A : Option Addr} {row : Option Nat} (h : TIn w X t A) (hg : w.grownBy w' row) (hp : ∀ g, row = some g → ¬ X g) : TIn w' X t A :=
  TIn.keep t h fun g _ hX hlt => ⟨World.cell?_of_block (hg.block g hlt (fun e => hp g e.symm hX)), hX⟩

theorem LIn.at_ : ∀ (l : List Tr) {w : World} {X : Nat → Prop} {A : Option Addr} {j : Nat}, LIn w X l A j → ∀ (i : Nat) (hi : i < l.length),
    ∃ g o A' c, (A = some ⟨g, o, none⟩ ∧ X g) ∧ w.cell? ⟨g, o + (j + i) * 5, none⟩ = some (.int .i64 (l[i]'hi).kind) ∧ w.cell? ⟨g, o + (j + i) * 5 + 1, none⟩ = some (.string (l[i]'hi).name) ∧
      w.cell? ⟨g, o + (j + i) * 5 + 2, none⟩ = some (.int .i64 (l[i]'hi).n) ∧ w.cell? ⟨g, o + (j + i) * 5 + 3, none⟩ = some (.int .i64 (l[i]'hi).place) ∧
      w.cell? ⟨g, o + (j + i) * 5 + 4, none⟩ = some (.slice A' (l[i]'hi).parts.length (capF (l[i]'hi).parts.length c)) ∧ TIn w X (l[i]'hi) A'
  | [], w, X, A, j, _, i, hi => by simp at hi
  | t :: r, w, X, A, j, h, 0, hi => by
    rw [LIn] at h
    simpa using h.1
  | t :: r, w, X, A, j, h, i + 1, hi => by
    rw [LIn] at h
    have := LIn.at_ r h.2 i (by simpa using hi)
    rw [show j + 1 + i = j + (i + 1) from by omega] at this
    simpa using this
theorem LIn.mk : ∀ (l : List Tr) {w : World} {X : Nat → Prop} {A : Option Addr} (j : Nat), (∀ (i : Nat) (hi : i < l.length),
    ∃ g o A' c, (A = some ⟨g, o, none⟩ ∧ X g) ∧ w.cell? ⟨g, o + (j + i) * 5, none⟩ = some (.int .i64 (l[i]'hi).kind) ∧ w.cell? ⟨g, o + (j + i) * 5 + 1, none⟩ = some (.string (l[i]'hi).name) ∧
      w.cell? ⟨g, o + (j + i) * 5 + 2, none⟩ = some (.int .i64 (l[i]'hi).n) ∧ w.cell? ⟨g, o + (j + i) * 5 + 3, none⟩ = some (.int .i64 (l[i]'hi).place) ∧
      w.cell? ⟨g, o + (j + i) * 5 + 4, none⟩ = some (.slice A' (l[i]'hi).parts.length (capF (l[i]'hi).parts.length c)) ∧ TIn w X (l[i]'hi) A') → LIn w X l A j
  | [], w, X, A, j, _ => by rw [LIn]; trivial
  | t :: r, w, X, A, j, h => by
    rw [LIn]
    refine ⟨(by have := h 0 (by simp); rw [Nat.add_zero] at this; exact this), LIn.mk r (j + 1) fun i hi => ?_⟩
    have := h (i + 1) (by simpa using hi)
    rw [show j + 1 + i = j + (i + 1) from by omega]
    simpa using this
/-- The five cells of part i, and its own parts. -/
theorem TIn.part {t : Tr} {w : World} {X : Nat → Prop} {A : Option Addr} (h : TIn w X t A) (i : Nat) (hi : i < t.parts.length) :
    ∃ g o A' c, (A = some ⟨g, o, none⟩ ∧ X g) ∧ w.cell? ⟨g, o + i * 5, none⟩ = some (.int .i64 (t.parts[i]'hi).kind) ∧ w.cell? ⟨g, o + i * 5 + 1, none⟩ = some (.string (t.parts[i]'hi).name) ∧
      w.cell? ⟨g, o + i * 5 + 2, none⟩ = some (.int .i64 (t.parts[i]'hi).n) ∧ w.cell? ⟨g, o + i * 5 + 3, none⟩ = some (.int .i64 (t.parts[i]'hi).place) ∧
      w.cell? ⟨g, o + i * 5 + 4, none⟩ = some (.slice A' (t.parts[i]'hi).parts.length (capF (t.parts[i]'hi).parts.length c)) ∧ TIn w X (t.parts[i]'hi) A' := by
  obtain ⟨k, s, n, a, l⟩ := t
  rw [TIn] at h
  have := LIn.at_ l h.2.2 i hi
  rw [Nat.zero_add] at this
  exact this
end Lx
end Go.Proofs.Ytcgiloccmehbeaa
namespace Go.Proofs.Ytcgiloccmehbeaa
open Go
namespace Lx
set_option maxRecDepth 100000
section
variable {P : Program} {ops : Array Oper} {Q : Exit → Act → World → Prop} {md : Region.Mode} {S : World → Prop} {last : Nat}

/-- Whatever order is picked from here on, and S holds behind every operation but the last. -/
def wpAnyK (P : Program) (md : Region.Mode) (ops : Array Oper) (Q : Exit → Act → World → Prop) (S : World → Prop) (last : Nat) : Nat → Array Bool → Act → World → Prop
  | 0, listed, a, w => Region.ready md ops listed = [] ∧ Q .normal a w
  | fuel + 1, listed, a, w =>
    (Region.ready md ops listed = [] → Q .normal a w) ∧
    ∀ i ∈ Region.ready md ops listed, wpOp P ops Q i (fun a' w' => (i ≠ last → S w') ∧ wpAnyK P md ops Q S last fuel (listed.setIfInBounds i true) a' w') a w
theorem wpAny_of_K : ∀ (fuel : Nat) (listed : Array Bool) (a : Act) (w : World), wpAnyK P md ops Q S last fuel listed a w → wpAny P md ops Q fuel listed a w
  | 0, _, _, _, h => h
  | fuel + 1, _, _, _, h => ⟨h.1, fun i hi => wpOp_mono (fun a' w' h' => wpAny_of_K fuel _ a' w' h'.2) (h.2 i hi)⟩
/-- The last operation waits for number i. -/
def waitsB (md : Region.Mode) (ops : Array Oper) (last i : Nat) : Bool :=
  match ops[last]? with
  | some o => o.after.any fun e => Region.binds md e && e.on == i
  | none => false
theorem waits_ready {i : Nat} {listed : Array Bool} (h : waitsB md ops last i = true) (hl : last ∈ Region.ready md ops listed) : listed.getD i false = true := by
  obtain ⟨_, o, ho, hall⟩ := mem_ready.1 hl
  unfold waitsB at h
  rw [ho] at h
  obtain ⟨e, he, hb⟩ := Array.any_eq_true'.1 h
  simp only [Bool.and_eq_true, beq_iff_eq] at hb
  have := hall e he hb.1
  rwa [hb.2] at this
theorem unlisted {i : Nat} {listed : Array Bool} (h : listed.getD i true = false) : listed.getD i false ≠ true := by
  intro h'
  rcases Nat.lt_or_ge i listed.size with hl | hl
  · simp [hl] at h h'; rw [h] at h'; cases h'
  · simp [Array.getElem?_eq_none hl] at h
theorem wpAnyK_first {i : Nat} {oi : Oper} {v : Value} (hi : ops[i]? = some oi) (hsel : ∀ (j : Nat) (o : Oper) cs b, ops[j]? = some o → o.op ≠ .select cs b)
    (hQ : ∀ c a w, Q (.panic c) (a.put oi.dst v) w → Q (.panic c) a w) (hwt : waitsB md ops last i = true) :
    ∀ (fuel : Nat) (listed : Array Bool) (a : Act) (w : World),
      (∀ j oj, ops[j]? = some oj → j ≠ i → listed.getD j true = false → (∀ e ∈ oj.after, Region.binds md e = true → e.on ≠ i) → oi.apart ops oj = true) →
      i ∈ Region.ready md ops listed → YieldsIf P ops S oi v a → S w →
      wpAnyK P md ops Q S last fuel (listed.setIfInBounds i true) (a.put oi.dst v) w → wpAnyK P md ops Q S last (fuel + 1) listed a w := by
  intro fuel
  induction fuel with
  | zero =>
    intro listed a w _ hr hy hS H
    refine ⟨fun h => (by rw [h] at hr; cases hr), fun j hj => ?_⟩
    by_cases hji : j = i
    · subst hji; exact hy.wpOp hi hS ⟨fun _ => hS, H⟩
    · have := ready_mono hj hji
      rw [H.1] at this
      cases this
  | succ fuel ih =>
    intro listed a w hfree hr hy hS H
    refine ⟨fun h => (by rw [h] at hr; cases hr), fun j hj => ?_⟩
    by_cases hji : j = i
    · subst hji; exact hy.wpOp hi hS ⟨fun _ => hS, H⟩
    · have hjl : j ≠ last := fun e => by
        subst e
        exact unlisted (mem_ready.1 hr).1 (waits_ready hwt hj)
      have h1 := H.2 j (ready_mono hj hji)
      obtain ⟨hjun, oj, hoj, hall⟩ := mem_ready.1 hj
      have hnot : ∀ e ∈ oj.after, Region.binds md e = true → e.on ≠ i := fun e he hb heq => by
        have h1 := hall e he hb
        rw [heq] at h1
        exact unlisted (mem_ready.1 hr).1 h1
      have h2 := wpOp_putIf hoj (hfree j oj hoj hji hjun hnot) (fun cs b => hsel i oi cs b hi) (fun cs b => hsel j oj cs b hoj) hQ hy h1
      have hfree' : ∀ k ok, ops[k]? = some ok → k ≠ i → (listed.setIfInBounds j true).getD k true = false →
          (∀ e ∈ ok.after, Region.binds md e = true → e.on ≠ i) → oi.apart ops ok = true := fun k ok hk hki hun hno => by
        refine hfree k ok hk hki ?_ hno
        by_cases hjk : j = k
        · subst hjk; exact hjun
        · rw [getD_set_ne true hjk] at hun; exact hun
      refine wpOp_mono (fun a' w' h3 => ⟨h3.2.1, ih (listed.setIfInBounds j true) a' w' hfree' (ready_mono hr (Ne.symm hji)) h3.1 (h3.2.1 hjl) ?_⟩) h2
      rw [Array.setIfInBounds_comm _ _ hji]
      exact h3.2.2
theorem wpAnyK_take {i : Nat} {oi : Oper} {v : Value} {fuel : Nat} {listed : Array Bool} {a : Act} {w : World} (hi : ops[i]? = some oi)
    (hs : Region.noSelect ops = true) (hwt : waitsB md ops last i = true) (hf : Region.free md ops listed i = true) (hr : (Region.ready md ops listed).contains i = true)
    (hQ : ∀ c a w, Q (.panic c) (a.put oi.dst v) w → Q (.panic c) a w) (hy : YieldsIf P ops S oi v a) (hS : S w)
    (h : wpAnyK P md ops Q S last fuel (listed.setIfInBounds i true) (a.put oi.dst v) w) : wpAnyK P md ops Q S last (fuel + 1) listed a w :=
  wpAnyK_first hi (Region.noSelect_spec hs) hQ hwt fuel listed a w (Region.free_spec hi hf) (by simpa using hr) hy hS h
/-- One operation alone may come up. -/
theorem wpAnyK_one {i : Nat} {o : Oper} {fuel : Nat} {listed : Array Bool} {a : Act} {w : World} (ho : ops[i]? = some o) (hg : o.guard = none) (hr : Region.ready md ops listed = [i])
    (h : ∀ K' : Act → World → Prop, Shut (∀ a w, (i ≠ last → S w) → ((i ≠ last → S w) → wpAnyK P md ops Q S last fuel (listed.setIfInBounds i true) a w) → K' a w) → Oper.wp P o a w K' Q) :
    wpAnyK P md ops Q S last (fuel + 1) listed a w := by
  refine ⟨fun h0 => (by rw [hr] at h0; cases h0), fun j hj => ?_⟩
  rw [hr] at hj
  obtain rfl : j = i := by simpa using hj
  refine wpOp_step ho fun K' hK => ?_
  rw [if_pos (by simp [Region.wanted, hg])]
  exact h K' (fun a w hS hW => hK a w ⟨hS, hW hS⟩)
theorem wpAnyK_done {listed : Array Bool} {a : Act} {w : World} (hr : Region.ready md ops listed = []) (h : Q .normal a w) : ∀ fuel, wpAnyK P md ops Q S last fuel listed a w
  | 0 => ⟨hr, h⟩
  | _ + 1 => ⟨fun _ => h, by rw [hr]; simp⟩
theorem wp_region_K {id : Nat} {a : Act} {w : World} (last : Nat) (hm : P.follows .mixedOrders = true) (hS : S w.drew)
    (h : S w.drew → wpAnyK P .any ops Q S last ops.size (Array.replicate ops.size false) a w.drew) : (Code.region id ops true).wp P Q a w :=
  wp_region_any hm (wpAny_of_K _ _ _ _ (h hS))
end
end Lx
end Go.Proofs.Ytcgiloccmehbeaa
namespace Go.Proofs.Ytcgiloccmehbeaa
open Go.RowKit
namespace Lx
theorem own_le {w : World} {base : Nat} {e : TypeId} {size : Nat} {A : Option Addr} {m c : Nat} {n : Nat} {xs : List Value} (h : w.ownsRow base e size (.slice A m c) n xs) : n ≤ c := by
  rcases h.2 with ⟨h1, rfl⟩ | ⟨g, cap, cur, h1, _, _, hle, _⟩
  · exact Nat.zero_le _
  · injection h1 with _ _ h2
    omega
theorem tv_own {k n pc : Int} {nm : ByteArray} {pl : List Tr} {B : Option Addr} {bc : Nat} (h : pl.length ≤ bc) : Ending.returned (.agg #[.int .i64 k, .string nm, .int .i64 n, .int .i64 pc, .slice B pl.length bc]) = .returned (tv (.node k nm n pc pl) B bc) := by
  unfold tv
  simp only [Tr.kind, Tr.name, Tr.n, Tr.place, Tr.parts]
  rw [capF_of h]
end Lx
end Go.Proofs.Ytcgiloccmehbeaa
