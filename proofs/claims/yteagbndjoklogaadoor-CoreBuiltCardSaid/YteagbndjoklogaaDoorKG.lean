/-
  Texts that lie one behind the other: Te Ein RowTe DepthE MayE0 TeT Unlike MayEp MayEq.
-/
import Derived.Test.YteagbndjoklogaaDoorK3
import Derived.Test.YteagbndjoklogaaDoorK1
import Derived.Deep.RegionHeld3
import Derived.Deep.DrawnRows
import Derived.Lib.ItoaNum
namespace Go.Proofs.YteagbndjoklogaaDoor
namespace Lx
set_option maxRecDepth 100000

inductive Te where
  | node (kind : Int) (n : Int) (name : ByteArray) (l : List Te)

def Te.kind : Te → Int | .node k _ _ _ => k
def Te.n : Te → Int | .node _ n _ _ => n
def Te.name : Te → ByteArray | .node _ _ s _ => s
def Te.parts : Te → List Te | .node _ _ _ l => l

mutual
def depthE : Te → Nat
  | .node _ _ _ l => depthEL l + 1
def depthEL : List Te → Nat
  | [] => 0
  | t :: r => max (depthE t) (depthEL r)
end
mutual
def sizeE : Te → Nat
  | .node _ _ _ l => sizeEL l + 1
def sizeEL : List Te → Nat
  | [] => 0
  | t :: r => sizeE t + sizeEL r
end
mutual
/-- How many of so many parts are left; -1: there are more, or they lie deeper. -/
def fewE : Te → Int → Int → Int
  | .node _ _ _ l, left, deep => if left < 1 ∨ deep < 1 then -1 else fewEL l (left - 1) (deep - 1)
def fewEL : List Te → Int → Int → Int
  | [], left, _ => left
  | t :: r, left, deep => if fewE t left deep < 0 then -1 else fewEL r (fewE t left deep) deep
end
mutual
/-- All is the same. -/
def sameE : Te → Te → Bool
  | .node k n s l, .node k' n' s' l' => decide (k = k') && (decide (n = n') && (decide (s = s') && sameEL l l'))
def sameEL : List Te → List Te → Bool
  | [], [] => true
  | t :: r, t' :: r' => sameE t t' && sameEL r r'
  | _, _ => false
end

/-- Which part of a term may be of which kind: alternatives in a case alone, behind its first part. -/
def standsE (k : Int) (i : Nat) (p : Int) : Bool := decide (k = 5 ∧ 0 < i) == decide (p = 6)
/-- How many variables more the parts have. -/
def moreE (k n : Int) : Int := if k = 2 then 1 else if k = 6 then n else 0
/-- Kind, N, Name and the number of parts, of so many free variables and so many bound. -/
def headE (k n : Int) (s : List UInt8) (m : Nat) (free bound : Int) : Bool :=
  if k = 1 then s == [] && (decide (0 ≤ n) && (decide (n - bound < free) && decide (m = 0)))
  else if k = 2 then s == [] && (decide (n = 0) && decide (m = 1))
  else if k = 3 then s == [] && (decide (n = 0) && decide (m = 2))
  else if k = 4 then conV s && (decide (n = 0) && decide (m ≤ 8))
  else if k = 5 then s == [] && (decide (n = 0) && (decide (2 ≤ m) && decide (m ≤ 9)))
  else if k = 6 then conV s && (decide (0 ≤ n) && (decide (n ≤ 8) && decide (m = 1)))
  else if k = 7 then s == [] && decide (m = 0)
  else if k = 8 then opV s && (decide (n = 0) && decide (m = 2))
  else if k = 9 then s == [] && (decide (n = 0) && decide (m = 0))
  else false
/-- No two of these have one name, nor one that was met. -/
def unlikeF : List Te → List Te → Bool
  | _, [] => true
  | met, t :: r => !(met.any fun u => decide (t.name = u.name)) && unlikeF (met ++ [t]) r
def unlikeE (l : List Te) : Bool := unlikeF [] l
mutual
def mayE : Te → Int → Int → Bool
  | .node k n s l, free, bound => headE k n s.data.toList l.length free bound && (mayEL k 0 l free (bound + moreE k n) && (!(decide (k = 5)) || unlikeE (l.drop 1)))
def mayEL (k : Int) : Nat → List Te → Int → Int → Bool
  | _, [], _, _ => true
  | i, t :: r, free, bound => standsE k i t.kind && (mayE t free bound && mayEL k (i + 1) r free bound)
end
/-- May a term be, as a whole one, of so many free variables? -/
def mayV6 (t : Te) (free : Int) : Bool := decide (0 ≤ free) && (decide (t.kind ≠ 6) && mayE t free 0)

theorem depthEL_snoc (l : List Te) (t : Te) : depthEL (l ++ [t]) = max (depthEL l) (depthE t) := by
  induction l with
  | nil => simp [depthEL]
  | cons a r ih => simp only [List.cons_append, depthEL, ih]; omega
theorem sizeEL_snoc (l : List Te) (t : Te) : sizeEL (l ++ [t]) = sizeEL l + sizeE t := by
  induction l with
  | nil => simp [sizeEL]
  | cons a r ih => simp only [List.cons_append, sizeEL, ih]; omega
theorem depthE_pos (t : Te) : 0 < depthE t := by cases t; simp [depthE]
theorem sizeE_pos (t : Te) : 0 < sizeE t := by cases t; simp [sizeE]
theorem depthEL_mem : ∀ (l : List Te) (t : Te), t ∈ l → depthE t ≤ depthEL l
  | [], t, h => by simp at h
  | a :: r, t, h => by
    rw [depthEL]
    rcases List.mem_cons.1 h with rfl | h
    · omega
    · have := depthEL_mem r t h; omega
theorem sizeEL_mem : ∀ (l : List Te) (t : Te), t ∈ l → sizeE t ≤ sizeEL l
  | [], t, h => by simp at h
  | a :: r, t, h => by
    rw [sizeEL]
    rcases List.mem_cons.1 h with rfl | h
    · omega
    · have := sizeEL_mem r t h; omega
theorem sizeEL_len : ∀ l : List Te, l.length ≤ sizeEL l
  | [] => by simp [sizeEL]
  | a :: r => by
    have := sizeEL_len r
    have := sizeE_pos a
    simp only [List.length_cons, sizeEL]; omega
mutual
theorem depthE_le_size : ∀ t : Te, depthE t ≤ sizeE t
  | .node _ _ _ l => by rw [depthE, sizeE]; have := depthEL_le_size l; omega
theorem depthEL_le_size : ∀ l : List Te, depthEL l ≤ sizeEL l
  | [] => by simp [depthEL]
  | t :: r => by rw [depthEL, sizeEL]; have := depthE_le_size t; have := depthEL_le_size r; omega
end
theorem depthEL_take (l : List Te) (i : Nat) : depthEL (l.take i) ≤ depthEL l := by
  induction l generalizing i with
  | nil => simp
  | cons a r ih =>
    cases i with
    | zero => simp [depthEL]
    | succ i => simp only [List.take_succ_cons, depthEL]; have := ih i; omega
theorem sizeEL_take (l : List Te) (i : Nat) : sizeEL (l.take i) ≤ sizeEL l := by
  induction l generalizing i with
  | nil => simp
  | cons a r ih =>
    cases i with
    | zero => simp [sizeEL]
    | succ i => simp only [List.take_succ_cons, sizeEL]; have := ih i; omega
theorem sameEL_len : ∀ l l' : List Te, sameEL l l' = true → l.length = l'.length
  | [], [], _ => rfl
  | [], _ :: _, h => by simp [sameEL] at h
  | _ :: _, [], h => by simp [sameEL] at h
  | a :: r, a' :: r', h => by
    rw [sameEL, Bool.and_eq_true] at h
    simp [sameEL_len r r' h.2]
mutual
theorem fewE_size : ∀ (t : Te) (a d : Int), 0 ≤ fewE t a d → (sizeE t : Int) + fewE t a d = a ∧ (depthE t : Int) ≤ d
  | .node _ _ _ l, a, d, h => by
    rw [fewE] at h ⊢
    split at h
    · omega
    · rename_i h1
      rw [if_neg h1]
      have h2 := fewE_sizeL l (a - 1) (d - 1) h
      rw [sizeE, depthE]
      rcases h2.2 with h4 | rfl
      · omega
      · simp only [depthEL, sizeEL] at h2 ⊢
        omega
theorem fewE_sizeL : ∀ (l : List Te) (a d : Int), 0 ≤ fewEL l a d → (sizeEL l : Int) + fewEL l a d = a ∧ ((depthEL l : Int) ≤ d ∨ l = [])
  | [], a, d, h => by simp [fewEL, sizeEL]
  | t :: r, a, d, h => by
    rw [fewEL] at h ⊢
    split at h
    · omega
    · rename_i h1
      rw [if_neg h1]
      have h2 := fewE_size t a d (by omega)
      have h3 := fewE_sizeL r (fewE t a d) d h
      rw [sizeEL, depthEL]
      refine ⟨by omega, .inl ?_⟩
      rcases h3.2 with h4 | rfl
      · omega
      · simp [depthEL]; omega
end
mutual
/-- What is the same is one. -/
theorem sameE_eq : ∀ t u : Te, sameE t u = true → t = u
  | .node k n s l, .node k' n' s' l', h => by
    rw [sameE] at h
    simp only [Bool.and_eq_true, decide_eq_true_eq] at h
    obtain ⟨rfl, rfl, rfl, hl⟩ := h
    rw [sameEL_eq l l' hl]
theorem sameEL_eq : ∀ l m : List Te, sameEL l m = true → l = m
  | [], [], _ => rfl
  | [], _ :: _, h => by simp [sameEL] at h
  | _ :: _, [], h => by simp [sameEL] at h
  | t :: r, u :: q, h => by
    rw [sameEL, Bool.and_eq_true] at h
    rw [sameE_eq t u h.1, sameEL_eq r q h.2]
end
mutual
theorem sameE_refl : ∀ t : Te, sameE t t = true
  | .node k n s l => by rw [sameE]; simp [sameEL_refl l]
theorem sameEL_refl : ∀ l : List Te, sameEL l l = true
  | [] => by rw [sameEL]
  | t :: r => by rw [sameEL, sameE_refl t, sameEL_refl r]; rfl
end
theorem sameE_iff (t u : Te) : sameE t u = true ↔ t = u := ⟨sameE_eq t u, fun h => h ▸ sameE_refl t⟩
theorem sameE_comm (t u : Te) : sameE t u = sameE u t := by
  rw [Bool.eq_iff_iff, sameE_iff, sameE_iff]; exact eq_comm
end Lx
end Go.Proofs.YteagbndjoklogaaDoor
namespace Go.Proofs.YteagbndjoklogaaDoor
open Go.RowKit
namespace Lx
set_option maxRecDepth 100000
mutual
/-- The parts of a term lie from A on, in blocks of which X holds. -/
def EIn (w : World) (X : Nat → Prop) : Te → Option Addr → Prop
  | .node _ n s l, A => (s.size ≤ 140737488351232 ∧ -9223372036854775808 ≤ n ∧ n ≤ 9223372036854775807) ∧ l.length ≤ 140737488351232 ∧ ELIn w X l A 0
def ELIn (w : World) (X : Nat → Prop) : List Te → Option Addr → Nat → Prop
  | [], _, _ => True
  | t :: r, A, i => (∃ g o A' c, (A = some ⟨g, o, none⟩ ∧ X g) ∧ w.cell? ⟨g, o + i * 4, none⟩ = some (.int .i64 t.kind) ∧ w.cell? ⟨g, o + i * 4 + 1, none⟩ = some (.int .i64 t.n) ∧
      w.cell? ⟨g, o + i * 4 + 2, none⟩ = some (.string t.name) ∧
      w.cell? ⟨g, o + i * 4 + 3, none⟩ = some (.slice A' t.parts.length (capF t.parts.length c)) ∧ EIn w X t A') ∧ ELIn w X r A (i + 1)
end
/-- A term as a value. -/
def ev (t : Te) (A : Option Addr) (c : Nat) : Value := .agg #[.int .i64 t.kind, .int .i64 t.n, .string t.name, .slice A t.parts.length (capF t.parts.length c)]

mutual
theorem EIn.keep : ∀ (t : Te) {w w' : World} {X Y : Nat → Prop} {A : Option Addr}, EIn w X t A → (∀ g j, X g → g < w.heap.size → w'.cell? ⟨g, j, none⟩ = w.cell? ⟨g, j, none⟩ ∧ Y g) → EIn w' Y t A
  | .node k n s l, w, w', X, Y, A, h, hk => by
    rw [EIn] at h ⊢
    exact ⟨h.1, h.2.1, ELIn.keep l h.2.2 hk⟩
theorem ELIn.keep : ∀ (l : List Te) {w w' : World} {X Y : Nat → Prop} {A : Option Addr} {i : Nat}, ELIn w X l A i → (∀ g j, X g → g < w.heap.size → w'.cell? ⟨g, j, none⟩ = w.cell? ⟨g, j, none⟩ ∧ Y g) → ELIn w' Y l A i
  | [], w, w', X, Y, A, i, _, _ => by rw [ELIn]; trivial
  | t :: r, w, w', X, Y, A, i, h, hk => by
    rw [ELIn] at h ⊢
    obtain ⟨⟨g, o, A', c, ⟨e, hX⟩, h0, h1, h2, h3, ht⟩, hr⟩ := h
    have hlt := cell_lt h0
    have hc : ∀ j, w'.cell? ⟨g, j, none⟩ = w.cell? ⟨g, j, none⟩ := fun j => (hk g j hX hlt).1
    exact ⟨⟨g, o, A', c, ⟨e, (hk g 0 hX hlt).2⟩, by rw [hc]; exact h0, by rw [hc]; exact h1, by rw [hc]; exact h2, by rw [hc]; exact h3, EIn.keep t ht hk⟩, ELIn.keep r hr hk⟩
end
theorem EIn.below (t : Te) {w w' : World} {X : Nat → Prop} {A : Option Addr} {B : Nat} (h : EIn w X t A) (hb : Below B w w') (hB : w.heap.size ≤ B) : EIn w' X t A :=
  EIn.keep t h fun g j hX hlt => ⟨hb.cell (p := ⟨g, j, none⟩) (by show g < B; omega), hX⟩
theorem EIn.wide (t : Te) {w : World} {X Y : Nat → Prop} {A : Option Addr} (h : EIn w X t A) (hXY : ∀ g, X g → g < w.heap.size → Y g) : EIn w Y t A :=
  EIn.keep t h fun g _ hX hlt => ⟨rfl, hXY g hX hlt⟩
theorem EIn.any (t : Te) {w : World} {X : Nat → Prop} {A : Option Addr} (h : EIn w X t A) : EIn w Any t A := EIn.wide t h fun _ _ _ => trivial
theorem EIn.setCell (t : Te) {w : World} {X : Nat → Prop} {A : Option Addr} (h : EIn w X t A) (p : Addr) (u : Value) (hp : ¬ X p.block) : EIn (w.setCell p u) X t A :=
  EIn.keep t h fun g j hX _ => ⟨World.cell?_setCell_other w p ⟨g, j, none⟩ u (fun e => by subst e; exact hp hX), hX⟩
theorem EIn.grown (t : Te) {w w' : World} {X : Nat → Prop} {A : Option Addr} {row : Option Nat} (h : EIn w X t A) (hg : w.grownBy w' row) (hp : ∀ g, row = some g → ¬ X g) : EIn w' X t A :=
  EIn.keep t h fun g _ hX hlt => ⟨World.cell?_of_block (hg.block g hlt (fun e => hp g e.symm hX)), hX⟩

theorem ELIn.at_ : ∀ (l : List Te) {w : World} {X : Nat → Prop} {A : Option Addr} {j : Nat}, ELIn w X l A j → ∀ (i : Nat) (hi : i < l.length),
    ∃ g o A' c, (A = some ⟨g, o, none⟩ ∧ X g) ∧ w.cell? ⟨g, o + (j + i) * 4, none⟩ = some (.int .i64 (l[i]'hi).kind) ∧ w.cell? ⟨g, o + (j + i) * 4 + 1, none⟩ = some (.int .i64 (l[i]'hi).n) ∧
      w.cell? ⟨g, o + (j + i) * 4 + 2, none⟩ = some (.string (l[i]'hi).name) ∧
      w.cell? ⟨g, o + (j + i) * 4 + 3, none⟩ = some (.slice A' (l[i]'hi).parts.length (capF (l[i]'hi).parts.length c)) ∧ EIn w X (l[i]'hi) A'
  | [], w, X, A, j, _, i, hi => by simp at hi
  | t :: r, w, X, A, j, h, 0, hi => by
    rw [ELIn] at h
    simpa using h.1
  | t :: r, w, X, A, j, h, i + 1, hi => by
    rw [ELIn] at h
    have := ELIn.at_ r h.2 i (by simpa using hi)
    rw [show j + 1 + i = j + (i + 1) from by omega] at this
    simpa using this
theorem ELIn.mk : ∀ (l : List Te) {w : World} {X : Nat → Prop} {A : Option Addr} (j : Nat), (∀ (i : Nat) (hi : i < l.length),
    ∃ g o A' c, (A = some ⟨g, o, none⟩ ∧ X g) ∧ w.cell? ⟨g, o + (j + i) * 4, none⟩ = some (.int .i64 (l[i]'hi).kind) ∧ w.cell? ⟨g, o + (j + i) * 4 + 1, none⟩ = some (.int .i64 (l[i]'hi).n) ∧
      w.cell? ⟨g, o + (j + i) * 4 + 2, none⟩ = some (.string (l[i]'hi).name) ∧
      w.cell? ⟨g, o + (j + i) * 4 + 3, none⟩ = some (.slice A' (l[i]'hi).parts.length (capF (l[i]'hi).parts.length c)) ∧ EIn w X (l[i]'hi) A') → ELIn w X l A j
  | [], w, X, A, j, _ => by rw [ELIn]; trivial
  | t :: r, w, X, A, j, h => by
    rw [ELIn]
    refine ⟨(by have := h 0 (by simp); rw [Nat.add_zero] at this; exact this), ELIn.mk r (j + 1) fun i hi => ?_⟩
    have := h (i + 1) (by simpa using hi)
    rw [show j + 1 + i = j + (i + 1) from by omega]
    simpa using this
/-- The four cells of part i, and its own parts. -/
theorem EIn.part {t : Te} {w : World} {X : Nat → Prop} {A : Option Addr} (h : EIn w X t A) (i : Nat) (hi : i < t.parts.length) :
    ∃ g o A' c, (A = some ⟨g, o, none⟩ ∧ X g) ∧ w.cell? ⟨g, o + i * 4, none⟩ = some (.int .i64 (t.parts[i]'hi).kind) ∧ w.cell? ⟨g, o + i * 4 + 1, none⟩ = some (.int .i64 (t.parts[i]'hi).n) ∧
      w.cell? ⟨g, o + i * 4 + 2, none⟩ = some (.string (t.parts[i]'hi).name) ∧
      w.cell? ⟨g, o + i * 4 + 3, none⟩ = some (.slice A' (t.parts[i]'hi).parts.length (capF (t.parts[i]'hi).parts.length c)) ∧ EIn w X (t.parts[i]'hi) A' := by
  obtain ⟨k, n, s, l⟩ := t
  rw [EIn] at h
  have := ELIn.at_ l h.2.2 i hi
  rw [Nat.zero_add] at this
  exact this
end Lx
end Go.Proofs.YteagbndjoklogaaDoor
namespace Go.Proofs.YteagbndjoklogaaDoor
open Go.RowKit
namespace Lx
set_option maxRecDepth 100000
theorem infoE : (Tryd.prog.info? 24).map (fun i => (i.zero, i.size, i.bytes)) = some (some (.agg #[.int .i64 0, .int .i64 0, .string ⟨#[]⟩, .slice none 0 0]), 4, 56) := by kernel_rfl
/-- The four cells of a tree. -/
def cellsE (t : Te) (A : Option Addr) (c : Nat) : List Value := [.int .i64 t.kind, .int .i64 t.n, .string t.name, .slice A t.parts.length (capF t.parts.length c)]
theorem cellsE_length (t : Te) (A : Option Addr) (c : Nat) : (cellsE t A c).length = 4 := rfl
/-- The cells xs read as the trees of l. -/
def RowTe (w : World) (X : Nat → Prop) (l : List Te) (xs : List Value) : Prop :=
  xs.length = l.length * 4 ∧ ∀ (j : Nat) (hj : j < l.length), ∃ A c, (∀ q, q < 4 → xs[j * 4 + q]? = (cellsE (l[j]'hj) A c)[q]?) ∧ EIn w X (l[j]'hj) A
theorem RowTe.nil (w : World) (X : Nat → Prop) : RowTe w X [] [] := ⟨rfl, fun j hj => by simp at hj⟩
theorem RowTe.keep {w w' : World} {X Y : Nat → Prop} {l : List Te} {xs : List Value} (h : RowTe w X l xs) (hk : ∀ g j, X g → g < w.heap.size → w'.cell? ⟨g, j, none⟩ = w.cell? ⟨g, j, none⟩ ∧ Y g) : RowTe w' Y l xs :=
  ⟨h.1, fun j hj => by
    obtain ⟨A, c, hc, ht⟩ := h.2 j hj
    exact ⟨A, c, hc, EIn.keep _ ht hk⟩⟩
theorem RowTe.below {w w' : World} {X : Nat → Prop} {l : List Te} {xs : List Value} {B : Nat} (h : RowTe w X l xs) (hb : Below B w w') (hB : w.heap.size ≤ B) : RowTe w' X l xs :=
  h.keep fun g j hX hlt => ⟨hb.cell (p := ⟨g, j, none⟩) (by show g < B; omega), hX⟩
theorem RowTe.wide {w : World} {X Y : Nat → Prop} {l : List Te} {xs : List Value} (h : RowTe w X l xs) (hXY : ∀ g, X g → g < w.heap.size → Y g) : RowTe w Y l xs :=
  h.keep fun g _ hX hlt => ⟨rfl, hXY g hX hlt⟩
theorem RowTe.setCell {w : World} {X : Nat → Prop} {l : List Te} {xs : List Value} (h : RowTe w X l xs) (p : Addr) (u : Value) (hp : ¬ X p.block) : RowTe (w.setCell p u) X l xs :=
  h.keep fun g j hX _ => ⟨World.cell?_setCell_other w p ⟨g, j, none⟩ u (fun e => by subst e; exact hp hX), hX⟩
theorem RowTe.grown {w w' : World} {X : Nat → Prop} {l : List Te} {xs : List Value} {row : Option Nat} (h : RowTe w X l xs) (hg : w.grownBy w' row) (hp : ∀ g, row = some g → ¬ X g) : RowTe w' X l xs :=
  h.keep fun g _ hX hlt => ⟨World.cell?_of_block (hg.block g hlt (fun e => hp g e.symm hX)), hX⟩
theorem RowTe.snoc {w : World} {X : Nat → Prop} {l : List Te} {xs : List Value} (h : RowTe w X l xs) {t : Te} {A : Option Addr} {c : Nat} (ht : EIn w X t A) : RowTe w X (l ++ [t]) (xs ++ cellsE t A c) := by
  refine ⟨by simp [h.1, cellsE_length]; omega, fun j hj => ?_⟩
  rcases Nat.lt_or_ge j l.length with hlt | hge
  · obtain ⟨A', c', hc, ht'⟩ := h.2 j hlt
    rw [List.getElem_append_left hlt]
    refine ⟨A', c', fun q hq => ?_, ht'⟩
    rw [List.getElem?_append_left (by rw [h.1]; omega)]
    exact hc q hq
  · have hj' : j = l.length := by simp at hj; omega
    subst hj'
    rw [List.getElem_append_right (Nat.le_refl _)]
    simp only [Nat.sub_self, List.getElem_singleton]
    refine ⟨A, c, fun q hq => ?_, ht⟩
    rw [List.getElem?_append_right (by rw [h.1]; omega), h.1]
    congr 1
    omega
/-- Trees in a row of the call's own are parts. -/
theorem RowTe.parts {w : World} {X Y : Nat → Prop} {l : List Te} {xs : List Value} {g o : Nat} (h : RowTe w X l xs) (hg : Y g) (hXY : ∀ b, X b → b < w.heap.size → Y b)
    (hc : ∀ j u, xs[j]? = some u → w.cell? ⟨g, o + j, none⟩ = some u) : ELIn w Y l (some ⟨g, o, none⟩) 0 := by
  refine ELIn.mk l 0 fun i hi => ?_
  obtain ⟨A, c, hx, ht⟩ := h.2 i hi
  rw [Nat.zero_add]
  refine ⟨g, o, A, c, ⟨rfl, hg⟩, hc (i * 4) _ ((hx 0 (by omega)).trans rfl), ?_, ?_, ?_, EIn.wide _ ht hXY⟩
  · have := hc (i * 4 + 1) _ ((hx 1 (by omega)).trans rfl); simpa [Nat.add_assoc] using this
  · have := hc (i * 4 + 2) _ ((hx 2 (by omega)).trans rfl); simpa [Nat.add_assoc] using this
  · have := hc (i * 4 + 3) _ ((hx 3 (by omega)).trans rfl); simpa [Nat.add_assoc] using this
/-- A row that the call owns. -/
theorem RowTe.owned {w : World} {X Y : Nat → Prop} {l : List Te} {xs : List Value} {base n c : Nat} {A : Option Addr} (h : RowTe w X l xs) (ho : w.ownsRow base 24 4 (.slice A n c) n xs) (hX : ∀ g, base ≤ g → Y g) (hXY : ∀ b, X b → b < w.heap.size → Y b) :
    ELIn w Y l A 0 := by
  by_cases hl : l = []
  · subst hl; rw [ELIn]; trivial
  · have hn : 0 < n := by
      have h1 := ho.1
      have h2 := h.1
      have := List.length_pos_iff.2 hl
      omega
    obtain ⟨g, cap, hv⟩ := Joins.ownsRow_form ho hn
    have hA : A = some ⟨g, 0, none⟩ := by injection hv
    subst hA
    refine h.parts (hX g ?_) hXY fun j u hu => ?_
    · rcases ho.2 with ⟨e, _⟩ | ⟨g', _, _, e, hb, _⟩
      · cases e
      · injection e with e; injection e with e; injection e with e; subst e; exact hb
    · have h1 := ho.cells (g := g) rfl j u hu
      have hadd : (⟨g, 0, none⟩ : Addr).add j = ⟨g, 0 + j, none⟩ := by unfold Addr.add; split <;> simp_all
      rw [hadd] at h1
      exact h1
theorem res_term {fn : Func} {p : Tmp} (h : fn.results = #[.cell p 24]) {tmps : Array Value} {g : Nat} {a b c d : Value} {w : World} (hp : tmps.getD p undef = .pointer (some ⟨g, 0, none⟩)) (L : Lies w g 24 #[a, b, c, d]) :
    (results fn tmps).run Tryd.prog w = .ok (.agg #[a, b, c, d]) w := by
  have hl := run_loadVar_row (P := Tryd.prog) w g 24 24 #[a, b, c, d] (0, 0) _ L Tryd.underlying24 rfl (by kernel_rfl)
  have hp' : tmps[p]?.getD undef = .pointer (some ⟨g, 0, none⟩) := by simpa using hp
  simp only [results, h]
  simp [hp', asAddr, hl]
end Lx
end Go.Proofs.YteagbndjoklogaaDoor
namespace Go.Proofs.YteagbndjoklogaaDoor
open Go.RowKit
namespace Lx
set_option maxRecDepth 100000
theorem ebelow_al {w wr w2 : World} {o : Obj} (hbw : Below w.heap.size w wr) (hb2 : Below (wr.alloc o).heap.size (wr.alloc o) w2) : Below w.heap.size w w2 :=
  (hbw.alloc hbw.size _).trans (hb2.mono (by have := hbw.size; simp; omega))
set_option maxHeartbeats 1000000 in
theorem edepth_any (d : Nat) : ∀ (t : Te) (A : Option Addr) (c : Nat) (w : World), depthE t ≤ d → sizeE t ≤ 100000 → EIn w Any t A →
    Calls Tryd.prog 14 #[ev t A c] w fun e w' => e = .returned (.int .i64 (depthE t)) ∧ Below w.heap.size w w' := by
  induction d with
  | zero => intro t A c w h; have := depthE_pos t; omega
  | succ d ih =>
    intro t A c w hd hs hI
    obtain ⟨k, n, s, l⟩ := t
    have hdL : depthEL l ≤ d := by rw [depthE] at hd; omega
    have hsL : sizeEL l ≤ 100000 := by rw [sizeE] at hs; omega
    have hlen := sizeEL_len l
    have hdl := depthEL_le_size l
    have HI := Lib.hid hI
    have HE : Hid (depthE (.node k n s l) = depthEL l + 1) := by rw [depthE]; exact rfl
    clear hI hd hs
    show Calls Tryd.prog 14 #[.agg #[.int .i64 k, .int .i64 n, .string s, .slice A l.length (capF l.length c)]] w _
    generalize capF l.length c = c
    obtain ⟨m, hm⟩ : ∃ m, m = l.length := ⟨_, rfl⟩
    rw [← hm]
    have hm1 : m ≤ l.length := by omega
    have hm2 : l.length ≤ m := by omega
    clear hm
    go_enter Tryd.func14, Tryd.ntmps14
    go_wp2_with fail
    go_loopw [3, 9] (fun v x wr => ∃ i : Nat, i ≤ m ∧ x = .int .i64 i ∧ v = .int .i64 (depthEL (l.take i)) ∧ Below w.heap.size w wr) (fun _ x _ => m - (intOf x).toNat)
    case atStart => exact ⟨0, by omega, rfl, by simp [depthEL], (Below.refl _ w).alloc (Nat.le_refl _) _⟩
    case round =>
      obtain ⟨i, hi, rfl, rfl, hbw⟩ := hrel
      have hbs := hbw.size
      have hdt := depthEL_take l i
      by_cases hlt : i < m
      · have hia : i < l.length := by omega
        obtain ⟨g, o, A', c', ⟨hA, _⟩, d0, d1, d2, d3, hIn⟩ := EIn.part (EIn.below _ HI.out hbw (Nat.le_refl _)) i hia
        subst hA
        have hm3 := depthEL_mem l (l[i]'hia) (List.getElem_mem hia)
        have hm4 := sizeEL_mem l (l[i]'hia) (List.getElem_mem hia)
        have HS : Hid (depthEL (l.take (i + 1)) = max (depthEL (l.take i)) (depthE (l[i]'hia))) := by
          rw [List.take_succ_eq_append_getElem hia]; exact depthEL_snoc _ _
        simp only [Te.parts] at d0 d1 d2 d3 hIn
        obtain ⟨tr, hu⟩ : ∃ tr, tr = l[i]'hia := ⟨_, rfl⟩
        rw [← hu] at d0 d1 d2 d3 hIn hm3 hm4 HS
        clear hu
        obtain ⟨tk, tn, ts, tl⟩ := tr
        simp only [Te.kind, Te.n, Te.name] at d0 d1 d2 d3
        go_wp2_with fail
        refine (ih (.node tk tn ts tl) A' c' _ (by omega) (by omega) (EIn.below _ hIn ((Below.refl _ wr).alloc (Nat.le_refl _) _) (Nat.le_refl _))).mono ?_
        rintro e w2 ⟨rfl, hb2⟩
        go_wp2_with fail
        go_roundw
        case rel => exact ⟨i + 1, by omega, by go_num, by rw [HS.out]; exact congrArg (Value.int .i64) (by omega), ebelow_al hbw hb2⟩
        case measure => simp [intOf]; omega
      · go_wp2_with fail
        go_ret
        obtain rfl : i = m := by omega
        refine ⟨?_, hbw⟩
        rw [List.take_of_length_le (by omega)]
        rw [HE.out]
        exact ret_int (by omega)
set_option maxHeartbeats 1000000 in
theorem esize_any (d : Nat) : ∀ (t : Te) (A : Option Addr) (c : Nat) (w : World), depthE t ≤ d → sizeE t ≤ 100000 → EIn w Any t A →
    Calls Tryd.prog 13 #[ev t A c] w fun e w' => e = .returned (.int .i64 (sizeE t)) ∧ Below w.heap.size w w' := by
  induction d with
  | zero => intro t A c w h; have := depthE_pos t; omega
  | succ d ih =>
    intro t A c w hd hs hI
    obtain ⟨k, n, s, l⟩ := t
    have hdL : depthEL l ≤ d := by rw [depthE] at hd; omega
    have hsL : sizeEL l ≤ 100000 := by rw [sizeE] at hs; omega
    have hlen := sizeEL_len l
    have HI := Lib.hid hI
    have HE : Hid (sizeE (.node k n s l) = sizeEL l + 1) := by rw [sizeE]; exact rfl
    clear hI hd hs
    show Calls Tryd.prog 13 #[.agg #[.int .i64 k, .int .i64 n, .string s, .slice A l.length (capF l.length c)]] w _
    generalize capF l.length c = c
    obtain ⟨m, hm⟩ : ∃ m, m = l.length := ⟨_, rfl⟩
    rw [← hm]
    have hm1 : m ≤ l.length := by omega
    have hm2 : l.length ≤ m := by omega
    clear hm
    go_enter Tryd.func13, Tryd.ntmps13
    go_wp2_with fail
    go_loopw [3, 9] (fun v x wr => ∃ i : Nat, i ≤ m ∧ x = .int .i64 i ∧ v = .int .i64 (sizeEL (l.take i) + 1) ∧ Below w.heap.size w wr) (fun _ x _ => m - (intOf x).toNat)
    case atStart => exact ⟨0, by omega, rfl, by simp [sizeEL], (Below.refl _ w).alloc (Nat.le_refl _) _⟩
    case round =>
      obtain ⟨i, hi, rfl, rfl, hbw⟩ := hrel
      have hbs := hbw.size
      have hdt := sizeEL_take l i
      have hdt2 := sizeEL_take l (i + 1)
      by_cases hlt : i < m
      · have hia : i < l.length := by omega
        obtain ⟨g, o, A', c', ⟨hA, _⟩, d0, d1, d2, d3, hIn⟩ := EIn.part (EIn.below _ HI.out hbw (Nat.le_refl _)) i hia
        subst hA
        have hm3 := depthEL_mem l (l[i]'hia) (List.getElem_mem hia)
        have hm4 := sizeEL_mem l (l[i]'hia) (List.getElem_mem hia)
        have HS : Hid (sizeEL (l.take (i + 1)) = sizeEL (l.take i) + sizeE (l[i]'hia)) := by
          rw [List.take_succ_eq_append_getElem hia]; exact sizeEL_snoc _ _
        simp only [Te.parts] at d0 d1 d2 d3 hIn
        obtain ⟨tr, hu⟩ : ∃ tr, tr = l[i]'hia := ⟨_, rfl⟩
        rw [← hu] at d0 d1 d2 d3 hIn hm3 hm4 HS
        clear hu
        obtain ⟨tk, tn, ts, tl⟩ := tr
        simp only [Te.kind, Te.n, Te.name] at d0 d1 d2 d3
        go_wp2_with fail
        refine (ih (.node tk tn ts tl) A' c' _ (by omega) (by omega) (EIn.below _ hIn ((Below.refl _ wr).alloc (Nat.le_refl _) _) (Nat.le_refl _))).mono ?_
        rintro e w2 ⟨rfl, hb2⟩
        go_wp2_with fail
        go_roundw
        case rel => exact ⟨i + 1, by omega, by go_num, by rw [HS.out]; exact congrArg (Value.int .i64) (by omega), ebelow_al hbw hb2⟩
        case measure => simp [intOf]; omega
      · go_wp2_with fail
        go_ret
        obtain rfl : i = m := by omega
        refine ⟨?_, hbw⟩
        rw [List.take_of_length_le (by omega)]
        rw [HE.out]
        exact ret_int (by omega)
set_option maxHeartbeats 1000000 in
theorem efew_stop (k n L D : Int) (s : ByteArray) (A : Option Addr) (m c : Nat) (w : World) (h : L < 1 ∨ D < 1) :
    Calls Tryd.prog 16 #[.agg #[.int .i64 k, .int .i64 n, .string s, .slice A m c], .int .i64 L, .int .i64 D] w fun e w' => e = .returned (.int .i64 (-1)) ∧ Below w.heap.size w w' := by
  have hb : Below w.heap.size w (w.alloc (.cells #[.int .i64 k, .int .i64 n, .string s, .slice A m c] 24)) := (Below.refl _ w).alloc (Nat.le_refl _) _
  by_cases h1 : L < 1
  · clear h
    go_enter Tryd.func16, Tryd.ntmps16
    go_wp2_with fail
    go_ret
    exact ⟨rfl, hb⟩
  · have h2 : D < 1 := h.resolve_left h1
    clear h
    go_enter Tryd.func16, Tryd.ntmps16
    go_wp2_with fail
    go_ret
    exact ⟨rfl, hb⟩

set_option maxHeartbeats 1000000 in
theorem efew_any (d : Nat) : ∀ (t : Te) (A : Option Addr) (c : Nat) (L D : Int) (w : World), depthE t ≤ d → EIn w Any t A → -1000 ≤ L → L ≤ 100000 → -1000 ≤ D → D ≤ 1000 →
    Calls Tryd.prog 16 #[ev t A c, .int .i64 L, .int .i64 D] w fun e w' => e = .returned (.int .i64 (fewE t L D)) ∧ Below w.heap.size w w' := by
  induction d with
  | zero => intro t A c _ _ w h; have := depthE_pos t; omega
  | succ d ih =>
    intro t A c L D w hd hI hL1 hL2 hD1 hD2
    obtain ⟨k, n, s, l⟩ := t
    have hdL : depthEL l ≤ d := by rw [depthE] at hd; omega
    have hlen : l.length ≤ 140737488351232 := by rw [EIn] at hI; exact hI.2.1
    have HI := Lib.hid hI
    clear hI hd
    show Calls Tryd.prog 16 #[.agg #[.int .i64 k, .int .i64 n, .string s, .slice A l.length (capF l.length c)], .int .i64 L, .int .i64 D] w _
    generalize capF l.length c = c
    by_cases hst : L < 1 ∨ D < 1
    · refine (efew_stop k n L D s A _ c w hst).mono ?_
      rintro e w' ⟨rfl, hb⟩
      exact ⟨ret_int (by rw [fewE, if_pos hst]), hb⟩
    · have hL3 : ¬ L < 1 := fun h => hst (.inl h)
      have hD3 : ¬ D < 1 := fun h => hst (.inr h)
      have HE : Hid (fewE (.node k n s l) L D = fewEL l (L - 1) (D - 1)) := by
        show _ = _
        rw [fewE, if_neg hst]
      clear hst
      obtain ⟨m, hm⟩ : ∃ m, m = l.length := ⟨_, rfl⟩
      rw [← hm] at hlen ⊢
      have hm1 : m ≤ l.length := by omega
      have hm2 : l.length ≤ m := by omega
      clear hm
      go_enter Tryd.func16, Tryd.ntmps16
      go_wp2_with fail
      go_loopw [1, 7] (fun v x wr => ∃ (i : Nat) (F : Int), i ≤ m ∧ x = .int .i64 i ∧ v = .int .i64 F ∧ 0 ≤ F ∧ F ≤ 100000 ∧ Hid (fewEL l (L - 1) (D - 1) = fewEL (l.drop i) F (D - 1)) ∧ Below (w.heap.size + 1) (w.alloc (.cells #[.int .i64 k, .int .i64 n, .string s, .slice A m c] 24)) wr) (fun _ x _ => m - (intOf x).toNat)
      case atStart => exact ⟨0, L - 1, by omega, rfl, rfl, by omega, by omega, by exact rfl, Below.refl _ _⟩
      case round =>
        obtain ⟨i, F, hi, rfl, rfl, hF1, hF2, HQ, hbx⟩ := hrel
        have hbw : Below w.heap.size w wr := below_ac (by simpa using hbx)
        have c4 := ((Lies.new w 24 #[.int .i64 k, .int .i64 n, .string s, .slice A m c]).below hbx (by omega)).cell 3
        have hbxs := hbx.size
        simp at c4 hbxs
        by_cases hlt : i < m
        · have hia : i < l.length := by omega
          obtain ⟨g, o, A', c', ⟨hA, _⟩, d0, d1, d2, d3, hIn⟩ := EIn.part (EIn.below _ HI.out hbw (Nat.le_refl _)) i hia
          subst hA
          have hm3 := depthEL_mem l (l[i]'hia) (List.getElem_mem hia)
          have HS : Hid (fewEL (l.drop i) F (D - 1) = if fewE (l[i]'hia) F (D - 1) < 0 then -1 else fewEL (l.drop (i + 1)) (fewE (l[i]'hia) F (D - 1)) (D - 1)) := by
            show _ = _
            rw [List.drop_eq_getElem_cons hia, fewEL]
          have hfs := fewE_size (l[i]'hia) F (D - 1)
          simp only [Te.parts] at d0 d1 d2 d3 hIn
          obtain ⟨tr, hu⟩ : ∃ tr, tr = l[i]'hia := ⟨_, rfl⟩
          rw [← hu] at d0 d1 d2 d3 hIn hm3 HS hfs
          clear hu
          obtain ⟨tk, tn, ts, tl⟩ := tr
          simp only [Te.kind, Te.n, Te.name] at d0 d1 d2 d3
          obtain ⟨G, hG⟩ : ∃ G, G = fewE (.node tk tn ts tl) F (D - 1) := ⟨_, rfl⟩
          rw [← hG] at HS hfs
          have hih := ih (.node tk tn ts tl) A' c' F (D - 1) wr (by omega) hIn (by omega) (by omega) (by omega) (by omega)
          rw [← hG] at hih
          have HG := Lib.hid hG
          have HIH := Lib.hid hih
          have HFS := Lib.hid hfs
          clear hG hih hfs
          by_cases hneg : G < 0
          · go_wp2_with fail
            refine HIH.out.mono ?_
            rintro e w2 ⟨rfl, hb2⟩
            go_wp2_with fail
            go_ret
            refine ⟨ret_int ?_, hbw.trans (hb2.mono (by omega))⟩
            rw [HE.out, HQ.out, HS.out, if_pos hneg]
          · go_wp2_with fail
            refine HIH.out.mono ?_
            rintro e w2 ⟨rfl, hb2⟩
            go_wp2_with fail
            go_roundw
            case rel =>
              have h1 := HFS.out (by omega)
              refine ⟨i + 1, G, by omega, by go_num, rfl, by omega, by omega, ?_, hbx.trans (hb2.mono (by omega))⟩
              show _ = _
              rw [HQ.out, HS.out, if_neg (by omega)]
            case measure => simp [intOf]; omega
        · go_wp2_with fail
          go_ret
          obtain rfl : i = m := by omega
          refine ⟨ret_int ?_, hbw⟩
          rw [HE.out, HQ.out, List.drop_eq_nil_of_le (by omega), fewEL]

theorem esmall_any (t : Te) (A : Option Addr) (c : Nat) (L : Int) (w : World) (hI : EIn w Any t A) (hL1 : 0 ≤ L) (hL2 : L ≤ 100000) :
    Calls Tryd.prog 9 #[ev t A c, .int .i64 L] w fun e w' => e = .returned (.bool (decide (0 ≤ fewE t L 600))) ∧ Below w.heap.size w w' := by
  obtain ⟨k, n, s, l⟩ := t
  have hF := efew_any (depthE (.node k n s l)) (.node k n s l) A c L 600 (w.alloc (.cells #[.int .i64 k, .int .i64 n, .string s, .slice A l.length (capF l.length c)] 24)) (Nat.le_refl _)
    (EIn.below _ hI ((Below.refl _ w).alloc (Nat.le_refl _) _) (Nat.le_refl _)) (by omega) hL2 (by omega) (by omega)
  have HF := Lib.hid hF
  clear hF hI
  show Calls Tryd.prog 9 #[.agg #[.int .i64 k, .int .i64 n, .string s, .slice A l.length (capF l.length c)], .int .i64 L] w _
  go_enter Tryd.func9, Tryd.ntmps9
  go_wp2_with fail
  refine HF.out.mono ?_
  rintro e w2 ⟨rfl, hb2⟩
  go_wp2_with fail
  go_ret
  exact ⟨rfl, below_ac hb2⟩
end Lx
end Go.Proofs.YteagbndjoklogaaDoor
namespace Go.Proofs.YteagbndjoklogaaDoor
open Go.RowKit
namespace Lx
set_option maxRecDepth 100000
set_option maxHeartbeats 1000000 in
theorem estands_any (k n p : Int) (s : ByteArray) (A : Option Addr) (m c i : Nat) (w : World) :
    Calls Tryd.prog 22 #[.agg #[.int .i64 k, .int .i64 n, .string s, .slice A m c], .int .i64 i, .int .i64 p] w fun e w' => e = .returned (.bool (standsE k i p)) ∧ Below w.heap.size w w' := by
  have hb : Below w.heap.size w (w.alloc (.cells #[.int .i64 k, .int .i64 n, .string s, .slice A m c] 24)) := (Below.refl _ w).alloc (Nat.le_refl _) _
  by_cases h5 : k = 5
  · subst h5
    by_cases hi : 0 < i
    · have hi' : (0 : Int) < (i : Int) := by omega
      go_enter Tryd.func22, Tryd.ntmps22
      go_wp2_with fail
      go_ret
      refine ⟨ret_bool ?_, hb⟩
      by_cases hp : p = 6 <;> simp [standsE, hi, hp]
    · have hi' : ¬ (0 : Int) < (i : Int) := by omega
      go_enter Tryd.func22, Tryd.ntmps22
      go_wp2_with fail
      go_ret
      refine ⟨ret_bool ?_, hb⟩
      by_cases hp : p = 6 <;> simp [standsE, hi, hp]
  · have e5 : (k == 5) = false := by simpa using h5
    go_enter Tryd.func22, Tryd.ntmps22
    go_wp2_with fail
    go_ret
    refine ⟨ret_bool ?_, hb⟩
    by_cases hp : p = 6 <;> simp [standsE, h5, hp]
theorem str_nil (s : ByteArray) : (s.toList == []) = (s.data.toList == []) := by rw [data_list]
def blankE (n : Int) (s : List UInt8) : Bool := s == [] && decide (n = 0)
set_option maxHeartbeats 1000000 in
theorem eblank_any (k n : Int) (s : ByteArray) (A : Option Addr) (m c : Nat) (w : World) :
    Calls Tryd.prog 23 #[.agg #[.int .i64 k, .int .i64 n, .string s, .slice A m c]] w fun e w' => e = .returned (.bool (blankE n s.data.toList)) ∧ Below w.heap.size w w' := by
  have hb : Below w.heap.size w (w.alloc (.cells #[.int .i64 k, .int .i64 n, .string s, .slice A m c] 24)) := (Below.refl _ w).alloc (Nat.le_refl _) _
  rw [← data_list]
  by_cases hs : s.toList = []
  · have hs2 : s.toList.isEmpty = true := by simp [hs]
    by_cases hn : n = 0
    · subst hn
      go_enter Tryd.func23, Tryd.ntmps23
      go_wp2_with fail
      go_ret
      exact ⟨ret_bool (by simp [blankE, hs]), hb⟩
    · go_enter Tryd.func23, Tryd.ntmps23
      go_wp2_with fail
      go_ret
      exact ⟨ret_bool (by simp [blankE, hn]), hb⟩
  · have hs2 : s.toList.isEmpty = false := by simpa using hs
    go_enter Tryd.func23, Tryd.ntmps23
    go_wp2_with fail
    go_ret
    exact ⟨ret_bool (by simp [blankE, hs]), hb⟩
theorem eoper_any (s : ByteArray) (w : World) : Calls Tryd.prog 26 #[.string s] w fun e w' => e = .returned (.bool (opV s.data.toList)) ∧ w = w' := by
  go_enter Tryd.func26, Tryd.ntmps26
  go_wp2
  all_goals
    go_ret
    refine ⟨ret_bool ?_, rfl⟩
    rw [← data_list]
    simp_all [opV]
set_option maxHeartbeats 2000000 in
theorem econ_any (s : ByteArray) (w : World) (hg : Signs w) :
    Calls Tryd.prog 24 #[.string s] w fun e w' => e = .returned (.bool (conV s.data.toList)) ∧ Below w.heap.size w w' := by
  have hkv : kindV 2 s.data.toList = conV s.data.toList := by simp [kindV]
  rw [← hkv]
  clear hkv
  by_cases h16 : 16 < s.size
  · have HF := Lib.hid (kindV_long s.data.toList 2 (by simpa using h16))
    have h16' : (16 : Int) < (s.size : Int) := by omega
    go_enter Tryd.func24, Tryd.ntmps24
    go_wp2_with fail
    go_ret
    exact ⟨ret_bool HF.out.symm, Below.refl _ _⟩
  · have HT := Lib.hid (isTok_kind s.data.toList 2 (.inr rfl))
    have h16' : ¬ (16 : Int) < (s.size : Int) := by omega
    cases ha : allK s.data.toList with
    | error px =>
      obtain ⟨p, x⟩ := px
      have hx := err_code ha
      have hf : isTokV s.data.toList 2 = false := by unfold isTokV; rw [ha]
      have HF := Lib.hid hf
      have HA := Lib.hid ha
      have hx0 : (x == 0) = false := by rcases hx with rfl | rfl <;> rfl
      clear hf ha
      go_enter Tryd.func24, Tryd.ntmps24
      go_wp2_with fail
      refine (all_bad s p x _ (by omega) hg HA.out).mono ?_
      rintro e w2 ⟨rfl, hb2⟩
      go_wp2_with fail
      go_ret
      exact ⟨ret_bool (by rw [← HT.out, HF.out]), hb2⟩
    | ok ts =>
      have HA := Lib.hid ha
      obtain ⟨n, hn⟩ : ∃ n, ts.length = n := ⟨_, rfl⟩
      have HN := Lib.hid hn
      by_cases h1 : n = 1
      · subst h1
        obtain ⟨t, rfl⟩ : ∃ t, ts = [t] := by
          match ts, hn with
          | [t], _ => exact ⟨t, rfl⟩
        have hf : isTokV s.data.toList 2 = (decide (t.kind = 2) && (t.text == s.data.toList)) := by unfold isTokV; rw [ha]
        have HF := Lib.hid hf
        clear hf ha hn
        have hf2 : ∀ w2 A, Row w2 A [t] → ∃ g o, A = some ⟨g, o, none⟩ ∧ w2.cell? ⟨g, o, none⟩ = some (.int .i64 t.kind) ∧ w2.cell? ⟨g, o + 1, none⟩ = some (.string ⟨t.text.toArray⟩) := fun w2 A hr => by
          obtain ⟨g, o, hA, d0, d1, _, _⟩ := hr.at_ (i := 0) (by simp)
          simp only [Nat.zero_mul, Nat.add_zero] at d0 d1
          exact ⟨g, o, hA, d0, d1⟩
        have HR := Lib.hid hf2
        clear hf2
        by_cases hkd : t.kind = 2
        · have e1 : (t.kind == 2) = true := by simpa using hkd
          go_enter Tryd.func24, Tryd.ntmps24
          go_wp2_with fail
          refine (all_good' s [t] 1 HN.out _ (by omega) hg HA.out).mono ?_
          rintro e w2 ⟨A, c, rfl, hr, hb2⟩
          obtain ⟨g, o, rfl, d0, d1⟩ := HR.out _ _ hr
          clear hr
          go_wp2_with fail
          go_ret
          exact ⟨ret_bool (by rw [← HT.out, HF.out, data_list]; simp [hkd]), hb2⟩
        · have e1 : (t.kind == 2) = false := by simpa using hkd
          go_enter Tryd.func24, Tryd.ntmps24
          go_wp2_with fail
          refine (all_good' s [t] 1 HN.out _ (by omega) hg HA.out).mono ?_
          rintro e w2 ⟨A, c, rfl, hr, hb2⟩
          obtain ⟨g, o, rfl, d0, d1⟩ := HR.out _ _ hr
          clear hr
          go_wp2_with fail
          go_ret
          exact ⟨ret_bool (by rw [← HT.out, HF.out]; simp [hkd]), hb2⟩
      · have hf : isTokV s.data.toList 2 = false := by
          unfold isTokV; rw [ha]
          split
          · rename_i t h
            have := Except.ok.inj h
            subst this
            exact absurd hn.symm h1
          · rfl
        have HF := Lib.hid hf
        have hn1 : ((n : Int) == 1) = false := by simp; omega
        clear hf ha hn
        go_enter Tryd.func24, Tryd.ntmps24
        go_wp2_with fail
        refine (all_good' s ts n HN.out _ (by omega) hg HA.out).mono ?_
        rintro e w2 ⟨A, c, rfl, hr, hb2⟩
        clear hr
        go_wp2_with fail
        go_ret
        exact ⟨ret_bool (by rw [← HT.out, HF.out]), hb2⟩
end Lx
end Go.Proofs.YteagbndjoklogaaDoor
namespace Go.Proofs.YteagbndjoklogaaDoor
namespace Lx
set_option maxRecDepth 100000
/-- The word of a term that is written within signs. -/
def wordE (k n : Int) (s : List UInt8) : List UInt8 :=
  if k = 2 then [92] else if k = 3 then [64] else if k = 5 then [63] else if k = 4 ∨ k = 8 then s else if k = 6 then s ++ 58 :: Lib.itoa n else []
mutual
def textE : Te → List UInt8
  | .node k n s l => if k = 1 then 35 :: Lib.itoa n else if k = 7 then Lib.itoa n else if k = 9 then [33] else 40 :: (wordE k n s.data.toList ++ (textEL l ++ [41]))
def textEL : List Te → List UInt8
  | [] => []
  | t :: r => 32 :: (textE t ++ textEL r)
end
theorem textEL_snoc (l : List Te) (t : Te) : textEL (l ++ [t]) = textEL l ++ 32 :: textE t := by
  induction l with
  | nil => simp [textEL]
  | cons a r ih => simp only [List.cons_append, textEL, ih, List.append_assoc]
theorem textEL_mem : ∀ (l : List Te) (t : Te), t ∈ l → (textE t).length ≤ (textEL l).length
  | [], t, h => by simp at h
  | a :: r, t, h => by
    rw [textEL]
    simp only [List.length_cons, List.length_append]
    rcases List.mem_cons.1 h with rfl | h
    · omega
    · have := textEL_mem r t h; omega
theorem textEL_take (l : List Te) (i : Nat) : (textEL (l.take i)).length ≤ (textEL l).length := by
  induction l generalizing i with
  | nil => simp
  | cons a r ih =>
    cases i with
    | zero => simp [textEL]
    | succ i => simp only [List.take_succ_cons, textEL, List.length_cons, List.length_append]; have := ih i; omega

def fmtN (k n : Int) (s : List UInt8) (m : Nat) : Prop :=
  (k = 1 ∧ s = [] ∧ m = 0) ∨ (k = 7 ∧ s = [] ∧ m = 0) ∨ (k = 9 ∧ s = [] ∧ n = 0 ∧ m = 0) ∨ (k = 2 ∧ s = [] ∧ n = 0) ∨ (k = 3 ∧ s = [] ∧ n = 0) ∨ (k = 5 ∧ s = [] ∧ n = 0) ∨
  (k = 4 ∧ conV s = true ∧ n = 0) ∨ (k = 8 ∧ opV s = true ∧ n = 0) ∨ (k = 6 ∧ conV s = true)
mutual
def fmtE : Te → Prop
  | .node k n s l => fmtN k n s.data.toList l.length ∧ fmtEL l
def fmtEL : List Te → Prop
  | [] => True
  | t :: r => fmtE t ∧ fmtEL r
end
theorem head_fmt {k n : Int} {s : List UInt8} {m : Nat} {free bound : Int} (h : headE k n s m free bound = true) : fmtN k n s m := by
  unfold headE at h
  unfold fmtN
  by_cases k1 : k = 1
  · rw [if_pos k1] at h
    simp only [Bool.and_eq_true, beq_iff_eq, decide_eq_true_eq] at h
    simp [k1, h]
  rw [if_neg k1] at h
  by_cases k2 : k = 2
  · rw [if_pos k2] at h
    simp only [Bool.and_eq_true, beq_iff_eq, decide_eq_true_eq] at h
    simp [k2, h]
  rw [if_neg k2] at h
  by_cases k3 : k = 3
  · rw [if_pos k3] at h
    simp only [Bool.and_eq_true, beq_iff_eq, decide_eq_true_eq] at h
    simp [k3, h]
  rw [if_neg k3] at h
  by_cases k4 : k = 4
  · rw [if_pos k4] at h
    simp only [Bool.and_eq_true, decide_eq_true_eq] at h
    simp [k4, h]
  rw [if_neg k4] at h
  by_cases k5 : k = 5
  · rw [if_pos k5] at h
    simp only [Bool.and_eq_true, beq_iff_eq, decide_eq_true_eq] at h
    simp [k5, h]
  rw [if_neg k5] at h
  by_cases k6 : k = 6
  · rw [if_pos k6] at h
    simp only [Bool.and_eq_true, decide_eq_true_eq] at h
    simp [k6, h]
  rw [if_neg k6] at h
  by_cases k7 : k = 7
  · rw [if_pos k7] at h
    simp only [Bool.and_eq_true, beq_iff_eq, decide_eq_true_eq] at h
    simp [k7, h]
  rw [if_neg k7] at h
  by_cases k8 : k = 8
  · rw [if_pos k8] at h
    simp only [Bool.and_eq_true, decide_eq_true_eq] at h
    simp [k8, h]
  rw [if_neg k8] at h
  by_cases k9 : k = 9
  · rw [if_pos k9] at h
    simp only [Bool.and_eq_true, beq_iff_eq, decide_eq_true_eq] at h
    simp [k9, h]
  rw [if_neg k9] at h
  cases h
mutual
theorem may_fmt : ∀ (t : Te) (free bound : Int), mayE t free bound = true → fmtE t
  | .node k n s l, free, bound, h => by
    rw [mayE, Bool.and_eq_true, Bool.and_eq_true] at h
    rw [fmtE]
    exact ⟨head_fmt h.1, may_fmtL k 0 l free _ h.2.1⟩
theorem may_fmtL : ∀ (k : Int) (i : Nat) (l : List Te) (free bound : Int), mayEL k i l free bound = true → fmtEL l
  | k, i, [], free, bound, _ => by rw [fmtEL]; trivial
  | k, i, t :: r, free, bound, h => by
    rw [mayEL, Bool.and_eq_true, Bool.and_eq_true] at h
    rw [fmtEL]
    exact ⟨may_fmt t free bound h.2.1, may_fmtL k (i + 1) r free bound h.2.2⟩
end

theorem split_at_ (P : UInt8 → Bool) : ∀ (a b X Y : List UInt8), (∀ c ∈ a, P c = true) → (∀ c ∈ b, P c = true) → (∀ c q, X = c :: q → P c = false) → (∀ c q, Y = c :: q → P c = false) → a ++ X = b ++ Y → a = b ∧ X = Y
  | [], [], X, Y, _, _, _, _, h => ⟨rfl, h⟩
  | [], c :: b, X, Y, _, hb, hX, _, h => by
    have := hX c (b ++ Y) h
    rw [hb c (by simp)] at this
    cases this
  | c :: a, [], X, Y, ha, _, _, hY, h => by
    have := hY c (a ++ X) h.symm
    rw [ha c (by simp)] at this
    cases this
  | c :: a, d :: b, X, Y, ha, hb, hX, hY, h => by
    simp only [List.cons_append, List.cons.injEq] at h
    obtain ⟨h1, h2⟩ := split_at_ P a b X Y (fun x hx => ha x (by simp [hx])) (fun x hx => hb x (by simp [hx])) hX hY h.2
    exact ⟨by rw [h.1, h1], h2⟩

theorem deci_bd (d : Nat) (h : d < 10) : (UInt8.ofNat (48 + d)).toNat = 48 + d := by
  simp only [UInt8.toNat_ofNat']; omega
theorem deci_num (u : Nat) : numV (Lib.decDigits u) = u ∧ (∀ c ∈ Lib.decDigits u, digR (c.toNat : Int) = true) ∧ Lib.decDigits u ≠ [] := by
  induction u using Nat.strongRecOn with
  | _ u ih =>
    by_cases h : u < 10
    · rw [Lib.decDigits, dif_pos h]
      have hb := deci_bd u h
      refine ⟨?_, ?_, by simp⟩
      · have := numV_snoc [] (UInt8.ofNat (48 + u))
        simp only [List.nil_append] at this
        rw [this, numV_nil, hb]; omega
      · intro c hc
        simp only [List.mem_singleton] at hc
        subst hc
        rw [hb]
        simp only [digR, Bool.and_eq_true, decide_eq_true_eq]; omega
    · rw [Lib.decDigits, dif_neg h]
      obtain ⟨h1, h2, h3⟩ := ih (u / 10) (by omega)
      have hb := deci_bd (u % 10) (by omega)
      refine ⟨?_, ?_, by simp⟩
      · rw [numV_snoc, h1, hb]; omega
      · intro c hc
        rcases List.mem_append.1 hc with hc | hc
        · exact h2 c hc
        · simp only [List.mem_singleton] at hc
          subst hc
          rw [hb]
          simp only [digR, Bool.and_eq_true, decide_eq_true_eq]; omega
/-- Not a blank, nor a sign that shuts. -/
def goB (c : UInt8) : Bool := !(c == 32 || c == 41)
theorem go_ld {c : UInt8} (h : ldR (c.toNat : Int) = true) : goB c = true := by
  unfold goB
  rw [Bool.not_eq_true', Bool.or_eq_false_iff]
  constructor
  · rw [beq_eq_false_iff_ne]; rintro rfl; exact absurd h (by decide)
  · rw [beq_eq_false_iff_ne]; rintro rfl; exact absurd h (by decide)
theorem dig_ld {c : UInt8} (h : digR (c.toNat : Int) = true) : ldR (c.toNat : Int) = true := by
  unfold ldR; rw [h]; simp
theorem itoa_go (n : Int) : ∀ c ∈ Lib.itoa n, goB c = true := by
  intro c hc
  unfold Lib.itoa at hc
  split at hc
  · rcases List.mem_cons.1 hc with rfl | hc
    · rfl
    · exact go_ld (dig_ld ((deci_num _).2.1 c hc))
  · exact go_ld (dig_ld ((deci_num _).2.1 c hc))
theorem itoa_head (n : Int) : ∃ c q, Lib.itoa n = c :: q ∧ (c = 45 ∨ digR (c.toNat : Int) = true) := by
  unfold Lib.itoa
  split
  · exact ⟨_, _, rfl, .inl rfl⟩
  · obtain ⟨_, h2, h3⟩ := deci_num n.toNat
    obtain ⟨c, q, e⟩ := List.exists_cons_of_ne_nil h3
    exact ⟨c, q, e, .inr (h2 c (by rw [e]; simp))⟩
theorem itoa_inj {n m : Int} (h : Lib.itoa n = Lib.itoa m) : n = m := by
  have key : ∀ u v : Nat, Lib.decDigits u = Lib.decDigits v → u = v := fun u v e => by
    have h1 := (deci_num u).1
    have h2 := (deci_num v).1
    rw [e, h2] at h1
    omega
  have hd : ∀ (u v : Nat) , Lib.decDigits u = 45 :: Lib.decDigits v → False := fun u v e => by
    have := (deci_num u).2.1 45 (by rw [e]; simp)
    exact absurd this (by decide)
  unfold Lib.itoa at h
  split at h <;> split at h
  · have := key _ _ (List.cons.inj h).2; omega
  · exact (hd _ _ h.symm).elim
  · exact (hd _ _ h).elim
  · have := key _ _ h; omega
theorem con_ld {s : List UInt8} (h : conV s = true) : (∀ c ∈ s, ldR (c.toNat : Int) = true) ∧ ∃ c q, s = c :: q ∧ upR (c.toNat : Int) = true := by
  unfold conV at h
  simp only [Bool.and_eq_true, decide_eq_true_eq] at h
  refine ⟨dig_of ldR s h.2.1, ?_⟩
  cases s with
  | nil => simp [run] at h
  | cons c q =>
    refine ⟨c, q, rfl, ?_⟩
    cases hc : upR (c.toNat : Int)
    · simp [run, hc] at h
    · rfl
theorem con_58 {s : List UInt8} (h : conV s = true) : (58 : UInt8) ∉ s := fun hm => absurd ((con_ld h).1 58 hm) (by decide)
/-- Which word it is. -/
def tagW (l : List UInt8) : Int :=
  if l.head? = some 92 then 2 else if l.head? = some 64 then 3 else if l.head? = some 63 then 5 else if (l.head?.any fun c => upR (c.toNat : Int)) = true then (if (58 : UInt8) ∈ l then 6 else 4) else 8
theorem tag_up {c : UInt8} {q : List UInt8} (h : upR (c.toNat : Int) = true) : tagW (c :: q) = if (58 : UInt8) ∈ (c :: q) then 6 else 4 := by
  unfold tagW
  have h1 : (c :: q).head? ≠ some 92 := by simp only [List.head?_cons, ne_eq, Option.some.injEq]; rintro rfl; exact absurd h (by decide)
  have h2 : (c :: q).head? ≠ some 64 := by simp only [List.head?_cons, ne_eq, Option.some.injEq]; rintro rfl; exact absurd h (by decide)
  have h3 : (c :: q).head? ≠ some 63 := by simp only [List.head?_cons, ne_eq, Option.some.injEq]; rintro rfl; exact absurd h (by decide)
  rw [if_neg h1, if_neg h2, if_neg h3, if_pos (by simp [h])]
theorem tag_word {k n : Int} {s : List UInt8} {m : Nat} (h : fmtN k n s m) (h1 : k ≠ 1) (h7 : k ≠ 7) (h9 : k ≠ 9) : tagW (wordE k n s) = k ∧ ∀ c ∈ wordE k n s, goB c = true := by
  rcases h with ⟨rfl, _⟩ | ⟨rfl, _⟩ | ⟨rfl, _⟩ | ⟨rfl, rfl, rfl⟩ | ⟨rfl, rfl, rfl⟩ | ⟨rfl, rfl, rfl⟩ | ⟨rfl, hc, rfl⟩ | ⟨rfl, ho, rfl⟩ | ⟨rfl, hc⟩
  · exact absurd rfl h1
  · exact absurd rfl h7
  · exact absurd rfl h9
  · decide
  · decide
  · decide
  · have e : wordE 4 0 s = s := by simp [wordE]
    rw [e]
    obtain ⟨hl, c, q, rfl, hu⟩ := con_ld hc
    exact ⟨by rw [tag_up hu, if_neg (con_58 hc)], fun x hx => go_ld (hl x hx)⟩
  · have e : wordE 8 0 s = s := by simp [wordE]
    rw [e]
    simp only [opV, Bool.or_eq_true, beq_iff_eq] at ho
    rcases ho with rfl | rfl | rfl | rfl | rfl | rfl <;> decide
  · have e : wordE 6 n s = s ++ 58 :: Lib.itoa n := by simp [wordE]
    rw [e]
    obtain ⟨hl, c, q, rfl, hu⟩ := con_ld hc
    refine ⟨?_, ?_⟩
    · rw [List.cons_append, tag_up hu, if_pos (by simp)]
    · intro x hx
      rcases List.mem_append.1 hx with hx | hx
      · exact go_ld (hl x hx)
      · rcases List.mem_cons.1 hx with rfl | hx
        · rfl
        · exact itoa_go n x hx
theorem word_inj {k n k' n' : Int} {s s' : List UInt8} {m m' : Nat} (h : fmtN k n s m) (h' : fmtN k' n' s' m') (h1 : k ≠ 1) (h7 : k ≠ 7) (h9 : k ≠ 9) (g1 : k' ≠ 1) (g7 : k' ≠ 7) (g9 : k' ≠ 9)
    (e : wordE k n s = wordE k' n' s') : k = k' ∧ n = n' ∧ s = s' := by
  have ek : k = k' := by rw [← (tag_word h h1 h7 h9).1, e, (tag_word h' g1 g7 g9).1]
  subst ek
  refine ⟨rfl, ?_⟩
  rcases h with ⟨rfl, _⟩ | ⟨rfl, _⟩ | ⟨rfl, _⟩ | ⟨rfl, rfl, rfl⟩ | ⟨rfl, rfl, rfl⟩ | ⟨rfl, rfl, rfl⟩ | ⟨rfl, hc, rfl⟩ | ⟨rfl, ho, rfl⟩ | ⟨rfl, hc⟩
  · exact absurd rfl h1
  · exact absurd rfl h7
  · exact absurd rfl h9
  · simp [fmtN] at h'; exact ⟨h'.2.symm, h'.1.symm⟩
  · simp [fmtN] at h'; exact ⟨h'.2.symm, h'.1.symm⟩
  · simp [fmtN] at h'; exact ⟨h'.2.symm, h'.1.symm⟩
  · simp [fmtN] at h'; simp [wordE] at e; exact ⟨h'.2.symm, e⟩
  · simp [fmtN] at h'; simp [wordE] at e; exact ⟨h'.2.symm, e⟩
  · simp [fmtN] at h'
    simp [wordE] at e
    have := split_at_ (fun c => ldR (c.toNat : Int)) s s' (58 :: Lib.itoa n) (58 :: Lib.itoa n') (con_ld hc).1 (con_ld h').1 (fun c q e => by cases e; decide) (fun c q e => by cases e; decide) e
    exact ⟨itoa_inj (List.cons.inj this.2).2, this.1⟩

/-- Nothing, or what begins with a blank or a sign that shuts. -/
def EndE (r : List UInt8) : Prop := ∀ c q, r = c :: q → goB c = false
theorem end_list (l : List Te) (r : List UInt8) : EndE (textEL l ++ 41 :: r) := by
  intro c q h
  cases l with
  | nil => simp only [textEL, List.nil_append, List.cons.injEq] at h; obtain ⟨rfl, _⟩ := h; rfl
  | cons t l => simp only [textEL, List.cons_append, List.cons.injEq] at h; obtain ⟨rfl, _⟩ := h; rfl
/-- What is written without signs around it. -/
def atomE (k n : Int) : List UInt8 := if k = 1 then 35 :: Lib.itoa n else if k = 7 then Lib.itoa n else [33]
theorem atom_go {k : Int} (n : Int) : ∀ c ∈ atomE k n, goB c = true := by
  intro c hc
  unfold atomE at hc
  split at hc
  · rcases List.mem_cons.1 hc with rfl | hc
    · rfl
    · exact itoa_go n c hc
  · split at hc
    · exact itoa_go n c hc
    · simp only [List.mem_singleton] at hc; subst hc; rfl
theorem atom_text {k n : Int} {s : ByteArray} {l : List Te} (h : k = 1 ∨ k = 7 ∨ k = 9) : textE (.node k n s l) = atomE k n := by
  rw [textE]
  unfold atomE
  rcases h with rfl | rfl | rfl <;> rfl
theorem atom_inj {k k' n n' : Int} (h : k = 1 ∨ k = 7 ∨ k = 9) (h' : k' = 1 ∨ k' = 7 ∨ k' = 9) (e : atomE k n = atomE k' n') : k = k' ∧ (k = 9 ∨ n = n') := by
  obtain ⟨c, q, hc, hd⟩ := itoa_head n
  obtain ⟨c', q', hc', hd'⟩ := itoa_head n'
  have w35 : ¬ (c = 35) := by rintro rfl; exact absurd hd (by decide)
  have w33 : ¬ (c = 33) := by rintro rfl; exact absurd hd (by decide)
  have w35' : ¬ (c' = 35) := by rintro rfl; exact absurd hd' (by decide)
  have w33' : ¬ (c' = 33) := by rintro rfl; exact absurd hd' (by decide)
  rcases h with rfl | rfl | rfl <;> rcases h' with rfl | rfl | rfl
  · exact ⟨rfl, .inr (itoa_inj (by simpa [atomE] using e))⟩
  · simp [atomE, hc'] at e; exact absurd e.1.symm w35'
  · simp [atomE] at e
  · simp [atomE, hc] at e; exact absurd e.1 w35
  · exact ⟨rfl, .inr (itoa_inj (by simpa [atomE] using e))⟩
  · simp [atomE, hc] at e; exact absurd e.1 w33
  · simp [atomE] at e
  · simp [atomE, hc'] at e; exact absurd e.1.symm w33'
  · exact ⟨rfl, .inl rfl⟩
theorem atom_40 {k n : Int} (h : k = 1 ∨ k = 7 ∨ k = 9) (X Y : List UInt8) : atomE k n ++ X ≠ 40 :: Y := by
  obtain ⟨c, q, hc, hd⟩ := itoa_head n
  have w40 : ¬ (c = 40) := by rintro rfl; exact absurd hd (by decide)
  rcases h with rfl | rfl | rfl
  · simp [atomE]
  · simp [atomE, hc, w40]
  · simp [atomE]
theorem paren_text {k n : Int} {s : ByteArray} {l : List Te} (h1 : k ≠ 1) (h7 : k ≠ 7) (h9 : k ≠ 9) : textE (.node k n s l) = 40 :: (wordE k n s.data.toList ++ (textEL l ++ [41])) := by
  rw [textE, if_neg h1, if_neg h7, if_neg h9]
theorem byte_ext {s t : ByteArray} (h : s.data.toList = t.data.toList) : s = t := by
  obtain ⟨⟨a⟩⟩ := s
  obtain ⟨⟨b⟩⟩ := t
  simp at h
  rw [h]
theorem fmt_atom {k n : Int} {s : List UInt8} {m : Nat} (h : fmtN k n s m) (hk : k = 1 ∨ k = 7 ∨ k = 9) : s = [] ∧ m = 0 ∧ (k = 9 → n = 0) := by
  rcases hk with rfl | rfl | rfl
  · simp [fmtN] at h; exact ⟨h.1, h.2, fun e => by omega⟩
  · simp [fmtN] at h; exact ⟨h.1, h.2, fun e => by omega⟩
  · simp [fmtN] at h; exact ⟨h.1, h.2.2, fun _ => h.2.1⟩
mutual
theorem textE_inj : ∀ (t u : Te) (X Y : List UInt8), fmtE t → fmtE u → EndE X → EndE Y → textE t ++ X = textE u ++ Y → t = u ∧ X = Y
  | .node k n s l, .node k' n' s' l', X, Y, ht, hu, hX, hY, h => by
    rw [fmtE] at ht hu
    by_cases hk : k = 1 ∨ k = 7 ∨ k = 9
    · rw [atom_text hk] at h
      by_cases hk' : k' = 1 ∨ k' = 7 ∨ k' = 9
      · rw [atom_text hk'] at h
        obtain ⟨e1, e2⟩ := split_at_ goB _ _ X Y (atom_go n) (atom_go n') hX hY h
        obtain ⟨rfl, e3⟩ := atom_inj hk hk' e1
        obtain ⟨a1, a2, a3⟩ := fmt_atom ht.1 hk
        obtain ⟨b1, b2, b3⟩ := fmt_atom hu.1 hk'
        have hs : s = s' := byte_ext (a1.trans b1.symm)
        have hl : l = [] := List.eq_nil_of_length_eq_zero a2
        have hl' : l' = [] := List.eq_nil_of_length_eq_zero b2
        have hn : n = n' := by
          rcases e3 with e3 | e3
          · rw [a3 e3, b3 e3]
          · exact e3
        subst hs hl hl' hn
        exact ⟨rfl, e2⟩
      · simp only [not_or] at hk'
        rw [paren_text hk'.1 hk'.2.1 hk'.2.2] at h
        exact absurd h (atom_40 hk _ _)
    · simp only [not_or] at hk
      rw [paren_text hk.1 hk.2.1 hk.2.2] at h
      by_cases hk' : k' = 1 ∨ k' = 7 ∨ k' = 9
      · rw [atom_text hk'] at h
        exact absurd h.symm (atom_40 hk' _ _)
      · simp only [not_or] at hk'
        rw [paren_text hk'.1 hk'.2.1 hk'.2.2] at h
        simp only [List.cons_append, List.cons.injEq, List.append_assoc, List.nil_append, true_and] at h
        obtain ⟨e1, e2⟩ := split_at_ goB _ _ _ _ (tag_word ht.1 hk.1 hk.2.1 hk.2.2).2 (tag_word hu.1 hk'.1 hk'.2.1 hk'.2.2).2 (end_list l X) (end_list l' Y) h
        obtain ⟨rfl, rfl, e3⟩ := word_inj ht.1 hu.1 hk.1 hk.2.1 hk.2.2 hk'.1 hk'.2.1 hk'.2.2 e1
        obtain ⟨rfl, rfl⟩ := textEL_inj l l' X Y ht.2 hu.2 e2
        rw [byte_ext e3]
        exact ⟨rfl, rfl⟩
theorem textEL_inj : ∀ (l l' : List Te) (X Y : List UInt8), fmtEL l → fmtEL l' → textEL l ++ 41 :: X = textEL l' ++ 41 :: Y → l = l' ∧ X = Y
  | [], [], X, Y, _, _, h => by simp only [textEL, List.nil_append, List.cons.injEq, true_and] at h; exact ⟨rfl, h⟩
  | [], t :: r, X, Y, _, _, h => by simp [textEL] at h
  | t :: r, [], X, Y, _, _, h => by simp [textEL] at h
  | t :: r, t' :: r', X, Y, ht, hu, h => by
    rw [fmtEL] at ht hu
    simp only [textEL, List.cons_append, List.cons.injEq, List.append_assoc, true_and] at h
    obtain ⟨rfl, e⟩ := textE_inj t t' _ _ ht.1 hu.1 (end_list r X) (end_list r' Y) h
    obtain ⟨rfl, rfl⟩ := textEL_inj r r' X Y ht.2 hu.2 e
    exact ⟨rfl, rfl⟩
end
/-- Of terms that may be the texts are the same just if the terms are. -/
theorem text_same {t u : Te} (ht : fmtE t) (hu : fmtE u) : decide (textE t = textE u) = sameE t u := by
  rw [Bool.eq_iff_iff, decide_eq_true_eq, sameE_iff]
  refine ⟨fun h => (textE_inj t u [] [] ht hu (fun _ _ e => by cases e) (fun _ _ e => by cases e) (by rw [h])).1, fun h => by rw [h]⟩
end Lx
end Go.Proofs.YteagbndjoklogaaDoor
namespace Go.Proofs.YteagbndjoklogaaDoor
open Go.RowKit
namespace Lx
set_option maxRecDepth 100000
theorem ELIn.below (l : List Te) {w w' : World} {X : Nat → Prop} {A : Option Addr} {i B : Nat} (h : ELIn w X l A i) (hb : Below B w w') (hB : w.heap.size ≤ B) : ELIn w' X l A i :=
  ELIn.keep l h fun g j hX hlt => ⟨hb.cell (p := ⟨g, j, none⟩) (by show g < B; omega), hX⟩
theorem ename_eq (s t : ByteArray) : (s.toList == t.toList) = decide (s = t) := by
  rw [Bool.eq_iff_iff, beq_iff_eq, decide_eq_true_eq]
  refine ⟨fun e => Classical.byContradiction fun h => ?_, fun e => by rw [e]⟩
  rw [data_list, data_list] at e
  exact h (byte_ext e)
set_option maxHeartbeats 1000000 in
theorem eun1_any (k n : Int) (s s0 : ByteArray) (A : Option Addr) (m c g : Nat) (w : World) (hc : w.cell? ⟨g, 2, none⟩ = some (.string s0)) :
    Calls Tryd.prog 32 #[.agg #[.int .i64 k, .int .i64 n, .string s, .slice A m c], .pointer (some ⟨g, 0, none⟩)] w fun e w' => e = .returned (.bool (decide (s0 = s))) ∧ Below w.heap.size w w' := by
  have hb : Below w.heap.size w (w.alloc (.cells #[.int .i64 k, .int .i64 n, .string s, .slice A m c] 24)) := (Below.refl _ w).alloc (Nat.le_refl _) _
  have hlt := cell_lt hc
  rw [← hb.cell (p := ⟨g, 2, none⟩) hlt] at hc
  have HE := Lib.hid (ename_eq s0 s)
  go_enter Tryd.func32, Tryd.ntmps32
  go_wp2_with fail
  go_ret
  refine ⟨ret_bool ?_, hb⟩
  first | exact HE.out | (rw [← HE.out]) | (rw [← HE.out]; rfl)

theorem ELIn.take (l : List Te) {w : World} {X : Nat → Prop} {A : Option Addr} (i : Nat) (h : ELIn w X l A 0) : ELIn w X (l.take i) A 0 :=
  ELIn.mk _ 0 fun j hj => by
    have hj2 : j < l.length := by rw [List.length_take] at hj; omega
    have := ELIn.at_ l h j hj2
    rw [List.getElem_take]
    exact this
set_option maxHeartbeats 1000000 in
theorem eidx_any (l : List Te) (s0 : ByteArray) (A : Option Addr) (m c g : Nat) (w : World) (hm : m = l.length) (hm2 : m ≤ 100) (hI : ELIn w Any l A 0) (hc : w.cell? ⟨g, 2, none⟩ = some (.string s0)) :
    Calls Tryd.prog 37 #[.slice A m c, .func (.func 32) #[] #[.pointer (some ⟨g, 0, none⟩)]] w fun e w' => (∃ r : Int, e = .returned (.int .i64 r) ∧ decide (0 ≤ r) = l.any fun u => decide (s0 = u.name)) ∧ Below w.heap.size w w' := by
  have hm1 : m ≤ l.length := by omega
  have hm3 : l.length ≤ m := by omega
  have HI := Lib.hid hI
  have HC := Lib.hid hc
  clear hm hI hc
  go_enter Tryd.func37, Tryd.ntmps37
  go_wp2_with fail
  go_loopw [8] (fun x wr => ∃ i : Nat, i ≤ m ∧ x = .int .i64 i ∧ Hid ((l.take i).any (fun u => decide (s0 = u.name)) = false) ∧ Below w.heap.size w wr) (fun x _ => m - (intOf x).toNat)
  case atStart => exact ⟨0, by omega, rfl, by exact rfl, Below.refl _ w⟩
  case round =>
    obtain ⟨i, hi, rfl, HQ, hbw⟩ := hrel
    have hcr : wr.cell? ⟨g, 2, none⟩ = some (.string s0) := (hbw.cell (p := ⟨g, 2, none⟩) (cell_lt HC.out)).trans HC.out
    by_cases hlt : i < m
    · have hia : i < l.length := by omega
      obtain ⟨g', o, A', c', ⟨hA, _⟩, d0, d1, d2, d3, hIn⟩ := ELIn.at_ l (ELIn.below l HI.out hbw (Nat.le_refl _)) i hia
      subst hA
      rw [Nat.zero_add] at d0 d1 d2 d3
      have HS : Hid (∀ nm, nm = (l[i]'hia).name → (l.take (i + 1)).any (fun u => decide (s0 = u.name)) = ((l.take i).any (fun u => decide (s0 = u.name)) || decide (s0 = nm))) := Lib.hid fun nm h => by
        rw [List.take_succ_eq_append_getElem hia, List.any_append, h]; simp
      have HM : Hid (∀ nm, nm = (l[i]'hia).name → decide (s0 = nm) = true → l.any (fun u => decide (s0 = u.name)) = true) := Lib.hid fun nm h0 h => List.any_eq_true.2 ⟨l[i]'hia, List.getElem_mem hia, by rw [← h0]; exact h⟩
      obtain ⟨tr, hu⟩ : ∃ tr, tr = l[i]'hia := ⟨_, rfl⟩
      rw [← hu] at d0 d1 d2 d3 HS HM
      clear hu hIn
      obtain ⟨tk, tn, ts, tl⟩ := tr
      simp only [Te.kind, Te.n, Te.name, Te.parts] at d0 d1 d2 d3
      have HS := Lib.hid (HS.out ts rfl)
      have HM := Lib.hid (HM.out ts rfl)
      have HU := Lib.hid (eun1_any tk tn ts s0 A' tl.length (capF tl.length c') g wr hcr)
      clear hcr
      by_cases hq : s0 = ts
      · rw [decide_eq_true hq] at HU HM
        have HM2 := Lib.hid (HM.out rfl)
        clear hq HM
        go_wp2_with fail
        refine HU.out.mono ?_
        rintro e w2 ⟨rfl, hb2⟩
        go_wp2_with fail
        go_ret
        exact ⟨⟨i, rfl, by rw [HM2.out]; simp; try omega⟩, hbw.trans (hb2.mono hbw.size)⟩
      · rw [decide_eq_false hq] at HU HS
        clear hq
        go_wp2_with fail
        refine HU.out.mono ?_
        rintro e w2 ⟨rfl, hb2⟩
        go_wp2_with fail
        go_roundw
        case rel =>
          refine ⟨i + 1, by omega, by go_num, ?_, hbw.trans (hb2.mono hbw.size)⟩
          show _ = _
          rw [HS.out, HQ.out]; rfl
        case measure => simp [intOf]; omega
    · have HT := Lib.hid (List.take_of_length_le (l := l) (i := i) (by omega))
      clear hcr
      go_wp2_with fail
      go_ret
      refine ⟨⟨-1, rfl, ?_⟩, hbw⟩
      have h := HQ.out
      rw [HT.out] at h
      rw [h]; rfl
theorem ehas_any (l : List Te) (s0 : ByteArray) (A : Option Addr) (m c g : Nat) (w : World) (hm : m = l.length) (hm2 : m ≤ 100) (hI : ELIn w Any l A 0) (hc : w.cell? ⟨g, 2, none⟩ = some (.string s0)) :
    Calls Tryd.prog 31 #[.slice A m c, .func (.func 32) #[] #[.pointer (some ⟨g, 0, none⟩)]] w fun e w' => e = .returned (.bool (l.any fun u => decide (s0 = u.name))) ∧ Below w.heap.size w w' := by
  have HX := Lib.hid (eidx_any l s0 A m c g w hm hm2 hI hc)
  clear hI hc hm
  go_enter Tryd.func31, Tryd.ntmps31
  go_wp2_with fail
  refine HX.out.mono ?_
  rintro e w2 ⟨⟨r, rfl, hr⟩, hb2⟩
  have HR := Lib.hid hr
  clear hr
  by_cases h0 : 0 ≤ r
  · go_wp2_with fail
    go_ret
    exact ⟨ret_bool (by first | exact HR.out | (rw [← HR.out]; simp [h0])), hb2⟩
  · go_wp2_with fail
    go_ret
    exact ⟨ret_bool (by first | exact HR.out | (rw [← HR.out]; simp [h0])), hb2⟩

set_option maxHeartbeats 1000000 in
theorem eunlike_any (l : List Te) (A : Option Addr) (m c : Nat) (w : World) (hm : m = l.length) (hm2 : m ≤ 100) (hmc : m ≤ c) (hI : ELIn w Any l A 0) :
    Calls Tryd.prog 25 #[.slice A m c] w fun e w' => e = .returned (.bool (unlikeE l)) ∧ Below w.heap.size w w' := by
  have hm1 : m ≤ l.length := by omega
  have hm3 : l.length ≤ m := by omega
  have HI := Lib.hid hI
  clear hm hI
  go_enter Tryd.func25, Tryd.ntmps25
  go_wp2_with fail
  go_loopw [7] (fun x wr => ∃ i : Nat, i ≤ m ∧ x = .int .i64 i ∧ Hid (unlikeE l = unlikeF (l.take i) (l.drop i)) ∧ Below w.heap.size w wr) (fun x _ => m - (intOf x).toNat)
  case atStart => exact ⟨0, by omega, rfl, by exact rfl, Below.refl _ w⟩
  case round =>
    obtain ⟨i, hi, rfl, HQ, hbw⟩ := hrel
    have hbs := hbw.size
    by_cases hlt : i < m
    · have hia : i < l.length := by omega
      have hIr := ELIn.below l HI.out hbw (Nat.le_refl _)
      obtain ⟨g', o, A', c', ⟨hA, _⟩, d0, d1, d2, d3, hIn⟩ := ELIn.at_ l hIr i hia
      subst hA
      rw [Nat.zero_add] at d0 d1 d2 d3
      have HS : Hid (∀ nm, nm = (l[i]'hia).name → unlikeF (l.take i) (l.drop i) = (!((l.take i).any fun u => decide (nm = u.name)) && unlikeF (l.take (i + 1)) (l.drop (i + 1)))) := Lib.hid fun nm h => by
        rw [List.drop_eq_getElem_cons hia, unlikeF, h, List.take_succ_eq_append_getElem hia]
      have HT := Lib.hid (ELIn.take l i hIr)
      obtain ⟨tr, hu⟩ : ∃ tr, tr = l[i]'hia := ⟨_, rfl⟩
      rw [← hu] at d0 d1 d2 d3 HS
      clear hu hIn hIr
      obtain ⟨tk, tn, ts, tl⟩ := tr
      simp only [Te.kind, Te.n, Te.name, Te.parts] at d0 d1 d2 d3
      have HS := Lib.hid (HS.out ts rfl)
      have hb1 : Below wr.heap.size wr (wr.alloc (.cells #[.int .i64 tk, .int .i64 tn, .string ts, .slice A' tl.length (capF tl.length c')] 24)) := (Below.refl _ wr).alloc (Nat.le_refl _) _
      have hL := Lies.new wr 24 #[.int .i64 tk, .int .i64 tn, .string ts, .slice A' tl.length (capF tl.length c')]
      have HH := Lib.hid (ehas_any (l.take i) ts (some ⟨g', o, none⟩) i c wr.heap.size _ (by rw [List.length_take]; omega) (by omega) (ELIn.below _ HT.out hb1 (Nat.le_refl _)) (hL.cell 2))
      have hmk : ∀ w0, (Instr.makeFunc (.func 32) #[] #[.pointer (some ⟨wr.heap.size, 0, none⟩)]).run Tryd.prog w0 = .ok (.func (.func 32) #[] #[.pointer (some ⟨wr.heap.size, 0, none⟩)]) w0 := fun _ => rfl
      clear hL
      cases hq : (l.take i).any fun u => decide (ts = u.name)
      · rw [hq] at HH HS
        clear hq
        go_wp2_with fail
        refine HH.out.mono ?_
        rintro e w2 ⟨rfl, hb2⟩
        go_wp2_with fail
        go_roundw
        case rel =>
          refine ⟨i + 1, by omega, by go_num, ?_, ebelow_al hbw hb2⟩
          show _ = _
          rw [HQ.out, HS.out]; rfl
        case measure => simp [intOf]; omega
      · rw [hq] at HH HS
        clear hq
        go_wp2_with fail
        refine HH.out.mono ?_
        rintro e w2 ⟨rfl, hb2⟩
        go_wp2_with fail
        go_ret
        exact ⟨ret_bool (by rw [HQ.out, HS.out]; rfl), ebelow_al hbw hb2⟩
    · go_wp2_with fail
      go_ret
      exact ⟨ret_bool (by rw [HQ.out, List.drop_eq_nil_of_le (by omega), unlikeF]), hbw⟩
end Lx
end Go.Proofs.YteagbndjoklogaaDoor
namespace Go.Proofs.YteagbndjoklogaaDoor
open Go.RowKit
namespace Lx
set_option maxRecDepth 100000
theorem Lies.four' {w : World} {g : Nat} {t : TypeId} {a b c d : Value} (h : Lies w g t #[a, b, c, d]) :
    w.cell? ⟨g, 0, none⟩ = some a ∧ w.cell? ⟨g, 1, none⟩ = some b ∧ w.cell? ⟨g, 2, none⟩ = some c ∧ w.cell? ⟨g, 3, none⟩ = some d :=
  ⟨h.cell 0, h.cell 1, h.cell 2, h.cell 3⟩
/-- What the closure has caught: the term, and two numbers. -/
structure Caught (W : World) (G : Nat) (k n : Int) (s : ByteArray) (A : Option Addr) (m c : Nat) (free bound : Int) : Prop where
  t : Lies W G 24 #[.int .i64 k, .int .i64 n, .string s, .slice A m c]
  f : Lies W (G + 1) 3 #[.int .i64 free]
  b : Lies W (G + 2) 3 #[.int .i64 bound]
theorem Caught.below {W W' : World} {G : Nat} {k n : Int} {s : ByteArray} {A : Option Addr} {m c : Nat} {free bound : Int} (h : Caught W G k n s A m c free bound) (hb : Below W.heap.size W W') : Caught W' G k n s A m c free bound :=
  ⟨h.t.below hb h.t.lt, h.f.below hb h.f.lt, h.b.below hb h.b.lt⟩
theorem Caught.old {W : World} {G : Nat} {k n : Int} {s : ByteArray} {A : Option Addr} {m c : Nat} {free bound : Int} (h : Caught W G k n s A m c free bound) (o : Obj) : Caught (W.alloc o) G k n s A m c free bound :=
  ⟨h.t.old o, h.f.old o, h.b.old o⟩
/-- What the closure tells. -/
def partsE (k : Int) (l : List Te) (free bound least most : Int) : Bool := decide (least ≤ (l.length : Int)) && (decide ((l.length : Int) ≤ most) && mayEL k 0 l free bound)
set_option maxHeartbeats 2000000 in
theorem emayp_any (k n : Int) (s : ByteArray) (l : List Te) (A : Option Addr) (m c G : Nat) (free bound least most more : Int) (w : World) (hm : m = l.length) (hI : ELIn w Any l A 0) (hml : m ≤ 140737488351232)
    (hg : Signs w) (hC : Caught w G k n s A m c free bound) (hb0 : 0 ≤ bound) (hb1 : bound ≤ 1000000) (hm0 : 0 ≤ more) (hm8 : more ≤ 8)
    (IH : ∀ (t' : Te) (A' : Option Addr) (c' : Nat) (w' : World), t' ∈ l → EIn w' Any t' A' → Signs w' → Calls Tryd.prog 17 #[ev t' A' c', .int .i64 free, .int .i64 (bound + more)] w' fun e w'' => e = .returned (.bool (mayE t' free (bound + more))) ∧ Below w'.heap.size w' w'') :
    Calls Tryd.prog 21 #[.int .i64 least, .int .i64 most, .int .i64 more, .pointer (some ⟨G, 0, none⟩), .pointer (some ⟨G + 1, 0, none⟩), .pointer (some ⟨G + 2, 0, none⟩)] w fun e w' => e = .returned (.bool (partsE k l free (bound + more) least most)) ∧ Below w.heap.size w w' := by
  have hm1 : m ≤ l.length := by omega
  have hm3 : l.length ≤ m := by omega
  have c3 := hC.t.cell 3
  simp at c3
  have HI := Lib.hid hI
  have HIH := Lib.hid IH
  have HP : Hid (partsE k l free (bound + more) least most = (decide (least ≤ (m : Int)) && (decide ((m : Int) ≤ most) && mayEL k 0 l free (bound + more)))) := by
    show _ = _
    rw [hm]; rfl
  clear hm hI IH
  by_cases h1 : (m : Int) < least
  · go_enter Tryd.func21, Tryd.ntmps21
    go_wp2_with fail
    go_ret
    refine ⟨ret_bool ?_, Below.refl _ _⟩
    rw [HP.out, decide_eq_false (by omega)]; rfl
  · by_cases h2 : most < (m : Int)
    · go_enter Tryd.func21, Tryd.ntmps21
      go_wp2_with fail
      go_ret
      refine ⟨ret_bool ?_, Below.refl _ _⟩
      rw [HP.out, decide_eq_true (by omega : least ≤ (m : Int)), decide_eq_false (by omega)]; rfl
    · have HE : Hid (partsE k l free (bound + more) least most = mayEL k 0 l free (bound + more)) := by
        show _ = _
        rw [HP.out, decide_eq_true (by omega : least ≤ (m : Int)), decide_eq_true (by omega : (m : Int) ≤ most)]; rfl
      have hw : IntKind.i64.wrap (bound + more) = bound + more := IntWalk.i64_in _ (by omega)
      clear HP
      go_enter Tryd.func21, Tryd.ntmps21
      go_wp2_with fail
      go_loopw [27] (fun x wr => ∃ i : Nat, i ≤ m ∧ x = .int .i64 i ∧ Hid (mayEL k 0 l free (bound + more) = mayEL k i (l.drop i) free (bound + more)) ∧ Caught wr G k n s A m c free bound ∧ Below w.heap.size w wr) (fun x _ => m - (intOf x).toNat)
      case atStart => exact ⟨0, by omega, rfl, by exact rfl, hC, Below.refl _ _⟩
      case round =>
        obtain ⟨i, hi, rfl, HQ, hCr, hbw⟩ := hrel
        have hbs := hbw.size
        by_cases hlt : i < m
        · have hia : i < l.length := by omega
          obtain ⟨g', o, A', c', ⟨hA, _⟩, d0, d1, d2, d3, hIn⟩ := ELIn.at_ l (ELIn.below l HI.out hbw (Nat.le_refl _)) i hia
          subst hA
          rw [Nat.zero_add] at d0 d1 d2 d3
          have hmem := List.getElem_mem hia
          have HS : Hid (mayEL k i (l.drop i) free (bound + more) = (standsE k i (l[i]'hia).kind && (mayE (l[i]'hia) free (bound + more) && mayEL k (i + 1) (l.drop (i + 1)) free (bound + more)))) := by
            show _ = _
            rw [List.drop_eq_getElem_cons hia, mayEL]
          obtain ⟨tr, hu⟩ : ∃ tr, tr = l[i]'hia := ⟨_, rfl⟩
          rw [← hu] at d0 d1 d2 d3 HS hmem hIn
          clear hu c3
          obtain ⟨tk, tn, ts, tl⟩ := tr
          simp only [Te.kind, Te.n, Te.name, Te.parts] at d0 d1 d2 d3 HS
          obtain ⟨O, hO⟩ : ∃ O, O = Obj.cells #[.int .i64 tk, .int .i64 tn, .string ts, .slice A' tl.length (capF tl.length c')] 24 := ⟨_, rfl⟩
          have hCO := hCr.old O
          rw [hO] at hCO
          obtain ⟨b0, b1, b2, b3⟩ := hCO.t.four'
          have HST := Lib.hid (estands_any k n tk s (some ⟨g', o, none⟩) m c i (wr.alloc (.cells #[.int .i64 tk, .int .i64 tn, .string ts, .slice A' tl.length (capF tl.length c')] 24)))
          have hgr : Signs wr := hg.below hbw hg.pos
          clear hO
          cases hst : standsE k i tk
          · rw [hst] at HST HS
            clear hst
            go_wp2_with fail
            refine HST.out.mono ?_
            rintro e w3 ⟨rfl, hb3⟩
            go_wp2_with fail
            go_ret
            exact ⟨ret_bool (by rw [HE.out, HQ.out, HS.out]; rfl), ebelow_al hbw hb3⟩
          · rw [hst] at HST HS
            clear hst
            go_wp2_with fail
            refine HST.out.mono ?_
            rintro e w3 ⟨rfl, hb3⟩
            have hb3w := ebelow_al hbw hb3
            have hbr : Below wr.heap.size wr w3 := ((Below.refl _ wr).alloc (Nat.le_refl _) _).trans (hb3.mono (by simp))
            have hn3 := (Lies.new wr 24 #[.int .i64 tk, .int .i64 tn, .string ts, .slice A' tl.length (capF tl.length c')]).below hb3 (by simp)
            obtain ⟨n0, n1, n2, n3⟩ := hn3.four'
            have hC3 := hCO.below hb3
            have f0 := hC3.f.cell 0
            have f1 := hC3.b.cell 0
            simp at f0 f1
            have HM := Lib.hid (HIH.out (.node tk tn ts tl) A' c' w3 hmem (EIn.below _ hIn hbr (Nat.le_refl _)) (hgr.below hbr hgr.pos))
            clear d0 d1 d2 d3 b0 b1 b2 b3 hn3 hb3 hCO hCr
            cases hmt : mayE (.node tk tn ts tl) free (bound + more)
            · rw [hmt] at HM HS
              clear hmt
              go_wp2_with fail
              refine HM.out.mono ?_
              rintro e w4 ⟨rfl, hb4⟩
              go_wp2_with fail
              go_ret
              exact ⟨ret_bool (by rw [HE.out, HQ.out, HS.out]; rfl), hb3w.trans (hb4.mono hb3w.size)⟩
            · rw [hmt] at HM HS
              clear hmt
              go_wp2_with fail
              refine HM.out.mono ?_
              rintro e w4 ⟨rfl, hb4⟩
              go_wp2_with fail
              go_roundw
              case rel =>
                refine ⟨i + 1, by omega, by go_num, ?_, hC3.below hb4, hb3w.trans (hb4.mono hb3w.size)⟩
                show _ = _
                rw [HQ.out, HS.out]; rfl
              case measure => simp [intOf]; omega
        · clear c3
          go_wp2_with fail
          go_ret
          obtain rfl : i = m := by omega
          exact ⟨ret_bool (by rw [HE.out, HQ.out, List.drop_eq_nil_of_le (by omega), mayEL]), hbw⟩
end Lx
end Go.Proofs.YteagbndjoklogaaDoor
namespace Go.Proofs.YteagbndjoklogaaDoor
namespace Lx
set_option maxRecDepth 100000
theorem mayE_1 (n : Int) (s : ByteArray) (l : List Te) (free bound : Int) : mayE (.node 1 n s l) free bound = (s.data.toList == [] && (decide (0 ≤ n) && (decide (n - bound < free) && partsE 1 l free (bound + 0) 0 0))) := by
  rw [Bool.eq_iff_iff]
  simp [mayE, headE, moreE, partsE]
  grind
theorem mayE_2 (n : Int) (s : ByteArray) (l : List Te) (free bound : Int) : mayE (.node 2 n s l) free bound = (blankE n s.data.toList && partsE 2 l free (bound + 1) 1 1) := by
  rw [Bool.eq_iff_iff]
  simp [mayE, headE, moreE, partsE, blankE]
  grind
theorem mayE_3 (n : Int) (s : ByteArray) (l : List Te) (free bound : Int) : mayE (.node 3 n s l) free bound = (blankE n s.data.toList && partsE 3 l free (bound + 0) 2 2) := by
  rw [Bool.eq_iff_iff]
  simp [mayE, headE, moreE, partsE, blankE]
  grind
theorem mayE_4 (n : Int) (s : ByteArray) (l : List Te) (free bound : Int) : mayE (.node 4 n s l) free bound = (conV s.data.toList && (decide (n = 0) && partsE 4 l free (bound + 0) 0 8)) := by
  rw [Bool.eq_iff_iff]
  simp [mayE, headE, moreE, partsE]
  grind
theorem mayE_5 (n : Int) (s : ByteArray) (l : List Te) (free bound : Int) : mayE (.node 5 n s l) free bound = (blankE n s.data.toList && (partsE 5 l free (bound + 0) 2 9 && unlikeE (l.drop 1))) := by
  rw [Bool.eq_iff_iff]
  simp [mayE, headE, moreE, partsE, blankE]
  grind
theorem mayE_6 (n : Int) (s : ByteArray) (l : List Te) (free bound : Int) : mayE (.node 6 n s l) free bound = (conV s.data.toList && (decide (0 ≤ n) && (decide (n ≤ 8) && partsE 6 l free (bound + n) 1 1))) := by
  rw [Bool.eq_iff_iff]
  simp [mayE, headE, moreE, partsE]
  grind
theorem mayE_7 (n : Int) (s : ByteArray) (l : List Te) (free bound : Int) : mayE (.node 7 n s l) free bound = (s.data.toList == [] && partsE 7 l free (bound + 0) 0 0) := by
  rw [Bool.eq_iff_iff]
  simp [mayE, headE, moreE, partsE]
  grind
theorem mayE_8 (n : Int) (s : ByteArray) (l : List Te) (free bound : Int) : mayE (.node 8 n s l) free bound = (opV s.data.toList && (decide (n = 0) && partsE 8 l free (bound + 0) 2 2)) := by
  rw [Bool.eq_iff_iff]
  simp [mayE, headE, moreE, partsE]
  grind
theorem mayE_9 (n : Int) (s : ByteArray) (l : List Te) (free bound : Int) : mayE (.node 9 n s l) free bound = (blankE n s.data.toList && partsE 9 l free (bound + 0) 0 0) := by
  rw [Bool.eq_iff_iff]
  simp [mayE, headE, moreE, partsE, blankE]
  grind
theorem mayE_no {k : Int} (h : k < 1 ∨ 9 < k) (n : Int) (s : ByteArray) (l : List Te) (free bound : Int) : mayE (.node k n s l) free bound = false := by
  have e : headE k n s.data.toList l.length free bound = false := by
    unfold headE
    rw [if_neg (by omega), if_neg (by omega), if_neg (by omega), if_neg (by omega), if_neg (by omega), if_neg (by omega), if_neg (by omega), if_neg (by omega), if_neg (by omega)]
  rw [mayE, e]; rfl
end Lx
end Go.Proofs.YteagbndjoklogaaDoor
