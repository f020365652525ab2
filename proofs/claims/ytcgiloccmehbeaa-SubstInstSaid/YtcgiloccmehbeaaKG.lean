/-
  Texts that lie one behind the other: Te Ein RowTe DepthE.
-/
import Derived.Test.YtcgiloccmehbeaaK3
import Derived.Deep.RegionHeld3
import Derived.Deep.DrawnRows
namespace Go.Proofs.Ytcgiloccmehbeaa
namespace Lx
set_option maxRecDepth 100000

inductive Te where
  | node (kind : Int) (n : Int) (name : ByteArray) (l : List Te)

def Te.kind : Te → Int | .node k _ _ _ => k
def Te.n : Te → Int | .node _ n _ _ => n
def Te.name : Te → ByteArray | .node _ _ s _ => s
def Te.parts : Te → List Te | .node _ _ _ l => l

mutual
def depthE : Te → Nat
  | .node _ _ _ l => depthEL l + 1
def depthEL : List Te → Nat
  | [] => 0
  | t :: r => max (depthE t) (depthEL r)
end
mutual
def sizeE : Te → Nat
  | .node _ _ _ l => sizeEL l + 1
def sizeEL : List Te → Nat
  | [] => 0
  | t :: r => sizeE t + sizeEL r
end
mutual
/-- How many of so many parts are left; -1: there are more, or they lie deeper. -/
def fewE : Te → Int → Int → Int
  | .node _ _ _ l, left, deep => if left < 1 ∨ deep < 1 then -1 else fewEL l (left - 1) (deep - 1)
def fewEL : List Te → Int → Int → Int
  | [], left, _ => left
  | t :: r, left, deep => if fewE t left deep < 0 then -1 else fewEL r (fewE t left deep) deep
end
mutual
/-- All is the same. -/
def sameE : Te → Te → Bool
  | .node k n s l, .node k' n' s' l' => decide (k = k') && (decide (n = n') && (decide (s = s') && sameEL l l'))
def sameEL : List Te → List Te → Bool
  | [], [] => true
  | t :: r, t' :: r' => sameE t t' && sameEL r r'
  | _, _ => false
end

/-- Which part of a term may be of which kind: alternatives in a case alone, behind its first part. -/
def standsE (k : Int) (i : Nat) (p : Int) : Bool := decide (k = 5 ∧ 0 < i) == decide (p = 6)
/-- How many variables more the parts have. -/
def moreE (k n : Int) : Int := if k = 2 then 1 else if k = 6 then n else 0
/-- Kind, N, Name and the number of parts, of so many free variables and so many bound. -/
def headE (k n : Int) (s : List UInt8) (m : Nat) (free bound : Int) : Bool :=
  if k = 1 then s == [] && (decide (0 ≤ n) && (decide (n - bound < free) && decide (m = 0)))
  else if k = 2 then s == [] && (decide (n = 0) && decide (m = 1))
  else if k = 3 then s == [] && (decide (n = 0) && decide (m = 2))
  else if k = 4 then conV s && (decide (n = 0) && decide (m ≤ 8))
  else if k = 5 then s == [] && (decide (n = 0) && (decide (2 ≤ m) && decide (m ≤ 9)))
  else if k = 6 then conV s && (decide (0 ≤ n) && (decide (n ≤ 8) && decide (m = 1)))
  else if k = 7 then s == [] && decide (m = 0)
  else if k = 8 then opV s && (decide (n = 0) && decide (m = 2))
  else if k = 9 then s == [] && (decide (n = 0) && decide (m = 0))
  else false
/-- No two of these have one name, nor one that was met. -/
def unlikeF : List Te → List Te → Bool
  | _, [] => true
  | met, t :: r => !(met.any fun u => decide (t.name = u.name)) && unlikeF (met ++ [t]) r
def unlikeE (l : List Te) : Bool := unlikeF [] l
mutual
def mayE : Te → Int → Int → Bool
  | .node k n s l, free, bound => headE k n s.data.toList l.length free bound && (mayEL k 0 l free (bound + moreE k n) && (!(decide (k = 5)) || unlikeE (l.drop 1)))
def mayEL (k : Int) : Nat → List Te → Int → Int → Bool
  | _, [], _, _ => true
  | i, t :: r, free, bound => standsE k i t.kind && (mayE t free bound && mayEL k (i + 1) r free bound)
end
/-- May a term be, as a whole one, of so many free variables? -/
def mayV6 (t : Te) (free : Int) : Bool := decide (0 ≤ free) && (decide (t.kind ≠ 6) && mayE t free 0)

theorem depthEL_snoc (l : List Te) (t : Te) : depthEL (l ++ [t]) = max (depthEL l) (depthE t) := by
  induction l with
  | nil => simp [depthEL]
  | cons a r ih => simp only [List.cons_append, depthEL, ih]; omega
theorem sizeEL_snoc (l : List Te) (t : Te) : sizeEL (l ++ [t]) = sizeEL l + sizeE t := by
  induction l with
  | nil => simp [sizeEL]
  | cons a r ih => simp only [List.cons_append, sizeEL, ih]; omega
theorem depthE_pos (t : Te) : 0 < depthE t := by cases t; simp [depthE]
theorem sizeE_pos (t : Te) : 0 < sizeE t := by cases t; simp [sizeE]
theorem depthEL_mem : ∀ (l : List Te) (t : Te), t ∈ l → depthE t ≤ depthEL l
  | [], t, h => by simp at h
  | a :: r, t, h => by
    rw [depthEL]
    rcases List.mem_cons.1 h with rfl | h
    · omega
    · have := depthEL_mem r t h; omega
theorem sizeEL_mem : ∀ (l : List Te) (t : Te), t ∈ l → sizeE t ≤ sizeEL l
  | [], t, h => by simp at h
  | a :: r, t, h => by
    rw [sizeEL]
    rcases List.mem_cons.1 h with rfl | h
    · omega
    · have := sizeEL_mem r t h; omega
theorem sizeEL_len : ∀ l : List Te, l.length ≤ sizeEL l
  | [] => by simp [sizeEL]
  | a :: r => by
    have := sizeEL_len r
    have := sizeE_pos a
    simp only [List.length_cons, sizeEL]; omega
mutual
theorem depthE_le_size : ∀ t : Te, depthE t ≤ sizeE t
  | .node _ _ _ l => by rw [depthE, sizeE]; have := depthEL_le_size l; omega
theorem depthEL_le_size : ∀ l : List Te, depthEL l ≤ sizeEL l
  | [] => by simp [depthEL]
  | t :: r => by rw [depthEL, sizeEL]; have := depthE_le_size t; have := depthEL_le_size r; omega
end
theorem depthEL_take (l : List Te) (i : Nat) : depthEL (l.take i) ≤ depthEL l := by
  induction l generalizing i with
  | nil => simp
  | cons a r ih =>
    cases i with
    | zero => simp [depthEL]
    | succ i => simp only [List.take_succ_cons, depthEL]; have := ih i; omega
theorem sizeEL_take (l : List Te) (i : Nat) : sizeEL (l.take i) ≤ sizeEL l := by
  induction l generalizing i with
  | nil => simp
  | cons a r ih =>
    cases i with
    | zero => simp [sizeEL]
    | succ i => simp only [List.take_succ_cons, sizeEL]; have := ih i; omega
theorem sameEL_len : ∀ l l' : List Te, sameEL l l' = true → l.length = l'.length
  | [], [], _ => rfl
  | [], _ :: _, h => by simp [sameEL] at h
  | _ :: _, [], h => by simp [sameEL] at h
  | a :: r, a' :: r', h => by
    rw [sameEL, Bool.and_eq_true] at h
    simp [sameEL_len r r' h.2]
mutual
theorem fewE_size : ∀ (t : Te) (a d : Int), 0 ≤ fewE t a d → (sizeE t : Int) + fewE t a d = a ∧ (depthE t : Int) ≤ d
  | .node _ _ _ l, a, d, h => by
    rw [fewE] at h ⊢
    split at h
    · omega
    · rename_i h1
      rw [if_neg h1]
      have h2 := fewE_sizeL l (a - 1) (d - 1) h
      rw [sizeE, depthE]
      rcases h2.2 with h4 | rfl
      · omega
      · simp only [depthEL, sizeEL] at h2 ⊢
        omega
theorem fewE_sizeL : ∀ (l : List Te) (a d : Int), 0 ≤ fewEL l a d → (sizeEL l : Int) + fewEL l a d = a ∧ ((depthEL l : Int) ≤ d ∨ l = [])
  | [], a, d, h => by simp [fewEL, sizeEL]
  | t :: r, a, d, h => by
    rw [fewEL] at h ⊢
    split at h
    · omega
    · rename_i h1
      rw [if_neg h1]
      have h2 := fewE_size t a d (by omega)
      have h3 := fewE_sizeL r (fewE t a d) d h
      rw [sizeEL, depthEL]
      refine ⟨by omega, .inl ?_⟩
      rcases h3.2 with h4 | rfl
      · omega
      · simp [depthEL]; omega
end
mutual
/-- What is the same is one. -/
theorem sameE_eq : ∀ t u : Te, sameE t u = true → t = u
  | .node k n s l, .node k' n' s' l', h => by
    rw [sameE] at h
    simp only [Bool.and_eq_true, decide_eq_true_eq] at h
    obtain ⟨rfl, rfl, rfl, hl⟩ := h
    rw [sameEL_eq l l' hl]
theorem sameEL_eq : ∀ l m : List Te, sameEL l m = true → l = m
  | [], [], _ => rfl
  | [], _ :: _, h => by simp [sameEL] at h
  | _ :: _, [], h => by simp [sameEL] at h
  | t :: r, u :: q, h => by
    rw [sameEL, Bool.and_eq_true] at h
    rw [sameE_eq t u h.1, sameEL_eq r q h.2]
end
mutual
theorem sameE_refl : ∀ t : Te, sameE t t = true
  | .node k n s l => by rw [sameE]; simp [sameEL_refl l]
theorem sameEL_refl : ∀ l : List Te, sameEL l l = true
  | [] => by rw [sameEL]
  | t :: r => by rw [sameEL, sameE_refl t, sameEL_refl r]; rfl
end
theorem sameE_iff (t u : Te) : sameE t u = true ↔ t = u := ⟨sameE_eq t u, fun h => h ▸ sameE_refl t⟩
theorem sameE_comm (t u : Te) : sameE t u = sameE u t := by
  rw [Bool.eq_iff_iff, sameE_iff, sameE_iff]; exact eq_comm
end Lx
end Go.Proofs.Ytcgiloccmehbeaa
namespace Go.Proofs.Ytcgiloccmehbeaa
open Go.RowKit
namespace Lx
set_option maxRecDepth 100000
mutual
/-- The parts of a term lie from A on, in blocks of which X holds. -/
def EIn (w : World) (X : Nat → Prop) : Te → Option Addr → Prop
  | .node _ n s l, A => (s.size ≤ 140737488351232 ∧ -9223372036854775808 ≤ n ∧ n ≤ 9223372036854775807) ∧ l.length ≤ 140737488351232 ∧ ELIn w X l A 0
def ELIn (w : World) (X : Nat → Prop) : List Te → Option Addr → Nat → Prop
  | [], _, _ => True
  | t :: r, A, i => (∃ g o A' c, (A = some ⟨g, o, none⟩ ∧ X g) ∧ w.cell? ⟨g, o + i * 4, none⟩ = some (.int .i64 t.kind) ∧ w.cell? ⟨g, o + i * 4 + 1, none⟩ = some (.int .i64 t.n) ∧
      w.cell? ⟨g, o + i * 4 + 2, none⟩ = some (.string t.name) ∧
      w.cell? ⟨g, o + i * 4 + 3, none⟩ = some (.slice A' t.parts.length (capF t.parts.length c)) ∧ EIn w X t A') ∧ ELIn w X r A (i + 1)
end
/-- A term as a value. -/
def ev (t : Te) (A : Option Addr) (c : Nat) : Value := .agg #[.int .i64 t.kind, .int .i64 t.n, .string t.name, .slice A t.parts.length (capF t.parts.length c)]

mutual
theorem EIn.keep : ∀ (t : Te) {w w' : World} {X Y : Nat → Prop} {A : Option Addr}, EIn w X t A → (∀ g j, X g → g < w.heap.size → w'.cell? ⟨g, j, none⟩ = w.cell? ⟨g, j, none⟩ ∧ Y g) → EIn w' Y t A
  | .node k n s l, w, w', X, Y, A, h, hk => by
    rw [EIn] at h ⊢
    exact ⟨h.1, h.2.1, ELIn.keep l h.2.2 hk⟩
theorem ELIn.keep : ∀ (l : List Te) {w w' : World} {X Y : Nat → Prop} {A : Option Addr} {i : Nat}, ELIn w X l A i → (∀ g j, X g → g < w.heap.size → w'.cell? ⟨g, j, none⟩ = w.cell? ⟨g, j, none⟩ ∧ Y g) → ELIn w' Y l A i
  | [], w, w', X, Y, A, i, _, _ => by rw [ELIn]; trivial
  | t :: r, w, w', X, Y, A, i, h, hk => by
    rw [ELIn] at h ⊢
    obtain ⟨⟨g, o, A', c, ⟨e, hX⟩, h0, h1, h2, h3, ht⟩, hr⟩ := h
    have hlt := cell_lt h0
    have hc : ∀ j, w'.cell? ⟨g, j, none⟩ = w.cell? ⟨g, j, none⟩ := fun j => (hk g j hX hlt).1
    exact ⟨⟨g, o, A', c, ⟨e, (hk g 0 hX hlt).2⟩, by rw [hc]; exact h0, by rw [hc]; exact h1, by rw [hc]; exact h2, by rw [hc]; exact h3, EIn.keep t ht hk⟩, ELIn.keep r hr hk⟩
end
theorem EIn.below (t : Te) {w w' : World} {X : Nat → Prop} {A : Option Addr} {B : Nat} (h : EIn w X t A) (hb : Below B w w') (hB : w.heap.size ≤ B) : EIn w' X t A :=
  EIn.keep t h fun g j hX hlt => ⟨hb.cell (p := ⟨g, j, none⟩) (by show g < B; omega), hX⟩
theorem EIn.wide (t : Te) {w : World} {X Y : Nat → Prop} {A : Option Addr} (h : EIn w X t A) (hXY : ∀ g, X g → g < w.heap.size → Y g) : EIn w Y t A :=
  EIn.keep t h fun g _ hX hlt => ⟨rfl, hXY g hX hlt⟩
theorem EIn.any (t : Te) {w : World} {X : Nat → Prop} {A : Option Addr} (h : EIn w X t A) : EIn w Any t A := EIn.wide t h fun _ _ _ => trivial
theorem EIn.setCell (t : Te) {w : World} {X : Nat → Prop} {A : Option Addr} (h : EIn w X t A) (p : Addr) (u : Value) (hp : ¬ X p.block) : EIn (w.setCell p u) X t A :=
  EIn.keep t h fun g j hX _ => ⟨World.cell?_setCell_other w p ⟨g, j, none⟩ u (fun e => by subst e; exact hp hX), hX⟩
theorem EIn.grown (t : Te) {w w' : World} {X : Nat → Prop} {A : Option Addr} {row : Option Nat} (h : EIn w X t A) (hg : w.grownBy w' row) (hp : ∀ g, row = some g → ¬ X g) : EIn w' X t A :=
  EIn.keep t h fun g _ hX hlt => ⟨World.cell?_of_block (hg.block g hlt (fun e => hp g e.symm hX)), hX⟩

theorem ELIn.at_ : ∀ (l : List Te) {w : World} {X : Nat → Prop} {A : Option Addr} {j : Nat}, ELIn w X l A j → ∀ (i : Nat) (hi : i < l.length),
    ∃ g o A' c, (A = some ⟨g, o, none⟩ ∧ X g) ∧ w.cell? ⟨g, o + (j + i) * 4, none⟩ = some (.int .i64 (l[i]'hi).kind) ∧ w.cell? ⟨g, o + (j + i) * 4 + 1, none⟩ = some (.int .i64 (l[i]'hi).n) ∧
      w.cell? ⟨g, o + (j + i) * 4 + 2, none⟩ = some (.string (l[i]'hi).name) ∧
      w.cell? ⟨g, o + (j + i) * 4 + 3, none⟩ = some (.slice A' (l[i]'hi).parts.length (capF (l[i]'hi).parts.length c)) ∧ EIn w X (l[i]'hi) A'
  | [], w, X, A, j, _, i, hi => by simp at hi
  | t :: r, w, X, A, j, h, 0, hi => by
    rw [ELIn] at h
    simpa using h.1
  | t :: r, w, X, A, j, h, i + 1, hi => by
    rw [ELIn] at h
    have := ELIn.at_ r h.2 i (by simpa using hi)
    rw [show j + 1 + i = j + (i + 1) from by omega] at this
    simpa using this
theorem ELIn.mk : ∀ (l : List Te) {w : World} {X : Nat → Prop} {A : Option Addr} (j : Nat), (∀ (i : Nat) (hi : i < l.length),
    ∃ g o A' c, (A = some ⟨g, o, none⟩ ∧ X g) ∧ w.cell? ⟨g, o + (j + i) * 4, none⟩ = some (.int .i64 (l[i]'hi).kind) ∧ w.cell? ⟨g, o + (j + i) * 4 + 1, none⟩ = some (.int .i64 (l[i]'hi).n) ∧
      w.cell? ⟨g, o + (j + i) * 4 + 2, none⟩ = some (.string (l[i]'hi).name) ∧
      w.cell? ⟨g, o + (j + i) * 4 + 3, none⟩ = some (.slice A' (l[i]'hi).parts.length (capF (l[i]'hi).parts.length c)) ∧ EIn w X (l[i]'hi) A') → ELIn w X l A j
  | [], w, X, A, j, _ => by rw [ELIn]; trivial
  | t :: r, w, X, A, j, h => by
    rw [ELIn]
    refine ⟨(by have := h 0 (by simp); rw [Nat.add_zero] at this; exact this), ELIn.mk r (j + 1) fun i hi => ?_⟩
    have := h (i + 1) (by simpa using hi)
    rw [show j + 1 + i = j + (i + 1) from by omega]
    simpa using this
/-- The four cells of part i, and its own parts. -/
theorem EIn.part {t : Te} {w : World} {X : Nat → Prop} {A : Option Addr} (h : EIn w X t A) (i : Nat) (hi : i < t.parts.length) :
    ∃ g o A' c, (A = some ⟨g, o, none⟩ ∧ X g) ∧ w.cell? ⟨g, o + i * 4, none⟩ = some (.int .i64 (t.parts[i]'hi).kind) ∧ w.cell? ⟨g, o + i * 4 + 1, none⟩ = some (.int .i64 (t.parts[i]'hi).n) ∧
      w.cell? ⟨g, o + i * 4 + 2, none⟩ = some (.string (t.parts[i]'hi).name) ∧
      w.cell? ⟨g, o + i * 4 + 3, none⟩ = some (.slice A' (t.parts[i]'hi).parts.length (capF (t.parts[i]'hi).parts.length c)) ∧ EIn w X (t.parts[i]'hi) A' := by
  obtain ⟨k, n, s, l⟩ := t
  rw [EIn] at h
  have := ELIn.at_ l h.2.2 i hi
  rw [Nat.zero_add] at this
  exact this
end Lx
end Go.Proofs.Ytcgiloccmehbeaa
namespace Go.Proofs.Ytcgiloccmehbeaa
open Go.RowKit
namespace Lx
set_option maxRecDepth 100000
theorem infoE : (Try.prog.info? 24).map (fun i => (i.zero, i.size, i.bytes)) = some (some (.agg #[.int .i64 0, .int .i64 0, .string ⟨#[]⟩, .slice none 0 0]), 4, 56) := by kernel_rfl
/-- The four cells of a tree. -/
def cellsE (t : Te) (A : Option Addr) (c : Nat) : List Value := [.int .i64 t.kind, .int .i64 t.n, .string t.name, .slice A t.parts.length (capF t.parts.length c)]
theorem cellsE_length (t : Te) (A : Option Addr) (c : Nat) : (cellsE t A c).length = 4 := rfl
/-- The cells xs read as the trees of l. -/
def RowTe (w : World) (X : Nat → Prop) (l : List Te) (xs : List Value) : Prop :=
  xs.length = l.length * 4 ∧ ∀ (j : Nat) (hj : j < l.length), ∃ A c, (∀ q, q < 4 → xs[j * 4 + q]? = (cellsE (l[j]'hj) A c)[q]?) ∧ EIn w X (l[j]'hj) A
theorem RowTe.nil (w : World) (X : Nat → Prop) : RowTe w X [] [] := ⟨rfl, fun j hj => by simp at hj⟩
theorem RowTe.keep {w w' : World} {X Y : Nat → Prop} {l : List Te} {xs : List Value} (h : RowTe w X l xs) (hk : ∀ g j, X g → g < w.heap.size → w'.cell? ⟨g, j, none⟩ = w.cell? ⟨g, j, none⟩ ∧ Y g) : RowTe w' Y l xs :=
  ⟨h.1, fun j hj => by
    obtain ⟨A, c, hc, ht⟩ := h.2 j hj
    exact ⟨A, c, hc, EIn.keep _ ht hk⟩⟩
theorem RowTe.below {w w' : World} {X : Nat → Prop} {l : List Te} {xs : List Value} {B : Nat} (h : RowTe w X l xs) (hb : Below B w w') (hB : w.heap.size ≤ B) : RowTe w' X l xs :=
  h.keep fun g j hX hlt => ⟨hb.cell (p := ⟨g, j, none⟩) (by show g < B; omega), hX⟩
theorem RowTe.wide {w : World} {X Y : Nat → Prop} {l : List Te} {xs : List Value} (h : RowTe w X l xs) (hXY : ∀ g, X g → g < w.heap.size → Y g) : RowTe w Y l xs :=
  h.keep fun g _ hX hlt => ⟨rfl, hXY g hX hlt⟩
theorem RowTe.setCell {w : World} {X : Nat → Prop} {l : List Te} {xs : List Value} (h : RowTe w X l xs) (p : Addr) (u : Value) (hp : ¬ X p.block) : RowTe (w.setCell p u) X l xs :=
  h.keep fun g j hX _ => ⟨World.cell?_setCell_other w p ⟨g, j, none⟩ u (fun e => by subst e; exact hp hX), hX⟩
theorem RowTe.grown {w w' : World} {X : Nat → Prop} {l : List Te} {xs : List Value} {row : Option Nat} (h : RowTe w X l xs) (hg : w.grownBy w' row) (hp : ∀ g, row = some g → ¬ X g) : RowTe w' X l xs :=
  h.keep fun g _ hX hlt => ⟨World.cell?_of_block (hg.block g hlt (fun e => hp g e.symm hX)), hX⟩
theorem RowTe.snoc {w : World} {X : Nat → Prop} {l : List Te} {xs : List Value} (h : RowTe w X l xs) {t : Te} {A : Option Addr} {c : Nat} (ht : EIn w X t A) : RowTe w X (l ++ [t]) (xs ++ cellsE t A c) := by
  refine ⟨by simp [h.1, cellsE_length]; omega, fun j hj => ?_⟩
  rcases Nat.lt_or_ge j l.length with hlt | hge
  · obtain ⟨A', c', hc, ht'⟩ := h.2 j hlt
    rw [List.getElem_append_left hlt]
    refine ⟨A', c', fun q hq => ?_, ht'⟩
    rw [List.getElem?_append_left (by rw [h.1]; omega)]
    exact hc q hq
  · have hj' : j = l.length := by simp at hj; omega
    subst hj'
    rw [List.getElem_append_right (Nat.le_refl _)]
    simp only [Nat.sub_self, List.getElem_singleton]
    refine ⟨A, c, fun q hq => ?_, ht⟩
    rw [List.getElem?_append_right (by rw [h.1]; omega), h.1]
    congr 1
    omega
/-- Trees in a row of the call's own are parts. -/
theorem RowTe.parts {w : World} {X Y : Nat → Prop} {l : List Te} {xs : List Value} {g o : Nat} (h : RowTe w X l xs) (hg : Y g) (hXY : ∀ b, X b → b < w.heap.size → Y b)
    (hc : ∀ j u, xs[j]? = some u → w.cell? ⟨g, o + j, none⟩ = some u) : ELIn w Y l (some ⟨g, o, none⟩) 0 := by
  refine ELIn.mk l 0 fun i hi => ?_
  obtain ⟨A, c, hx, ht⟩ := h.2 i hi
  rw [Nat.zero_add]
  refine ⟨g, o, A, c, ⟨rfl, hg⟩, hc (i * 4) _ ((hx 0 (by omega)).trans rfl), ?_, ?_, ?_, EIn.wide _ ht hXY⟩
  · have := hc (i * 4 + 1) _ ((hx 1 (by omega)).trans rfl); simpa [Nat.add_assoc] using this
  · have := hc (i * 4 + 2) _ ((hx 2 (by omega)).trans rfl); simpa [Nat.add_assoc] using this
  · have := hc (i * 4 + 3) _ ((hx 3 (by omega)).trans rfl); simpa [Nat.add_assoc] using this
/-- A row that the call owns. -/
theorem RowTe.owned {w : World} {X Y : Nat → Prop} {l : List Te} {xs : List Value} {base n c : Nat} {A : Option Addr} (h : RowTe w X l xs) (ho : w.ownsRow base 24 4 (.slice A n c) n xs) (hX : ∀ g, base ≤ g → Y g) (hXY : ∀ b, X b → b < w.heap.size → Y b) :
    ELIn w Y l A 0 := by
  by_cases hl : l = []
  · subst hl; rw [ELIn]; trivial
  · have hn : 0 < n := by
      have h1 := ho.1
      have h2 := h.1
      have := List.length_pos_iff.2 hl
      omega
    obtain ⟨g, cap, hv⟩ := Joins.ownsRow_form ho hn
    have hA : A = some ⟨g, 0, none⟩ := by injection hv
    subst hA
    refine h.parts (hX g ?_) hXY fun j u hu => ?_
    · rcases ho.2 with ⟨e, _⟩ | ⟨g', _, _, e, hb, _⟩
      · cases e
      · injection e with e; injection e with e; injection e with e; subst e; exact hb
    · have h1 := ho.cells (g := g) rfl j u hu
      have hadd : (⟨g, 0, none⟩ : Addr).add j = ⟨g, 0 + j, none⟩ := by unfold Addr.add; split <;> simp_all
      rw [hadd] at h1
      exact h1
theorem res_term {fn : Func} {p : Tmp} (h : fn.results = #[.cell p 24]) {tmps : Array Value} {g : Nat} {a b c d : Value} {w : World} (hp : tmps.getD p undef = .pointer (some ⟨g, 0, none⟩)) (L : Lies w g 24 #[a, b, c, d]) :
    (results fn tmps).run Try.prog w = .ok (.agg #[a, b, c, d]) w := by
  have hl := run_loadVar_row (P := Try.prog) w g 24 24 #[a, b, c, d] (0, 0) _ L Try.underlying24 rfl (by kernel_rfl)
  have hp' : tmps[p]?.getD undef = .pointer (some ⟨g, 0, none⟩) := by simpa using hp
  simp only [results, h]
  simp [hp', asAddr, hl]
end Lx
end Go.Proofs.Ytcgiloccmehbeaa
namespace Go.Proofs.Ytcgiloccmehbeaa
open Go.RowKit
namespace Lx
set_option maxRecDepth 100000
theorem ebelow_al {w wr w2 : World} {o : Obj} (hbw : Below w.heap.size w wr) (hb2 : Below (wr.alloc o).heap.size (wr.alloc o) w2) : Below w.heap.size w w2 :=
  (hbw.alloc hbw.size _).trans (hb2.mono (by have := hbw.size; simp; omega))
set_option maxHeartbeats 1000000 in
theorem efew_stop (k n L D : Int) (s : ByteArray) (A : Option Addr) (m c : Nat) (w : World) (h : L < 1 ∨ D < 1) :
    Calls Try.prog 26 #[.agg #[.int .i64 k, .int .i64 n, .string s, .slice A m c], .int .i64 L, .int .i64 D] w fun e w' => e = .returned (.int .i64 (-1)) ∧ Below w.heap.size w w' := by
  have hb : Below w.heap.size w (w.alloc (.cells #[.int .i64 k, .int .i64 n, .string s, .slice A m c] 24)) := (Below.refl _ w).alloc (Nat.le_refl _) _
  by_cases h1 : L < 1
  · clear h
    go_enter Try.func26, Try.ntmps26
    go_wp2_with fail
    go_ret
    exact ⟨rfl, hb⟩
  · have h2 : D < 1 := h.resolve_left h1
    clear h
    go_enter Try.func26, Try.ntmps26
    go_wp2_with fail
    go_ret
    exact ⟨rfl, hb⟩

set_option maxHeartbeats 1000000 in
theorem efew_any (d : Nat) : ∀ (t : Te) (A : Option Addr) (c : Nat) (L D : Int) (w : World), depthE t ≤ d → EIn w Any t A → -1000 ≤ L → L ≤ 100000 → -1000 ≤ D → D ≤ 1000 →
    Calls Try.prog 26 #[ev t A c, .int .i64 L, .int .i64 D] w fun e w' => e = .returned (.int .i64 (fewE t L D)) ∧ Below w.heap.size w w' := by
  induction d with
  | zero => intro t A c _ _ w h; have := depthE_pos t; omega
  | succ d ih =>
    intro t A c L D w hd hI hL1 hL2 hD1 hD2
    obtain ⟨k, n, s, l⟩ := t
    have hdL : depthEL l ≤ d := by rw [depthE] at hd; omega
    have hlen : l.length ≤ 140737488351232 := by rw [EIn] at hI; exact hI.2.1
    have HI := Lib.hid hI
    clear hI hd
    show Calls Try.prog 26 #[.agg #[.int .i64 k, .int .i64 n, .string s, .slice A l.length (capF l.length c)], .int .i64 L, .int .i64 D] w _
    generalize capF l.length c = c
    by_cases hst : L < 1 ∨ D < 1
    · refine (efew_stop k n L D s A _ c w hst).mono ?_
      rintro e w' ⟨rfl, hb⟩
      exact ⟨ret_int (by rw [fewE, if_pos hst]), hb⟩
    · have hL3 : ¬ L < 1 := fun h => hst (.inl h)
      have hD3 : ¬ D < 1 := fun h => hst (.inr h)
      have HE : Hid (fewE (.node k n s l) L D = fewEL l (L - 1) (D - 1)) := by
        show _ = _
        rw [fewE, if_neg hst]
      clear hst
      obtain ⟨m, hm⟩ : ∃ m, m = l.length := ⟨_, rfl⟩
      rw [← hm] at hlen ⊢
      have hm1 : m ≤ l.length := by omega
      have hm2 : l.length ≤ m := by omega
      clear hm
      go_enter Try.func26, Try.ntmps26
      go_wp2_with fail
      go_loopw [1, 7] (fun v x wr => ∃ (i : Nat) (F : Int), i ≤ m ∧ x = .int .i64 i ∧ v = .int .i64 F ∧ 0 ≤ F ∧ F ≤ 100000 ∧ Hid (fewEL l (L - 1) (D - 1) = fewEL (l.drop i) F (D - 1)) ∧ Below (w.heap.size + 1) (w.alloc (.cells #[.int .i64 k, .int .i64 n, .string s, .slice A m c] 24)) wr) (fun _ x _ => m - (intOf x).toNat)
      case atStart => exact ⟨0, L - 1, by omega, rfl, rfl, by omega, by omega, by exact rfl, Below.refl _ _⟩
      case round =>
        obtain ⟨i, F, hi, rfl, rfl, hF1, hF2, HQ, hbx⟩ := hrel
        have hbw : Below w.heap.size w wr := below_ac (by simpa using hbx)
        have c4 := ((Lies.new w 24 #[.int .i64 k, .int .i64 n, .string s, .slice A m c]).below hbx (by omega)).cell 3
        have hbxs := hbx.size
        simp at c4 hbxs
        by_cases hlt : i < m
        · have hia : i < l.length := by omega
          obtain ⟨g, o, A', c', ⟨hA, _⟩, d0, d1, d2, d3, hIn⟩ := EIn.part (EIn.below _ HI.out hbw (Nat.le_refl _)) i hia
          subst hA
          have hm3 := depthEL_mem l (l[i]'hia) (List.getElem_mem hia)
          have HS : Hid (fewEL (l.drop i) F (D - 1) = if fewE (l[i]'hia) F (D - 1) < 0 then -1 else fewEL (l.drop (i + 1)) (fewE (l[i]'hia) F (D - 1)) (D - 1)) := by
            show _ = _
            rw [List.drop_eq_getElem_cons hia, fewEL]
          have hfs := fewE_size (l[i]'hia) F (D - 1)
          simp only [Te.parts] at d0 d1 d2 d3 hIn
          obtain ⟨tr, hu⟩ : ∃ tr, tr = l[i]'hia := ⟨_, rfl⟩
          rw [← hu] at d0 d1 d2 d3 hIn hm3 HS hfs
          clear hu
          obtain ⟨tk, tn, ts, tl⟩ := tr
          simp only [Te.kind, Te.n, Te.name] at d0 d1 d2 d3
          obtain ⟨G, hG⟩ : ∃ G, G = fewE (.node tk tn ts tl) F (D - 1) := ⟨_, rfl⟩
          rw [← hG] at HS hfs
          have hih := ih (.node tk tn ts tl) A' c' F (D - 1) wr (by omega) hIn (by omega) (by omega) (by omega) (by omega)
          rw [← hG] at hih
          have HG := Lib.hid hG
          have HIH := Lib.hid hih
          have HFS := Lib.hid hfs
          clear hG hih hfs
          by_cases hneg : G < 0
          · go_wp2_with fail
            refine HIH.out.mono ?_
            rintro e w2 ⟨rfl, hb2⟩
            go_wp2_with fail
            go_ret
            refine ⟨ret_int ?_, hbw.trans (hb2.mono (by omega))⟩
            rw [HE.out, HQ.out, HS.out, if_pos hneg]
          · go_wp2_with fail
            refine HIH.out.mono ?_
            rintro e w2 ⟨rfl, hb2⟩
            go_wp2_with fail
            go_roundw
            case rel =>
              have h1 := HFS.out (by omega)
              refine ⟨i + 1, G, by omega, by go_num, rfl, by omega, by omega, ?_, hbx.trans (hb2.mono (by omega))⟩
              show _ = _
              rw [HQ.out, HS.out, if_neg (by omega)]
            case measure => simp [intOf]; omega
        · go_wp2_with fail
          go_ret
          obtain rfl : i = m := by omega
          refine ⟨ret_int ?_, hbw⟩
          rw [HE.out, HQ.out, List.drop_eq_nil_of_le (by omega), fewEL]

theorem esmall_any (t : Te) (A : Option Addr) (c : Nat) (L : Int) (w : World) (hI : EIn w Any t A) (hL1 : 0 ≤ L) (hL2 : L ≤ 100000) :
    Calls Try.prog 9 #[ev t A c, .int .i64 L] w fun e w' => e = .returned (.bool (decide (0 ≤ fewE t L 600))) ∧ Below w.heap.size w w' := by
  obtain ⟨k, n, s, l⟩ := t
  have hF := efew_any (depthE (.node k n s l)) (.node k n s l) A c L 600 (w.alloc (.cells #[.int .i64 k, .int .i64 n, .string s, .slice A l.length (capF l.length c)] 24)) (Nat.le_refl _)
    (EIn.below _ hI ((Below.refl _ w).alloc (Nat.le_refl _) _) (Nat.le_refl _)) (by omega) hL2 (by omega) (by omega)
  have HF := Lib.hid hF
  clear hF hI
  show Calls Try.prog 9 #[.agg #[.int .i64 k, .int .i64 n, .string s, .slice A l.length (capF l.length c)], .int .i64 L] w _
  go_enter Try.func9, Try.ntmps9
  go_wp2_with fail
  refine HF.out.mono ?_
  rintro e w2 ⟨rfl, hb2⟩
  go_wp2_with fail
  go_ret
  exact ⟨rfl, below_ac hb2⟩
end Lx
end Go.Proofs.Ytcgiloccmehbeaa
