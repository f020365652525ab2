/-
  Trees in memory: the struct is a value, its parts lie where the slice says.
-/
import Derived.Test.YtnljlocogfacfaaDoorTr
import Derived.Test.YtnljlocogfacfaaDoorRows4
namespace Go.Proofs.YtnljlocogfacfaaDoor
open Go.RowKit
namespace Lx
set_option maxRecDepth 100000
/-- Whatever block. -/
def Any : Nat → Prop := fun _ => True
mutual
/-- The parts of a tree lie from A on, in blocks of which X holds. -/
def TIn (w : World) (X : Nat → Prop) : Tr → Option Addr → Prop
  | .node _ s _ _ l, A => s.size ≤ 140737488351232 ∧ l.length ≤ 140737488351232 ∧ LIn w X l A 0
def LIn (w : World) (X : Nat → Prop) : List Tr → Option Addr → Nat → Prop
  | [], _, _ => True
  | t :: r, A, i => (∃ g o A' c, (A = some ⟨g, o, none⟩ ∧ X g) ∧ w.cell? ⟨g, o + i * 5, none⟩ = some (.int .i64 t.kind) ∧ w.cell? ⟨g, o + i * 5 + 1, none⟩ = some (.string t.name) ∧
      w.cell? ⟨g, o + i * 5 + 2, none⟩ = some (.int .i64 t.n) ∧ w.cell? ⟨g, o + i * 5 + 3, none⟩ = some (.int .i64 t.place) ∧
      w.cell? ⟨g, o + i * 5 + 4, none⟩ = some (.slice A' t.parts.length c) ∧ TIn w X t A') ∧ LIn w X r A (i + 1)
end
/-- A tree as a value. -/
def tv (t : Tr) (A : Option Addr) (c : Nat) : Value := .agg #[.int .i64 t.kind, .string t.name, .int .i64 t.n, .int .i64 t.place, .slice A t.parts.length c]

mutual
theorem TIn.keep : ∀ (t : Tr) {w w' : World} {X Y : Nat → Prop} {A : Option Addr}, TIn w X t A → (∀ g j, X g → g < w.heap.size → w'.cell? ⟨g, j, none⟩ = w.cell? ⟨g, j, none⟩ ∧ Y g) → TIn w' Y t A
  | .node k s n a l, w, w', X, Y, A, h, hk => by
    rw [TIn] at h ⊢
    exact ⟨h.1, h.2.1, LIn.keep l h.2.2 hk⟩
theorem LIn.keep : ∀ (l : List Tr) {w w' : World} {X Y : Nat → Prop} {A : Option Addr} {i : Nat}, LIn w X l A i → (∀ g j, X g → g < w.heap.size → w'.cell? ⟨g, j, none⟩ = w.cell? ⟨g, j, none⟩ ∧ Y g) → LIn w' Y l A i
  | [], w, w', X, Y, A, i, _, _ => by rw [LIn]; trivial
  | t :: r, w, w', X, Y, A, i, h, hk => by
    rw [LIn] at h ⊢
    obtain ⟨⟨g, o, A', c, ⟨e, hX⟩, h0, h1, h2, h3, h4, ht⟩, hr⟩ := h
    have hlt := cell_lt h0
    have hc : ∀ j, w'.cell? ⟨g, j, none⟩ = w.cell? ⟨g, j, none⟩ := fun j => (hk g j hX hlt).1
    exact ⟨⟨g, o, A', c, ⟨e, (hk g 0 hX hlt).2⟩, by rw [hc]; exact h0, by rw [hc]; exact h1, by rw [hc]; exact h2, by rw [hc]; exact h3, by rw [hc]; exact h4, TIn.keep t ht hk⟩, LIn.keep r hr hk⟩
end
theorem TIn.below (t : Tr) {w w' : World} {X : Nat → Prop} {A : Option Addr} {B : Nat} (h : TIn w X t A) (hb : Below B w w') (hB : w.heap.size ≤ B) : TIn w' X t A :=
  TIn.keep t h fun g j hX hlt => ⟨hb.cell (p := ⟨g, j, none⟩) (by show g < B; omega), hX⟩
theorem TIn.wide (t : Tr) {w : World} {X Y : Nat → Prop} {A : Option Addr} (h : TIn w X t A) (hXY : ∀ g, X g → g < w.heap.size → Y g) : TIn w Y t A :=
  TIn.keep t h fun g _ hX hlt => ⟨rfl, hXY g hX hlt⟩
theorem TIn.any (t : Tr) {w : World} {X : Nat → Prop} {A : Option Addr} (h : TIn w X t A) : TIn w Any t A := TIn.wide t h fun _ _ _ => trivial
theorem TIn.setCell (t : Tr) {w : World} {X : Nat → Prop} {A : Option Addr} (h : TIn w X t A) (p : Addr) (u : Value) (hp : ¬ X p.block) : TIn (w.setCell p u) X t A :=
  TIn.keep t h fun g j hX _ => ⟨World.cell?_setCell_other w p ⟨g, j, none⟩ u (fun e => by subst e; exact hp hX), hX⟩
theorem TIn.grown (t : Tr) {w w' : World} {X : Nat → Prop} {A : Option Addr} {row : Option Nat} (h : TIn w X t A) (hg : w.grownBy w' row) (hp : ∀ g, row = some g → ¬ X g) : TIn w' X t A :=
  TIn.keep t h fun g _ hX hlt => ⟨World.cell?_of_block (hg.block g hlt (fun e => hp g e.symm hX)), hX⟩

theorem LIn.at_ : ∀ (l : List Tr) {w : World} {X : Nat → Prop} {A : Option Addr} {j : Nat}, LIn w X l A j → ∀ (i : Nat) (hi : i < l.length),
    ∃ g o A' c, (A = some ⟨g, o, none⟩ ∧ X g) ∧ w.cell? ⟨g, o + (j + i) * 5, none⟩ = some (.int .i64 (l[i]'hi).kind) ∧ w.cell? ⟨g, o + (j + i) * 5 + 1, none⟩ = some (.string (l[i]'hi).name) ∧
      w.cell? ⟨g, o + (j + i) * 5 + 2, none⟩ = some (.int .i64 (l[i]'hi).n) ∧ w.cell? ⟨g, o + (j + i) * 5 + 3, none⟩ = some (.int .i64 (l[i]'hi).place) ∧
      w.cell? ⟨g, o + (j + i) * 5 + 4, none⟩ = some (.slice A' (l[i]'hi).parts.length c) ∧ TIn w X (l[i]'hi) A'
  | [], w, X, A, j, _, i, hi => by simp at hi
  | t :: r, w, X, A, j, h, 0, hi => by
    rw [LIn] at h
    simpa using h.1
  | t :: r, w, X, A, j, h, i + 1, hi => by
    rw [LIn] at h
    have := LIn.at_ r h.2 i (by simpa using hi)
    rw [show j + 1 + i = j + (i + 1) from by omega] at this
    simpa using this
theorem LIn.mk : ∀ (l : List Tr) {w : World} {X : Nat → Prop} {A : Option Addr} (j : Nat), (∀ (i : Nat) (hi : i < l.length),
    ∃ g o A' c, (A = some ⟨g, o, none⟩ ∧ X g) ∧ w.cell? ⟨g, o + (j + i) * 5, none⟩ = some (.int .i64 (l[i]'hi).kind) ∧ w.cell? ⟨g, o + (j + i) * 5 + 1, none⟩ = some (.string (l[i]'hi).name) ∧
      w.cell? ⟨g, o + (j + i) * 5 + 2, none⟩ = some (.int .i64 (l[i]'hi).n) ∧ w.cell? ⟨g, o + (j + i) * 5 + 3, none⟩ = some (.int .i64 (l[i]'hi).place) ∧
      w.cell? ⟨g, o + (j + i) * 5 + 4, none⟩ = some (.slice A' (l[i]'hi).parts.length c) ∧ TIn w X (l[i]'hi) A') → LIn w X l A j
  | [], w, X, A, j, _ => by rw [LIn]; trivial
  | t :: r, w, X, A, j, h => by
    rw [LIn]
    refine ⟨(by have := h 0 (by simp); rw [Nat.add_zero] at this; exact this), LIn.mk r (j + 1) fun i hi => ?_⟩
    have := h (i + 1) (by simpa using hi)
    rw [show j + 1 + i = j + (i + 1) from by omega]
    simpa using this
/-- The five cells of part i, and its own parts. -/
theorem TIn.part {t : Tr} {w : World} {X : Nat → Prop} {A : Option Addr} (h : TIn w X t A) (i : Nat) (hi : i < t.parts.length) :
    ∃ g o A' c, (A = some ⟨g, o, none⟩ ∧ X g) ∧ w.cell? ⟨g, o + i * 5, none⟩ = some (.int .i64 (t.parts[i]'hi).kind) ∧ w.cell? ⟨g, o + i * 5 + 1, none⟩ = some (.string (t.parts[i]'hi).name) ∧
      w.cell? ⟨g, o + i * 5 + 2, none⟩ = some (.int .i64 (t.parts[i]'hi).n) ∧ w.cell? ⟨g, o + i * 5 + 3, none⟩ = some (.int .i64 (t.parts[i]'hi).place) ∧
      w.cell? ⟨g, o + i * 5 + 4, none⟩ = some (.slice A' (t.parts[i]'hi).parts.length c) ∧ TIn w X (t.parts[i]'hi) A' := by
  obtain ⟨k, s, n, a, l⟩ := t
  rw [TIn] at h
  have := LIn.at_ l h.2.2 i hi
  rw [Nat.zero_add] at this
  exact this
end Lx
end Go.Proofs.YtnljlocogfacfaaDoor
