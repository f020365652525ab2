/-
  Rows of trees that a call makes: five cells a tree.
-/
import Derived.Test.YtnljlocogfacfaaDoorTin
namespace Go.Proofs.YtnljlocogfacfaaDoor
open Go.RowKit
namespace Lx
set_option maxRecDepth 100000
theorem infoT : (Tryd.prog.info? 33).map (fun i => (i.zero, i.size, i.bytes)) = some (some (.agg #[.int .i64 0, .string ⟨#[]⟩, .int .i64 0, .int .i64 0, .slice none 0 0]), 5, 64) := by kernel_rfl
/-- The five cells of a tree. -/
def cellsT (t : Tr) (A : Option Addr) (c : Nat) : List Value := [.int .i64 t.kind, .string t.name, .int .i64 t.n, .int .i64 t.place, .slice A t.parts.length c]
theorem cellsT_length (t : Tr) (A : Option Addr) (c : Nat) : (cellsT t A c).length = 5 := rfl
/-- The cells xs read as the trees of l. -/
def RowTr (w : World) (X : Nat → Prop) (l : List Tr) (xs : List Value) : Prop :=
  xs.length = l.length * 5 ∧ ∀ (j : Nat) (hj : j < l.length), ∃ A c, (∀ q, q < 5 → xs[j * 5 + q]? = (cellsT (l[j]'hj) A c)[q]?) ∧ TIn w X (l[j]'hj) A
theorem RowTr.nil (w : World) (X : Nat → Prop) : RowTr w X [] [] := ⟨rfl, fun j hj => by simp at hj⟩
theorem RowTr.keep {w w' : World} {X Y : Nat → Prop} {l : List Tr} {xs : List Value} (h : RowTr w X l xs) (hk : ∀ g j, X g → g < w.heap.size → w'.cell? ⟨g, j, none⟩ = w.cell? ⟨g, j, none⟩ ∧ Y g) : RowTr w' Y l xs :=
  ⟨h.1, fun j hj => by
    obtain ⟨A, c, hc, ht⟩ := h.2 j hj
    exact ⟨A, c, hc, TIn.keep _ ht hk⟩⟩
theorem RowTr.below {w w' : World} {X : Nat → Prop} {l : List Tr} {xs : List Value} {B : Nat} (h : RowTr w X l xs) (hb : Below B w w') (hB : w.heap.size ≤ B) : RowTr w' X l xs :=
  h.keep fun g j hX hlt => ⟨hb.cell (p := ⟨g, j, none⟩) (by show g < B; omega), hX⟩
theorem RowTr.wide {w : World} {X Y : Nat → Prop} {l : List Tr} {xs : List Value} (h : RowTr w X l xs) (hXY : ∀ g, X g → g < w.heap.size → Y g) : RowTr w Y l xs :=
  h.keep fun g _ hX hlt => ⟨rfl, hXY g hX hlt⟩
theorem RowTr.setCell {w : World} {X : Nat → Prop} {l : List Tr} {xs : List Value} (h : RowTr w X l xs) (p : Addr) (u : Value) (hp : ¬ X p.block) : RowTr (w.setCell p u) X l xs :=
  h.keep fun g j hX _ => ⟨World.cell?_setCell_other w p ⟨g, j, none⟩ u (fun e => by subst e; exact hp hX), hX⟩
theorem RowTr.grown {w w' : World} {X : Nat → Prop} {l : List Tr} {xs : List Value} {row : Option Nat} (h : RowTr w X l xs) (hg : w.grownBy w' row) (hp : ∀ g, row = some g → ¬ X g) : RowTr w' X l xs :=
  h.keep fun g _ hX hlt => ⟨World.cell?_of_block (hg.block g hlt (fun e => hp g e.symm hX)), hX⟩
theorem RowTr.snoc {w : World} {X : Nat → Prop} {l : List Tr} {xs : List Value} (h : RowTr w X l xs) {t : Tr} {A : Option Addr} {c : Nat} (ht : TIn w X t A) : RowTr w X (l ++ [t]) (xs ++ cellsT t A c) := by
  refine ⟨by simp [h.1, cellsT_length]; omega, fun j hj => ?_⟩
  rcases Nat.lt_or_ge j l.length with hlt | hge
  · obtain ⟨A', c', hc, ht'⟩ := h.2 j hlt
    rw [List.getElem_append_left hlt]
    refine ⟨A', c', fun q hq => ?_, ht'⟩
    rw [List.getElem?_append_left (by rw [h.1]; omega)]
    exact hc q hq
  · have hj' : j = l.length := by simp at hj; omega
    subst hj'
    rw [List.getElem_append_right (Nat.le_refl _)]
    simp only [Nat.sub_self, List.getElem_singleton]
    refine ⟨A, c, fun q hq => ?_, ht⟩
    rw [List.getElem?_append_right (by rw [h.1]; omega), h.1]
    congr 1
    omega
/-- Trees in a row of the call's own are parts. -/
theorem RowTr.parts {w : World} {X Y : Nat → Prop} {l : List Tr} {xs : List Value} {g o : Nat} (h : RowTr w X l xs) (hg : Y g) (hXY : ∀ b, X b → b < w.heap.size → Y b)
    (hc : ∀ j u, xs[j]? = some u → w.cell? ⟨g, o + j, none⟩ = some u) : LIn w Y l (some ⟨g, o, none⟩) 0 := by
  refine LIn.mk l 0 fun i hi => ?_
  obtain ⟨A, c, hx, ht⟩ := h.2 i hi
  rw [Nat.zero_add]
  refine ⟨g, o, A, c, ⟨rfl, hg⟩, hc (i * 5) _ ((hx 0 (by omega)).trans rfl), ?_, ?_, ?_, ?_, TIn.wide _ ht hXY⟩
  · have := hc (i * 5 + 1) _ ((hx 1 (by omega)).trans rfl); simpa [Nat.add_assoc] using this
  · have := hc (i * 5 + 2) _ ((hx 2 (by omega)).trans rfl); simpa [Nat.add_assoc] using this
  · have := hc (i * 5 + 3) _ ((hx 3 (by omega)).trans rfl); simpa [Nat.add_assoc] using this
  · have := hc (i * 5 + 4) _ ((hx 4 (by omega)).trans rfl); simpa [Nat.add_assoc] using this
/-- A row that the call owns. -/
theorem RowTr.owned {w : World} {X Y : Nat → Prop} {l : List Tr} {xs : List Value} {base n c : Nat} {A : Option Addr} (h : RowTr w X l xs) (ho : w.ownsRow base 33 5 (.slice A n c) n xs) (hX : ∀ g, base ≤ g → Y g) (hXY : ∀ b, X b → b < w.heap.size → Y b) :
    LIn w Y l A 0 := by
  by_cases hl : l = []
  · subst hl; rw [LIn]; trivial
  · have hn : 0 < n := by
      have h1 := ho.1
      have h2 := h.1
      have := List.length_pos_iff.2 hl
      omega
    obtain ⟨g, cap, hv⟩ := Joins.ownsRow_form ho hn
    have hA : A = some ⟨g, 0, none⟩ := by injection hv
    subst hA
    refine h.parts (hX g ?_) hXY fun j u hu => ?_
    · rcases ho.2 with ⟨e, _⟩ | ⟨g', _, _, e, hb, _⟩
      · cases e
      · injection e with e; injection e with e; injection e with e; subst e; exact hb
    · have h1 := ho.cells (g := g) rfl j u hu
      have hadd : (⟨g, 0, none⟩ : Addr).add j = ⟨g, 0 + j, none⟩ := by unfold Addr.add; split <;> simp_all
      rw [hadd] at h1
      exact h1
theorem res_tree {fn : Func} {p : Tmp} (h : fn.results = #[.cell p 33]) {tmps : Array Value} {g : Nat} {a b c d e : Value} {w : World} (hp : tmps.getD p undef = .pointer (some ⟨g, 0, none⟩)) (L : Lies w g 33 #[a, b, c, d, e]) :
    (results fn tmps).run Tryd.prog w = .ok (.agg #[a, b, c, d, e]) w := by
  have hl := run_loadVar_row (P := Tryd.prog) w g 33 33 #[a, b, c, d, e] (0, 0) _ L Tryd.underlying33 rfl (by kernel_rfl)
  have hp' : tmps[p]?.getD undef = .pointer (some ⟨g, 0, none⟩) := by simpa using hp
  simp only [results, h]
  simp [hp', asAddr, hl]
theorem Lies.five {w : World} {g : Nat} {t : TypeId} {a b c d e : Value} (h : Lies w g t #[a, b, c, d, e]) :
    (w.cell? ⟨g, 0, none⟩ = some a ∧ w.cell? ⟨g, 1, none⟩ = some b ∧ w.cell? ⟨g, 2, none⟩ = some c ∧ w.cell? ⟨g, 3, none⟩ = some d ∧ w.cell? ⟨g, 4, none⟩ = some e) ∧
    w.frozen? ⟨g, 0, none⟩ = false ∧ w.frozen? ⟨g, 1, none⟩ = false ∧ w.frozen? ⟨g, 2, none⟩ = false ∧ w.frozen? ⟨g, 3, none⟩ = false ∧ w.frozen? ⟨g, 4, none⟩ = false :=
  ⟨⟨h.cell 0, h.cell 1, h.cell 2, h.cell 3, h.cell 4⟩, h.frozen 0, h.frozen 1, h.frozen 2, h.frozen 3, h.frozen 4⟩
theorem Lies.all5 {w : World} {g : Nat} {t : TypeId} {a b c d e : Value} (h : Lies w g t #[a, b, c, d, e]) (x y z u v : Value) : Lies (((((w.setCell ⟨g, 0, none⟩ x).setCell ⟨g, 1, none⟩ y).setCell ⟨g, 2, none⟩ z).setCell ⟨g, 3, none⟩ u).setCell ⟨g, 4, none⟩ v) g t #[x, y, z, u, v] := by
  simpa using ((((h.put 0 x).put 1 y).put 2 z).put 3 u).put 4 v
theorem Below.all5 {B : Nat} {a w : World} (h : Below B a w) {g : Nat} (hg : B ≤ g) (x y z u v : Value) : Below B a (((((w.setCell ⟨g, 0, none⟩ x).setCell ⟨g, 1, none⟩ y).setCell ⟨g, 2, none⟩ z).setCell ⟨g, 3, none⟩ u).setCell ⟨g, 4, none⟩ v) :=
  ((((h.setCell (p := ⟨g, 0, none⟩) hg x).setCell (p := ⟨g, 1, none⟩) hg y).setCell (p := ⟨g, 2, none⟩) hg z).setCell (p := ⟨g, 3, none⟩) hg u).setCell (p := ⟨g, 4, none⟩) hg v
end Lx
end Go.Proofs.YtnljlocogfacfaaDoor
