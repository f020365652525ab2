/-
  Texts that lie one behind the other: Words Nd Ni NlRo Shelf NlA NlN NlC Calm NlD NlE NlF NlG NlH NlI NlJ NlK.
-/
import Derived.Test.YtlamjjkcbadibaaProg
import Derived.Test.YtlamjjkcbadibaaRows
import Derived.WalkKit
import Derived.Below
import Derived.Laws.OwnMore
import Derived.Laws.Rows
import Derived.Deep.Draws
import Derived.Lib.Strings
import Derived.Lib.SmallJoins
import Derived.ProofKit
import Derived.OpenShut
import Derived.ChangeArms
import Derived.Carry
import Derived.WideKeyArgs
import Derived.LaidMore
import Derived.LaidSub
import Derived.Lib.LaidTab
import Derived.Stop.Joined
import Derived.Shelf.LaysM
import Derived.Shelf.Strconv.Clone
import Derived.Shelf.Strings.Prefix
import Derived.BigCall
import Derived.WalkLawsBesides
import Derived.Lib.Hide
import Derived.BigQuiet
import Derived.Deep.QuietTactic
import Derived.RegionTactic
import Derived.BigRegion
import Derived.Deep.Cut
import Derived.Deep.CutRange
import Derived.Deep.Light
import Derived.Laws.StructEq
namespace Go.Proofs.Ytlamjjkcbadibaa
open Go.RowKit
namespace Lx
set_option maxRecDepth 100000

/-- Block g holds just the cells cs, of element type t, and none of them is frozen. -/
def Lies (w : World) (g : Nat) (t : TypeId) (cs : Array Value) : Prop := w.heap[g]? = some (.cells cs t (0, 0))

section
variable {w w' : World} {g : Nat} {t : TypeId} {cs : Array Value}
theorem Lies.lt (h : Lies w g t cs) : g < w.heap.size := by
  by_cases hlt : g < w.heap.size
  · exact hlt
  · unfold Lies at h
    rw [Array.getElem?_eq_none (by omega)] at h
    cases h
theorem Lies.cell (h : Lies w g t cs) (i : Nat) : w.cell? ⟨g, i, none⟩ = cs[i]? := cell_of_row w g i cs t (0, 0) h
theorem Lies.frozen (h : Lies w g t cs) (i : Nat) : w.frozen? ⟨g, i, none⟩ = false := by
  unfold Lies at h
  simp [World.frozen?, h]
theorem Lies.new (w : World) (t : TypeId) (cs : Array Value) : Lies (w.alloc (.cells cs t)) w.heap.size t cs := by
  show (w.heap.push _)[w.heap.size]? = _
  simp
theorem Lies.old (h : Lies w g t cs) (o : Obj) : Lies (w.alloc o) g t cs := (Below.heap_alloc w o g h.lt).trans h
theorem Lies.drew (h : Lies w g t cs) : Lies w.drew g t cs := h
theorem Lies.drewN (h : Lies w g t cs) (n : Nat) : Lies (w.drewN n) g t cs := h
theorem Lies.below {B : Nat} (h : Lies w g t cs) (hb : Below B w w') (hg : g < B) : Lies w' g t cs := (hb.block g hg).trans h
theorem Lies.put (h : Lies w g t cs) (i : Nat) (u : Value) : Lies (w.setCell ⟨g, i, none⟩ u) g t (cs.setIfInBounds i u) := by
  unfold Lies at h ⊢
  simp [World.setCell, Array.getElem?_modify, h]
theorem Lies.far (h : Lies w g t cs) {p : Addr} (hp : g ≠ p.block) (u : Value) : Lies (w.setCell p u) g t cs := (Below.heap_setCell w p u g hp).trans h
theorem Lies.four {a b c d : Value} (h : Lies w g t #[a, b, c, d]) :
    (w.cell? ⟨g, 0, none⟩ = some a ∧ w.cell? ⟨g, 1, none⟩ = some b ∧ w.cell? ⟨g, 2, none⟩ = some c ∧ w.cell? ⟨g, 3, none⟩ = some d) ∧
    w.frozen? ⟨g, 0, none⟩ = false ∧ w.frozen? ⟨g, 1, none⟩ = false ∧ w.frozen? ⟨g, 2, none⟩ = false ∧ w.frozen? ⟨g, 3, none⟩ = false :=
  ⟨⟨h.cell 0, h.cell 1, h.cell 2, h.cell 3⟩, h.frozen 0, h.frozen 1, h.frozen 2, h.frozen 3⟩
end
end Lx
end Go.Proofs.Ytlamjjkcbadibaa
namespace Go.Proofs.Ytlamjjkcbadibaa
namespace Lx
set_option maxRecDepth 100000
structure Nd where
  kind : Int
  level : Int
  n : Int
  name : ByteArray
  alts : List (ByteArray × Int)
  «to» : List (Int × Int)
def Nd.zero : Nd := ⟨0, 0, 0, ⟨#[]⟩, [], []⟩
def ndAt (ns : List Nd) (i : Nat) : Nd := ns.getD i Nd.zero
theorem ndAt_lt {ns : List Nd} {i : Nat} (h : i < ns.length) : ndAt ns i = ns[i]'h := by simp [ndAt, h]
theorem ndAt_ge {ns : List Nd} {i : Nat} (h : ns.length ≤ i) : ndAt ns i = Nd.zero := by simp [ndAt, Nat.not_lt.2 h]
/-- How many ports a node has. -/
def portsN (k : Int) (alts tp : Nat) : Nat :=
  if k = 8 then tp else if k = 9 then 2 + alts else if k = 1 ∨ k = 7 ∨ k = 10 ∨ k = 13 then 1 else if k = 5 ∨ k = 6 ∨ k = 12 then 2 else if k = 2 ∨ k = 3 ∨ k = 4 ∨ k = 11 then 3 else 0
def Nd.ports (x : Nd) : Nat := portsN x.kind x.alts.length x.to.length
def altOne (a : ByteArray × Int) : Bool := !decide (a.1 = ⟨#[]⟩) && (decide (0 ≤ a.2) && decide (a.2 ≤ 8))
def twinIn (a : ByteArray) (pre : List (ByteArray × Int)) : Bool := pre.any fun b => decide (b.1 = a)
/-- The alternatives of l, behind those of pre. -/
def altsFrom : List (ByteArray × Int) → List (ByteArray × Int) → Bool
  | _, [] => true
  | pre, a :: r => (altOne a && !twinIn a.1 pre) && altsFrom (pre ++ [a]) r
def hasNameK (k : Int) : Bool := (k == 8 || k == 11) || k == 12
def hasNumK (k : Int) : Bool := k == 10 || k == 12
/-- May a node be, but for where it is linked to? -/
def nodeV (x : Nd) : Bool :=
  decide (0 ≤ x.kind ∧ x.kind ≤ 13 ∧ 0 ≤ x.level ∧ x.level ≤ 60 ∧ (x.kind < 2 → x.level ≤ 0)) && ((!decide (x.name = ⟨#[]⟩)) == hasNameK x.kind && (decide (x.n = 0 ∨ hasNumK x.kind = true) &&
    (decide ((x.kind = 8 → 1 ≤ x.to.length ∧ x.to.length ≤ 9) ∧ (x.kind = 9 → 1 ≤ x.alts.length) ∧ (x.kind ≠ 9 → x.alts.length = 0) ∧ x.alts.length ≤ 8) && altsFrom [] x.alts)))
def hasV (ns : List Nd) (p : Int × Int) : Bool := decide (0 ≤ p.1 ∧ p.1 < ns.length ∧ 0 ≤ p.2 ∧ p.2 < (ndAt ns p.1.toNat).to.length)
def toAt (ns : List Nd) (p : Int × Int) : Int × Int := (ndAt ns p.1.toNat).to.getD p.2.toNat (0, 0)
def portOk (ns : List Nd) (i k : Nat) : Bool :=
  let q := toAt ns (i, k)
  !(q == ((i : Int), (k : Int))) && (hasV ns q && toAt ns q == ((i : Int), (k : Int)))
def linkedV (ns : List Nd) (i : Nat) : Bool := decide (∀ k, k < (ndAt ns i).to.length → portOk ns i k = true)
def atOk (ns : List Nd) (i : Nat) : Bool :=
  nodeV (ndAt ns i) && (decide ((ndAt ns i).to.length = (ndAt ns i).ports) && (decide (i = 0) == decide ((ndAt ns i).kind = 1) && linkedV ns i))
def checkV (ns : List Nd) (cap : Int) : Bool :=
  decide (1 ≤ cap ∧ cap ≤ 4000 ∧ 1 ≤ ns.length ∧ (ns.length : Int) ≤ cap ∧ (ndAt ns (ns.length - 1)).kind ≠ 0 ∧ ∀ i, i < ns.length → atOk ns i = true)
/-- How many places are not free. -/
def usedV : List Nd → Nat
  | [] => 0
  | x :: r => (if x.kind = 0 then 0 else 1) + usedV r
theorem usedV_snoc (l : List Nd) (x : Nd) : usedV (l ++ [x]) = usedV l + (if x.kind = 0 then 0 else 1) := by
  induction l with
  | nil => simp [usedV]
  | cons a r ih => simp only [List.cons_append, usedV, ih]; omega
theorem usedV_le : ∀ l : List Nd, usedV l ≤ l.length
  | [] => Nat.le_refl _
  | x :: r => by
    have := usedV_le r
    simp only [usedV, List.length_cons]
    split <;> omega
theorem usedV_take (l : List Nd) (i : Nat) (h : i < l.length) : usedV (l.take (i + 1)) = usedV (l.take i) + (if (l[i]'h).kind = 0 then 0 else 1) := by
  rw [List.take_succ_eq_append_getElem h, usedV_snoc]
/-- x, its ports not linked yet. -/
def freshV (x : Nd) : Nd := { x with «to» := List.replicate x.ports (0, 0) }
/-- Where the first free place is. -/
def freeAt : List Nd → Option Nat
  | [] => none
  | x :: r => if x.kind = 0 then some 0 else (freeAt r).map (· + 1)
theorem freeAt_some : ∀ {l : List Nd} {i : Nat}, freeAt l = some i → i < l.length ∧ (ndAt l i).kind = 0 ∧ ∀ j, j < i → (ndAt l j).kind ≠ 0
  | [], i, h => by simp [freeAt] at h
  | x :: r, i, h => by
    rw [freeAt] at h
    split at h
    · cases h
      exact ⟨by simp, by simpa [ndAt], fun j hj => by omega⟩
    · rename_i hx
      rw [Option.map_eq_some_iff] at h
      obtain ⟨j, hj, rfl⟩ := h
      obtain ⟨h1, h2, h3⟩ := freeAt_some hj
      refine ⟨by simpa using h1, by simpa [ndAt] using h2, fun k hk => ?_⟩
      cases k with
      | zero => simpa [ndAt] using hx
      | succ k => simpa [ndAt] using h3 k (by omega)
theorem freeAt_none : ∀ {l : List Nd}, freeAt l = none → ∀ j, j < l.length → (ndAt l j).kind ≠ 0
  | [], _, j, hj => by simp at hj
  | x :: r, h, j, hj => by
    rw [freeAt] at h
    split at h
    · cases h
    · rename_i hx
      rw [Option.map_eq_none_iff] at h
      cases j with
      | zero => simpa [ndAt] using hx
      | succ j => simpa [ndAt] using freeAt_none h j (by simpa using hj)
theorem freeAt_is : ∀ {l : List Nd} {i : Nat}, i < l.length → (ndAt l i).kind = 0 → (∀ j, j < i → (ndAt l j).kind ≠ 0) → freeAt l = some i
  | [], i, h, _, _ => by simp at h
  | x :: r, 0, _, h0, _ => by rw [freeAt, if_pos (by simpa [ndAt] using h0)]
  | x :: r, i + 1, h, h0, hj => by
    have hx : x.kind ≠ 0 := by simpa [ndAt] using hj 0 (by omega)
    rw [freeAt, if_neg hx, freeAt_is (l := r) (i := i) (by simpa using h) (by simpa [ndAt] using h0) (fun j hj' => by simpa [ndAt] using hj (j + 1) (by omega))]
    rfl
theorem freeAt_no : ∀ {l : List Nd}, (∀ j, j < l.length → (ndAt l j).kind ≠ 0) → freeAt l = none
  | [], _ => rfl
  | x :: r, h => by
    have hx : x.kind ≠ 0 := by simpa [ndAt] using h 0 (by simp)
    rw [freeAt, if_neg hx, freeAt_no (l := r) fun j hj => by simpa [ndAt] using h (j + 1) (by simpa using hj)]
    rfl
def makeable (x : Nd) : Bool := decide (2 ≤ x.kind) && nodeV x
/-- What is made: nodes, where it is, an error. -/
def makeV (ns : List Nd) (cap : Int) (x : Nd) : List Nd × Int × Int :=
  if makeable x = true then if (usedV ns : Int) < cap then
    match freeAt ns with
    | some i => (ns.set i (freshV x), i, 0)
    | none => (ns ++ [freshV x], ns.length, 0)
  else (ns, 0, 121) else (ns, 0, 122)
/-- Without the free places at the end. -/
def trimV : List Nd → List Nd
  | [] => []
  | x :: r => match trimV r with
    | [] => if x.kind = 0 then [] else [x]
    | y :: s => x :: y :: s
theorem trimV_zero : ∀ (l : List Nd) (z : Nd), z.kind = 0 → trimV (l ++ [z]) = trimV l
  | [], z, h => by simp [trimV, h]
  | x :: r, z, h => by rw [List.cons_append, trimV, trimV_zero r z h, trimV]
theorem trimV_full : ∀ (l : List Nd) (z : Nd), z.kind ≠ 0 → trimV (l ++ [z]) = l ++ [z]
  | [], z, h => by simp [trimV, h]
  | x :: r, z, h => by
    rw [List.cons_append, trimV, trimV_full r z h]
    cases r <;> rfl
theorem trimV_last {l : List Nd} (h : l ≠ []) (hk : (ndAt l (l.length - 1)).kind ≠ 0) : trimV l = l := by
  have e := (List.dropLast_concat_getLast h).symm
  have hp := List.length_pos_iff.2 h
  have hz : l.getLast h = ndAt l (l.length - 1) := by rw [ndAt_lt (by omega), List.getLast_eq_getElem]
  rw [e]
  exact trimV_full _ _ (by rw [hz]; exact hk)
/-- What is left is a beginning. -/
theorem trimV_take : ∀ l : List Nd, trimV l = l.take (trimV l).length ∧ (trimV l).length ≤ l.length
  | [] => ⟨rfl, Nat.le_refl _⟩
  | x :: r => by
    obtain ⟨h1, h2⟩ := trimV_take r
    rw [trimV]
    cases hq : trimV r with
    | nil => simp only; split <;> simp
    | cons y s => rw [hq] at h1 h2; simp only [List.length_cons] at h1 h2 ⊢; refine ⟨?_, by omega⟩; rw [List.take_succ_cons, ← h1]
/-- Behind it all is free. -/
theorem trimV_rest : ∀ (l : List Nd) (j : Nat), (trimV l).length ≤ j → (ndAt l j).kind = 0
  | [], j, _ => rfl
  | x :: r, j, h => by
    rw [trimV] at h
    cases hq : trimV r with
    | nil =>
      rw [hq] at h
      simp only at h
      cases j with
      | zero =>
        split at h
        · rename_i hx; simpa [ndAt] using hx
        · simp at h
      | succ j => have := trimV_rest r j (by rw [hq]; simp); simpa [ndAt] using this
    | cons y s =>
      rw [hq] at h
      simp only [List.length_cons] at h
      cases j with
      | zero => omega
      | succ j => have := trimV_rest r j (by rw [hq]; simp; omega); simpa [ndAt] using this
/-- Its own last one is not. -/
theorem trimV_end : ∀ (l : List Nd), trimV l ≠ [] → (ndAt (trimV l) ((trimV l).length - 1)).kind ≠ 0
  | [], h => absurd rfl h
  | x :: r, h => by
    rw [trimV] at h ⊢
    cases hq : trimV r with
    | nil =>
      rw [hq] at h
      simp only at h ⊢
      split
      · rename_i hx; rw [if_pos hx] at h; exact absurd rfl h
      · rename_i hx; simpa [ndAt] using hx
    | cons y s =>
      have := trimV_end r (by rw [hq]; simp)
      rw [hq] at this
      simpa [ndAt] using this
def freeV (ns : List Nd) (at_ : Int) : List Nd × Int :=
  if 0 ≤ at_ ∧ at_ < ns.length ∧ (ndAt ns at_.toNat).kind ≠ 0 then (trimV (ns.set at_.toNat Nd.zero), 0) else (ns, 122)
def newV (most : Int) : List Nd × Int × Int :=
  if 2 ≤ most ∧ most ≤ 4000 then ([⟨1, 0, 0, ⟨#[]⟩, [], [(1, 0)]⟩, ⟨13, 0, 0, ⟨#[]⟩, [], [(0, 0)]⟩], most, 0) else ([], 0, 1)
def oneV (a b : Nd) : Bool := a.kind == b.kind && (a.level == b.level && (a.n == b.n && (decide (a.name = b.name) && (decide (a.alts = b.alts) && decide (a.to = b.to)))))
theorem oneV_iff (a b : Nd) : oneV a b = true ↔ a = b := by
  obtain ⟨k, l, n, s, al, tp⟩ := a
  obtain ⟨k', l', n', s', al', to'⟩ := b
  simp [oneV]
theorem oneV_refl (a : Nd) : oneV a a = true := (oneV_iff a a).2 rfl
def sameNV : List Nd → List Nd → Bool
  | [], [] => true
  | a :: l, b :: m => oneV a b && sameNV l m
  | _, _ => false
theorem sameNV_iff : ∀ (l m : List Nd), sameNV l m = true ↔ l = m
  | [], [] => by simp [sameNV]
  | [], b :: m => by simp [sameNV]
  | a :: l, [] => by simp [sameNV]
  | a :: l, b :: m => by simp [sameNV, oneV_iff, sameNV_iff l m]
def smallV (ns : List Nd) (most : Int) : Bool := decide ((∀ i, i < ns.length → (ndAt ns i).to.length ≤ 12 ∧ (ndAt ns i).alts.length ≤ 12) ∧ (ns.length : Int) ≤ most)
end Lx
end Go.Proofs.Ytlamjjkcbadibaa
namespace Go.Proofs.Ytlamjjkcbadibaa
open Go.RowKit
namespace Lx
set_option maxRecDepth 100000
theorem dataN_list (s : ByteArray) : s.toList = s.data.toList := by
  have := Lib.extract_toList s 0 s.size
  rw [ByteArray.extract_zero_size] at this
  rw [this]
  exact List.take_of_length_le (by show s.data.toList.length ≤ s.size; rw [Lib.size_eq]; exact Nat.le_refl _)
theorem byteN_ext {s t : ByteArray} (h : s.data.toList = t.data.toList) : s = t := by
  obtain ⟨⟨a⟩⟩ := s
  obtain ⟨⟨b⟩⟩ := t
  simp at h
  rw [h]
theorem strN_q (s t : ByteArray) : (s.toList == t.toList) = decide (s = t) := by
  rw [Bool.eq_iff_iff, beq_iff_eq, decide_eq_true_eq]
  refine ⟨fun e => Classical.byContradiction fun h => ?_, fun e => by rw [e]⟩
  rw [dataN_list, dataN_list] at e
  exact h (byteN_ext e)
/-- A capacity is no less than the length. -/
def capN (n c : Nat) : Nat := max n c
theorem le_capN (n c : Nat) : n ≤ capN n c := Nat.le_max_left n c
theorem capN_of {n c : Nat} (h : n ≤ c) : capN n c = c := Nat.max_eq_right h
theorem ncell_lt {w : World} {g o : Nat} {u : Value} (h : w.cell? ⟨g, o, none⟩ = some u) : g < w.heap.size := by
  by_cases hlt : g < w.heap.size
  · exact hlt
  · simp [World.cell?, Array.getElem?_eq_none (Nat.le_of_not_lt hlt)] at h
def AnyB : Nat → Prop := fun _ => True
/-- Rows of alternatives: two cells each. -/
def AltIn (w : World) (X : Nat → Prop) (l : List (ByteArray × Int)) (A : Option Addr) : Prop := ∀ (j : Nat) (h : j < l.length),
  ∃ g o, (A = some ⟨g, o, none⟩ ∧ X g) ∧ w.cell? ⟨g, o + j * 2, none⟩ = some (.string (l[j]'h).1) ∧ w.cell? ⟨g, o + j * 2 + 1, none⟩ = some (.int .i64 (l[j]'h).2) ∧ (l[j]'h).1.size ≤ 140737488351232
/-- Rows of ports: two cells each. -/
def ToIn (w : World) (X : Nat → Prop) (l : List (Int × Int)) (A : Option Addr) : Prop := ∀ (j : Nat) (h : j < l.length),
  ∃ g o, (A = some ⟨g, o, none⟩ ∧ X g) ∧ w.cell? ⟨g, o + j * 2, none⟩ = some (.int .i64 (l[j]'h).1) ∧ w.cell? ⟨g, o + j * 2 + 1, none⟩ = some (.int .i64 (l[j]'h).2)
/-- What a machine's node keeps to. -/
def NdB (x : Nd) : Prop := x.name.size ≤ 140737488351232 ∧ x.alts.length ≤ 140737488351232 ∧ x.to.length ≤ 140737488351232
/-- A node as a value. -/
def ndv (x : Nd) (B : Option Addr) (b : Nat) (C : Option Addr) (c : Nat) : Value := .agg #[.int .i64 x.kind, .int .i64 x.level, .int .i64 x.n, .string x.name, .slice B x.alts.length (capN x.alts.length b), .slice C x.to.length (capN x.to.length c)]
def cellsNd (x : Nd) (B : Option Addr) (b : Nat) (C : Option Addr) (c : Nat) : List Value := [.int .i64 x.kind, .int .i64 x.level, .int .i64 x.n, .string x.name, .slice B x.alts.length (capN x.alts.length b), .slice C x.to.length (capN x.to.length c)]
/-- A node's own rows. -/
def NdIn (w : World) (X : Nat → Prop) (x : Nd) (B C : Option Addr) : Prop := NdB x ∧ AltIn w X x.alts B ∧ ToIn w X x.to C
/-- A row of nodes: six cells each. -/
def NdsIn (w : World) (X : Nat → Prop) (l : List Nd) (A : Option Addr) : Prop := ∀ (i : Nat) (h : i < l.length),
  ∃ g o B b C c, (A = some ⟨g, o, none⟩ ∧ X g) ∧ (w.cell? ⟨g, o + i * 6, none⟩ = some (.int .i64 (l[i]'h).kind) ∧ w.cell? ⟨g, o + i * 6 + 1, none⟩ = some (.int .i64 (l[i]'h).level) ∧ w.cell? ⟨g, o + i * 6 + 2, none⟩ = some (.int .i64 (l[i]'h).n) ∧
    w.cell? ⟨g, o + i * 6 + 3, none⟩ = some (.string (l[i]'h).name) ∧ w.cell? ⟨g, o + i * 6 + 4, none⟩ = some (.slice B (l[i]'h).alts.length (capN (l[i]'h).alts.length b)) ∧
    w.cell? ⟨g, o + i * 6 + 5, none⟩ = some (.slice C (l[i]'h).to.length (capN (l[i]'h).to.length c))) ∧ NdIn w X (l[i]'h) B C
/-- A net as a value. -/
def netv (l : List Nd) (A : Option Addr) (c : Nat) (cap : Int) : Value := .agg #[.slice A l.length (capN l.length c), .int .i64 cap]
section
variable {w w' : World} {X Y : Nat → Prop} {A B C : Option Addr}
theorem AltIn.keep {l : List (ByteArray × Int)} (h : AltIn w X l A) (hk : ∀ g j, X g → g < w.heap.size → w'.cell? ⟨g, j, none⟩ = w.cell? ⟨g, j, none⟩ ∧ Y g) : AltIn w' Y l A := fun j hj => by
  obtain ⟨g, o, ⟨e, hX⟩, h0, h1, h2⟩ := h j hj
  have hlt := ncell_lt h0
  exact ⟨g, o, ⟨e, (hk g 0 hX hlt).2⟩, by rw [(hk g _ hX hlt).1]; exact h0, by rw [(hk g _ hX hlt).1]; exact h1, h2⟩
theorem ToIn.keep {l : List (Int × Int)} (h : ToIn w X l A) (hk : ∀ g j, X g → g < w.heap.size → w'.cell? ⟨g, j, none⟩ = w.cell? ⟨g, j, none⟩ ∧ Y g) : ToIn w' Y l A := fun j hj => by
  obtain ⟨g, o, ⟨e, hX⟩, h0, h1⟩ := h j hj
  have hlt := ncell_lt h0
  exact ⟨g, o, ⟨e, (hk g 0 hX hlt).2⟩, by rw [(hk g _ hX hlt).1]; exact h0, by rw [(hk g _ hX hlt).1]; exact h1⟩
theorem NdIn.keep {x : Nd} (h : NdIn w X x B C) (hk : ∀ g j, X g → g < w.heap.size → w'.cell? ⟨g, j, none⟩ = w.cell? ⟨g, j, none⟩ ∧ Y g) : NdIn w' Y x B C := ⟨h.1, h.2.1.keep hk, h.2.2.keep hk⟩
theorem NdsIn.keep {l : List Nd} (h : NdsIn w X l A) (hk : ∀ g j, X g → g < w.heap.size → w'.cell? ⟨g, j, none⟩ = w.cell? ⟨g, j, none⟩ ∧ Y g) : NdsIn w' Y l A := fun i hi => by
  obtain ⟨g, o, B, b, C, c, ⟨e, hX⟩, ⟨h0, h1, h2, h3, h4, h5⟩, hn⟩ := h i hi
  have hlt := ncell_lt h0
  have hc : ∀ j, w'.cell? ⟨g, j, none⟩ = w.cell? ⟨g, j, none⟩ := fun j => (hk g j hX hlt).1
  exact ⟨g, o, B, b, C, c, ⟨e, (hk g 0 hX hlt).2⟩, ⟨by rw [hc]; exact h0, by rw [hc]; exact h1, by rw [hc]; exact h2, by rw [hc]; exact h3, by rw [hc]; exact h4, by rw [hc]; exact h5⟩, hn.keep hk⟩
theorem keep_below {D : Nat} (hb : Below D w w') (hD : w.heap.size ≤ D) : ∀ g j, X g → g < w.heap.size → w'.cell? ⟨g, j, none⟩ = w.cell? ⟨g, j, none⟩ ∧ X g := fun g j hX hlt => ⟨hb.cell (p := ⟨g, j, none⟩) (by show g < D; omega), hX⟩
theorem keep_set (p : Addr) (u : Value) (hp : ¬ X p.block) : ∀ g j, X g → g < w.heap.size → (w.setCell p u).cell? ⟨g, j, none⟩ = w.cell? ⟨g, j, none⟩ ∧ X g := fun g j hX _ => ⟨World.cell?_setCell_other w p ⟨g, j, none⟩ u (fun e => by subst e; exact hp hX), hX⟩
theorem keep_grown {row : Option Nat} (hg : w.grownBy w' row) (hp : ∀ g, row = some g → ¬ X g) : ∀ g j, X g → g < w.heap.size → w'.cell? ⟨g, j, none⟩ = w.cell? ⟨g, j, none⟩ ∧ X g := fun g _ hX hlt => ⟨World.cell?_of_block (hg.block g hlt (fun e => hp g e.symm hX)), hX⟩
theorem keep_wide (hXY : ∀ g, X g → g < w.heap.size → Y g) : ∀ g j, X g → g < w.heap.size → w.cell? ⟨g, j, none⟩ = w.cell? ⟨g, j, none⟩ ∧ Y g := fun g _ hX hlt => ⟨rfl, hXY g hX hlt⟩
theorem AltIn.nil : AltIn w X [] A := fun j h => by simp at h
theorem ToIn.nil : ToIn w X [] A := fun j h => by simp at h
theorem NdsIn.nil : NdsIn w X [] A := fun i h => by simp at h
theorem NdIn.zero : NdIn w X Nd.zero none none := ⟨⟨by decide, by decide, by decide⟩, AltIn.nil, ToIn.nil⟩
theorem NdsIn.any {l : List Nd} (h : NdsIn w X l A) : NdsIn w AnyB l A := h.keep (keep_wide fun _ _ _ => trivial)
theorem NdIn.any {x : Nd} (h : NdIn w X x B C) : NdIn w AnyB x B C := h.keep (keep_wide fun _ _ _ => trivial)
theorem NdsIn.below {l : List Nd} {D : Nat} (h : NdsIn w X l A) (hb : Below D w w') (hD : w.heap.size ≤ D) : NdsIn w' X l A := h.keep (keep_below hb hD)
theorem NdIn.below {x : Nd} {D : Nat} (h : NdIn w X x B C) (hb : Below D w w') (hD : w.heap.size ≤ D) : NdIn w' X x B C := h.keep (keep_below hb hD)
theorem AltIn.below {l : List (ByteArray × Int)} {D : Nat} (h : AltIn w X l A) (hb : Below D w w') (hD : w.heap.size ≤ D) : AltIn w' X l A := h.keep (keep_below hb hD)
theorem ToIn.below {l : List (Int × Int)} {D : Nat} (h : ToIn w X l A) (hb : Below D w w') (hD : w.heap.size ≤ D) : ToIn w' X l A := h.keep (keep_below hb hD)
theorem NdsIn.take {l : List Nd} (h : NdsIn w X l A) (k : Nat) : NdsIn w X (l.take k) A := fun i hi => by
  have hi' : i < l.length := by simp at hi; omega
  have := h i hi'
  rw [List.getElem_take]
  exact this
end
/-- The cells xs read as the nodes of l. -/
def RowNd (w : World) (X : Nat → Prop) (l : List Nd) (xs : List Value) : Prop :=
  xs.length = l.length * 6 ∧ ∀ (j : Nat) (hj : j < l.length), ∃ B b C c, (∀ q, q < 6 → xs[j * 6 + q]? = (cellsNd (l[j]'hj) B b C c)[q]?) ∧ NdIn w X (l[j]'hj) B C
section
variable {w w' : World} {X Y : Nat → Prop} {A B C : Option Addr} {l : List Nd} {xs : List Value}
theorem cellsNd_length (x : Nd) (b c : Nat) : (cellsNd x B b C c).length = 6 := rfl
theorem RowNd.nil : RowNd w X [] [] := ⟨rfl, fun j hj => by simp at hj⟩
theorem RowNd.keep (h : RowNd w X l xs) (hk : ∀ g j, X g → g < w.heap.size → w'.cell? ⟨g, j, none⟩ = w.cell? ⟨g, j, none⟩ ∧ Y g) : RowNd w' Y l xs := ⟨h.1, fun j hj => by
  obtain ⟨B, b, C, c, hc, ht⟩ := h.2 j hj
  exact ⟨B, b, C, c, hc, ht.keep hk⟩⟩
theorem RowNd.snoc (h : RowNd w X l xs) {x : Nd} {b c : Nat} (ht : NdIn w X x B C) : RowNd w X (l ++ [x]) (xs ++ cellsNd x B b C c) := by
  refine ⟨by simp [h.1, cellsNd_length]; omega, fun j hj => ?_⟩
  rcases Nat.lt_or_ge j l.length with hlt | hge
  · obtain ⟨B', b', C', c', hc, ht'⟩ := h.2 j hlt
    rw [List.getElem_append_left hlt]
    refine ⟨B', b', C', c', fun q hq => ?_, ht'⟩
    rw [List.getElem?_append_left (by rw [h.1]; omega)]
    exact hc q hq
  · have hj' : j = l.length := by simp at hj; omega
    subst hj'
    rw [List.getElem_append_right (Nat.le_refl _)]
    simp only [Nat.sub_self, List.getElem_singleton]
    refine ⟨B, b, C, c, fun q hq => ?_, ht⟩
    rw [List.getElem?_append_right (by rw [h.1]; omega), h.1]
    congr 1
    omega
/-- Nodes in a row of one's own. -/
theorem RowNd.parts {g o : Nat} (h : RowNd w X l xs) (hg : Y g) (hXY : ∀ b, X b → b < w.heap.size → Y b) (hc : ∀ j u, xs[j]? = some u → w.cell? ⟨g, o + j, none⟩ = some u) : NdsIn w Y l (some ⟨g, o, none⟩) := fun i hi => by
  obtain ⟨B, b, C, c, hx, ht⟩ := h.2 i hi
  have hq : ∀ q, q < 6 → w.cell? ⟨g, o + i * 6 + q, none⟩ = (cellsNd (l[i]'hi) B b C c)[q]? := fun q hq => by
    have h1 := hx q hq
    obtain ⟨u, hu⟩ : ∃ u, (cellsNd (l[i]'hi) B b C c)[q]? = some u := ⟨_, List.getElem?_eq_getElem (by rw [cellsNd_length]; exact hq)⟩
    rw [hu]
    rw [hu] at h1
    have := hc _ _ h1
    rwa [← Nat.add_assoc] at this
  exact ⟨g, o, B, b, C, c, ⟨rfl, hg⟩, ⟨hq 0 (by omega), hq 1 (by omega), hq 2 (by omega), hq 3 (by omega), hq 4 (by omega), hq 5 (by omega)⟩, ht.keep (keep_wide hXY)⟩
theorem nadd (g o j : Nat) : (⟨g, o, none⟩ : Addr).add j = ⟨g, o + j, none⟩ := by unfold Addr.add; split <;> simp_all
/-- A row that the call owns. -/
theorem RowNd.owned {base n c : Nat} {e : TypeId} (h : RowNd w X l xs) (ho : w.ownsRow base e 6 (.slice A n c) n xs) (hX : ∀ g, base ≤ g → Y g) (hXY : ∀ b, X b → b < w.heap.size → Y b) : NdsIn w Y l A := by
  by_cases hl : l = []
  · subst hl; exact NdsIn.nil
  · have hn : 0 < n := by
      have h1 := ho.1
      have h2 := h.1
      have := List.length_pos_iff.2 hl
      omega
    obtain ⟨g, cap, hv⟩ := Joins.ownsRow_form ho hn
    have hA : A = some ⟨g, 0, none⟩ := by injection hv
    subst hA
    refine h.parts (hX g ?_) hXY fun j u hu => ?_
    · rcases ho.2 with ⟨e, _⟩ | ⟨g', _, _, e, hb, _⟩
      · cases e
      · injection e with e; injection e with e; injection e with e; subst e; exact hb
    · have h1 := ho.cells (g := g) rfl j u hu
      rw [nadd] at h1
      exact h1
/-- Nodes that lie in a row: their cells. -/
theorem NdsIn.row {g o : Nat} (h : NdsIn w X l (some ⟨g, o, none⟩)) : ∃ xs, RowNd w X l xs ∧ (∀ i u, xs[i]? = some u → w.cell? ⟨g, o + i, none⟩ = some u) ∧ ∀ u ∈ xs, u.oneCell' = true := by
  have key : ∀ k, k ≤ l.length → ∃ xs, RowNd w X (l.take k) xs ∧ (∀ i u, xs[i]? = some u → w.cell? ⟨g, o + i, none⟩ = some u) ∧ ∀ u ∈ xs, u.oneCell' = true := by
    intro k
    induction k with
    | zero => intro _; exact ⟨[], by simpa using RowNd.nil, fun i u h => by simp at h, fun u h => by simp at h⟩
    | succ k ih =>
      intro hk
      obtain ⟨xs, h1, h2, h3⟩ := ih (by omega)
      obtain ⟨g', o', B, b, C, c, ⟨hA, _⟩, ⟨c0, c1, c2, c3, c4, c5⟩, hn⟩ := h k (by omega)
      cases hA
      have hl : xs.length = k * 6 := by rw [h1.1]; simp; omega
      refine ⟨xs ++ cellsNd (l[k]'(by omega)) B b C c, by rw [List.take_succ_eq_append_getElem (by omega)]; exact h1.snoc hn, fun i u hu => ?_, fun u hu => ?_⟩
      · rcases Nat.lt_or_ge i xs.length with hlt | hge
        · rw [List.getElem?_append_left hlt] at hu
          exact h2 i u hu
        · rw [List.getElem?_append_right hge] at hu
          have hi6 : i - xs.length < 6 := by
            rcases Nat.lt_or_ge (i - xs.length) 6 with h | h
            · exact h
            · rw [List.getElem?_eq_none (by rw [cellsNd_length]; exact h)] at hu; cases hu
          obtain ⟨q, rfl⟩ : ∃ q, i = k * 6 + q := ⟨i - k * 6, by omega⟩
          rw [hl, Nat.add_sub_cancel_left] at hu hi6
          rw [← Nat.add_assoc]
          rcases (by omega : q = 0 ∨ q = 1 ∨ q = 2 ∨ q = 3 ∨ q = 4 ∨ q = 5) with rfl | rfl | rfl | rfl | rfl | rfl <;> (cases hu; assumption)
      · rcases List.mem_append.1 hu with hu | hu
        · exact h3 u hu
        · simp only [cellsNd, List.mem_cons, List.not_mem_nil, or_false] at hu
          rcases hu with rfl | rfl | rfl | rfl | rfl | rfl <;> rfl
  obtain ⟨xs, h1, h2, h3⟩ := key l.length (Nat.le_refl _)
  rw [List.take_length] at h1
  exact ⟨xs, h1, h2, h3⟩
end
end Lx
end Go.Proofs.Ytlamjjkcbadibaa
namespace Go.Proofs.Ytlamjjkcbadibaa
open Go.ChangeShapes Go.WideShapes Go.ChangeAt Go.RowKit
open Go.ChangeMaps (open_string shut_string)
namespace Lx
set_option maxRecDepth 100000
theorem own_ : ownKnob Try.prog.godebug = none := by kernel_rfl
section
variable {H : Type} {enc : TypeId × Value → H}
theorem cN6 : Try.prog.cellsOf 25 = 6 := by kernel_rfl
theorem cA2 : Try.prog.cellsOf 49 = 2 := by kernel_rfl
theorem cP2 : Try.prog.cellsOf 55 = 2 := by kernel_rfl
theorem bA24 : Try.prog.bytesOf 49 = 24 := by kernel_rfl
theorem bP16 : Try.prog.bytesOf 55 = 16 := by kernel_rfl
theorem cc3 : Try.prog.cellsOf 3 = 1 := by kernel_rfl
theorem cc9 : Try.prog.cellsOf 9 = 1 := by kernel_rfl
theorem ccA : Try.prog.cellsOf 22 = 1 := by kernel_rfl
theorem ccP : Try.prog.cellsOf 23 = 1 := by kernel_rfl
theorem cells_getN {w : World} {base : Nat} {a : Addr} {n : Nat} {cs : List Value} (h : w.cells? base a n = some cs) : ∀ j, j < n → w.cell? (a.add j) = cs[j]? := (World.cells?_some h).2.2
theorem spot_noneN {w : World} {a : Addr} {v : Value} (h : w.cell? a = some v) : a.spot = none := by
  unfold World.cell? at h
  split at h
  · split at h
    · cases h
    · rename_i hs; simpa using hs
  · cases h
theorem weights_memN {P : Program} {e : TypeId} : ∀ (L : List (DataW H)) (d : DataW H), d ∈ L → ∀ q ∈ DataW.weights P e d, q ∈ DataW.weightsAll P e L
  | [], d, h, _, _ => by cases h
  | a :: r, d, h, q, hq => by
    rw [DataW.weightsAll, List.mem_append]
    rcases List.mem_cons.1 h with rfl | h
    · exact .inl hq
    · exact .inr (weights_memN r d h q hq)
theorem row_ofN {α : Type} {Q : Nat → α → Prop} : ∀ (n : Nat), (∀ i, i < n → ∃ t, Q i t) → ∃ l : List α, l.length = n ∧ ∀ (i : Nat) (hi : i < l.length), Q i (l[i]'hi)
  | 0, _ => ⟨[], rfl, fun i hi => by simp at hi⟩
  | n + 1, h => by
    obtain ⟨l, hl, hq⟩ := row_ofN n fun i hi => h i (by omega)
    obtain ⟨t, ht⟩ := h n (by omega)
    refine ⟨l ++ [t], by simp [hl], fun i hi => ?_⟩
    rcases Nat.lt_or_ge i l.length with hlt | hge
    · rw [List.getElem_append_left hlt]; exact hq i hlt
    · have e : i = n := by simp at hi; omega
      subst e
      rw [List.getElem_append_right (by omega)]
      simpa [hl] using ht
/-- An alternative's reading. -/
theorem open_arity {W : World} {base : Nat} {sp : Nat → Bool} {hd : Bool} {fuel : Nat} {cs : List Value} {x : DataW H × List MemPlace} (h : DataW.trod enc Try.prog W base sp hd fuel 49 cs = some x) :
    ∃ (s : ByteArray) (n : Int), cs = [.string s, .int .i64 n] ∧ x.1 = .agg [.lit (.string s.data.toList), .lit (.int .i64 n)] := by
  obtain ⟨xs, m, e, hx, hl, hlen, hf⟩ := DataW.trod_struct Try.underlying49 h
  rw [cA2] at hl
  match cs, hl with
  | [c0, c1], _ =>
  match xs, hlen with
  | [x0, x1], _ =>
  have h0 := hf 0 { name := "Name", type := 9, offset := 0, embedded := false, tag := "", pkgPath := "", byteOffset := 0 } rfl
  have h1 := hf 1 { name := "N", type := 3, offset := 1, embedded := false, tag := "", pkgPath := "", byteOffset := 16 } rfl
  dsimp only at h0 h1
  rw [cc9] at h0
  rw [cc3] at h1
  dsimp at h0 h1
  obtain ⟨s, e0, y0, _⟩ := DataW.trod_string Try.underlying9 h0
  obtain ⟨n, e1, y1, _⟩ := DataW.trod_int Try.underlying3 h1
  obtain rfl := (List.cons.inj e0).1
  obtain rfl := (List.cons.inj e1).1
  subst y0 y1
  exact ⟨s, n, rfl, by rw [hx]; simp⟩
theorem open_port {W : World} {base : Nat} {sp : Nat → Bool} {hd : Bool} {fuel : Nat} {cs : List Value} {x : DataW H × List MemPlace} (h : DataW.trod enc Try.prog W base sp hd fuel 55 cs = some x) :
    ∃ (a b : Int), cs = [.int .i64 a, .int .i64 b] := by
  obtain ⟨xs, m, e, hx, hl, hlen, hf⟩ := DataW.trod_struct Try.underlying55 h
  rw [cP2] at hl
  match cs, hl with
  | [c0, c1], _ =>
  match xs, hlen with
  | [x0, x1], _ =>
  have h0 := hf 0 { name := "Node", type := 3, offset := 0, embedded := false, tag := "", pkgPath := "", byteOffset := 0 } rfl
  have h1 := hf 1 { name := "Slot", type := 3, offset := 1, embedded := false, tag := "", pkgPath := "", byteOffset := 8 } rfl
  dsimp only at h0 h1
  rw [cc3] at h0 h1
  dsimp at h0 h1
  obtain ⟨s, e0, y0, _⟩ := DataW.trod_int Try.underlying3 h0
  obtain ⟨n, e1, y1, _⟩ := DataW.trod_int Try.underlying3 h1
  obtain rfl := (List.cons.inj e0).1
  obtain rfl := (List.cons.inj e1).1
  exact ⟨s, n, rfl⟩
theorem open_alts {W : World} {base : Nat} {sp : Nat → Bool} {hd : Bool} {fuel : Nat} {v : Value} {y : DataW H × List MemPlace} (hv : DataW.trod enc Try.prog W base sp hd fuel 22 [v] = some y)
    (hw : ∀ q ∈ DataW.weights Try.prog 22 y.1, q ≤ reachBytes) : ∃ (l : List (ByteArray × Int)) (A : Option Addr) (c : Nat), v = .slice A l.length (capN l.length c) ∧ AltIn W AnyB l A ∧ l.length ≤ 140737488351232 := by
  rcases DataW.trod_slice Try.underlying22 hv with ⟨e1, rfl⟩ | ⟨p, len, cap, elems, rest, m', em, e1, rfl, hb, hl, hm, hlen, hel, _, _⟩
  · obtain rfl := (List.cons.inj e1).1
    exact ⟨[], none, 0, rfl, AltIn.nil, by simp⟩
  · obtain rfl := (List.cons.inj e1).1
    have hwe : ∀ (i : Nat) (y' : DataW H × List MemPlace), elems[i]? = some y' → ∀ q ∈ DataW.weights Try.prog 49 y'.1, q ≤ reachBytes := fun i y' hy q hq => hw q (by
      rw [DataW.weights, Try.underlying22]
      have := weights_memN (elems.map (·.1)) y'.1 (List.mem_map_of_mem (List.mem_of_getElem? hy)) q hq
      simp [this])
    have hlen' : len ≤ 140737488351232 := by
      have := hw ((elems.length + rest.length) * 24) (by
        rw [DataW.weights, Try.underlying22]
        simp [bA24])
      have : (elems.length + rest.length) * 24 ≤ 140737488351232 := this
      omega
    obtain ⟨l, hll, hq⟩ := row_ofN (Q := fun i (t : ByteArray × Int) => W.cells? base (p.add (i * 2)) 2 = some [.string t.1, .int .i64 t.2] ∧ t.1.size ≤ 140737488351232) len fun i hi => by
      have h1 := hel i hi
      rw [cA2] at h1
      obtain ⟨y', hy'⟩ : ∃ y', elems[i]? = some y' := ⟨_, List.getElem?_eq_getElem (by omega)⟩
      rw [hy', Option.bind_eq_some_iff] at h1
      obtain ⟨cs', hc', ht'⟩ := h1
      obtain ⟨s, n, rfl, hx'⟩ := open_arity ht'
      refine ⟨(s, n), hc', ?_⟩
      have := hwe i y' hy' s.data.toList.length (by
        rw [hx', DataW.weights, Try.underlying49]
        simp [DataW.weightsEach, DataW.weights])
      simpa [reachBytes] using this
    subst hll
    refine ⟨l, some p, cap, by rw [capN_of hl], fun i hi => ?_, hlen'⟩
    have hps : p.spot = none := by
      obtain ⟨hc, _⟩ := hq 0 (by omega)
      have := cells_getN hc 0 (by omega)
      have := spot_noneN (this.trans (rfl : ([_, _] : List Value)[0]? = some _))
      simpa [Addr.add] using this
    obtain ⟨pb, po, ps⟩ := p
    dsimp only at hps
    subst hps
    obtain ⟨hc, hsz⟩ := hq i hi
    have hcell : ∀ j, j < 2 → W.cell? ⟨pb, po + i * 2 + j, none⟩ = ([.string (l[i]'hi).1, .int .i64 (l[i]'hi).2] : List Value)[j]? := fun j hj => by
      have ea : ((⟨pb, po, none⟩ : Addr).add (i * 2)).add j = ⟨pb, po + i * 2 + j, none⟩ := by rw [nadd, nadd]
      rw [← cells_getN hc j hj, ea]
    exact ⟨pb, po, ⟨rfl, trivial⟩, hcell 0 (by omega), hcell 1 (by omega), hsz⟩
theorem open_to {W : World} {base : Nat} {sp : Nat → Bool} {hd : Bool} {fuel : Nat} {v : Value} {y : DataW H × List MemPlace} (hv : DataW.trod enc Try.prog W base sp hd fuel 23 [v] = some y)
    (hw : ∀ q ∈ DataW.weights Try.prog 23 y.1, q ≤ reachBytes) : ∃ (l : List (Int × Int)) (A : Option Addr) (c : Nat), v = .slice A l.length (capN l.length c) ∧ ToIn W AnyB l A ∧ l.length ≤ 140737488351232 := by
  rcases DataW.trod_slice Try.underlying23 hv with ⟨e1, rfl⟩ | ⟨p, len, cap, elems, rest, m', em, e1, rfl, hb, hl, hm, hlen, hel, _, _⟩
  · obtain rfl := (List.cons.inj e1).1
    exact ⟨[], none, 0, rfl, ToIn.nil, by simp⟩
  · obtain rfl := (List.cons.inj e1).1
    have hlen' : len ≤ 140737488351232 := by
      have := hw ((elems.length + rest.length) * 16) (by
        rw [DataW.weights, Try.underlying23]
        simp [bP16])
      have : (elems.length + rest.length) * 16 ≤ 140737488351232 := this
      omega
    obtain ⟨l, hll, hq⟩ := row_ofN (Q := fun i (t : Int × Int) => W.cells? base (p.add (i * 2)) 2 = some [.int .i64 t.1, .int .i64 t.2]) len fun i hi => by
      have h1 := hel i hi
      rw [cP2] at h1
      obtain ⟨y', hy'⟩ : ∃ y', elems[i]? = some y' := ⟨_, List.getElem?_eq_getElem (by omega)⟩
      rw [hy', Option.bind_eq_some_iff] at h1
      obtain ⟨cs', hc', ht'⟩ := h1
      obtain ⟨a, b, rfl⟩ := open_port ht'
      exact ⟨(a, b), hc'⟩
    subst hll
    refine ⟨l, some p, cap, by rw [capN_of hl], fun i hi => ?_, hlen'⟩
    have hps : p.spot = none := by
      have hc := hq 0 (by omega)
      have := cells_getN hc 0 (by omega)
      have := spot_noneN (this.trans (rfl : ([_, _] : List Value)[0]? = some _))
      simpa [Addr.add] using this
    obtain ⟨pb, po, ps⟩ := p
    dsimp only at hps
    subst hps
    have hc := hq i hi
    have hcell : ∀ j, j < 2 → W.cell? ⟨pb, po + i * 2 + j, none⟩ = ([.int .i64 (l[i]'hi).1, .int .i64 (l[i]'hi).2] : List Value)[j]? := fun j hj => by
      have ea : ((⟨pb, po, none⟩ : Addr).add (i * 2)).add j = ⟨pb, po + i * 2 + j, none⟩ := by rw [nadd, nadd]
      rw [← cells_getN hc j hj, ea]
    exact ⟨pb, po, ⟨rfl, trivial⟩, hcell 0 (by omega), hcell 1 (by omega)⟩
/-- A node's reading. -/
theorem open_node {W : World} {base : Nat} {sp : Nat → Bool} {hd : Bool} {fuel : Nat} {cs : List Value} {x : DataW H × List MemPlace} (h : DataW.trod enc Try.prog W base sp hd fuel 25 cs = some x)
    (hw : ∀ k ∈ DataW.weights Try.prog 25 x.1, k ≤ reachBytes) : ∃ (y : Nd) (B : Option Addr) (b : Nat) (C : Option Addr) (c : Nat), cs = cellsNd y B b C c ∧ NdIn W AnyB y B C := by
  obtain ⟨xs, m, e, hx, hl, hlen, hf⟩ := DataW.trod_struct Try.underlying25 h
  rw [cN6] at hl
  match cs, hl with
  | [c0, c1, c2, c3, c4, c5], _ =>
  match xs, hlen with
  | [x0, x1, x2, x3, x4, x5], _ =>
  have h0 := hf 0 { name := "Kind", type := 3, offset := 0, embedded := false, tag := "", pkgPath := "", byteOffset := 0 } rfl
  have h1 := hf 1 { name := "Level", type := 3, offset := 1, embedded := false, tag := "", pkgPath := "", byteOffset := 8 } rfl
  have h2 := hf 2 { name := "N", type := 3, offset := 2, embedded := false, tag := "", pkgPath := "", byteOffset := 16 } rfl
  have h3 := hf 3 { name := "Name", type := 9, offset := 3, embedded := false, tag := "", pkgPath := "", byteOffset := 24 } rfl
  have h4 := hf 4 { name := "Alts", type := 22, offset := 4, embedded := false, tag := "", pkgPath := "", byteOffset := 40 } rfl
  have h5 := hf 5 { name := "To", type := 23, offset := 5, embedded := false, tag := "", pkgPath := "", byteOffset := 64 } rfl
  dsimp only at h0 h1 h2 h3 h4 h5
  rw [cc3] at h0 h1 h2
  rw [cc9] at h3
  rw [ccA] at h4
  rw [ccP] at h5
  dsimp at h0 h1 h2 h3 h4 h5
  obtain ⟨k, e0, y0, _⟩ := DataW.trod_int Try.underlying3 h0
  obtain ⟨lv, e1, y1, _⟩ := DataW.trod_int Try.underlying3 h1
  obtain ⟨n, e2, y2, _⟩ := DataW.trod_int Try.underlying3 h2
  obtain ⟨s, e3, y3, _⟩ := DataW.trod_string Try.underlying9 h3
  obtain rfl := (List.cons.inj e0).1
  obtain rfl := (List.cons.inj e1).1
  obtain rfl := (List.cons.inj e2).1
  obtain rfl := (List.cons.inj e3).1
  subst y0 y1 y2 y3
  have hx1 : x.1 = .agg [.lit (.int .i64 k), .lit (.int .i64 lv), .lit (.int .i64 n), .lit (.string s.data.toList), x4.1, x5.1] := by rw [hx]; simp
  obtain ⟨al, B, b, rfl, hA, hAl⟩ := open_alts h4 (fun q hq => hw q (by
    rw [hx1, DataW.weights, Try.underlying25]
    simp [DataW.weightsEach, DataW.weights, hq]))
  obtain ⟨tp, C, c, rfl, hT, hTl⟩ := open_to h5 (fun q hq => hw q (by
    rw [hx1, DataW.weights, Try.underlying25]
    simp [DataW.weightsEach, DataW.weights, hq]))
  have hs : s.size ≤ 140737488351232 := by
    have := hw s.data.toList.length (by
      rw [hx1, DataW.weights, Try.underlying25]
      simp [DataW.weightsEach, DataW.weights])
    simpa [reachBytes] using this
  exact ⟨⟨k, lv, n, s, al, tp⟩, B, b, C, c, rfl, ⟨hs, hAl, hTl⟩, hA, hT⟩
/-- A node among the arguments. -/
theorem node_arg {W : World} {base b0 : Nat} {sp : Nat → Bool} {hd : Bool} {v : Value} {d : DataW H} {ps : List MemPlace} (hval : Value.okWide Try.prog W .any b0 25 v)
    (h : DataW.Trod enc Try.prog W base sp hd 25 v d ps) (hw : ∀ k ∈ DataW.weights Try.prog 25 d, k ≤ reachBytes) : ∃ y B b C c, v = ndv y B b C c ∧ NdIn W AnyB y B C := by
  obtain ⟨cs, rfl, _⟩ := okWide_struct Try.underlying25 hval
  obtain ⟨fuel, hf⟩ := h
  obtain ⟨y, B, b, C, c, hcs, hI⟩ := open_node hf hw
  refine ⟨y, B, b, C, c, ?_, hI⟩
  have : cs = #[.int .i64 y.kind, .int .i64 y.level, .int .i64 y.n, .string y.name, .slice B y.alts.length (capN y.alts.length b), .slice C y.to.length (capN y.to.length c)] := Array.ext' hcs
  rw [this]
  rfl
/-- It reads behind the call as it read before. -/
theorem node_again {W W' : World} {v : Value} {d : DataW H} {ps : List MemPlace} (h : DataW.Trod enc Try.prog W 0 (fun _ => true) true 25 v d ps) (hb : Below W.heap.size W W') (hlt : ∀ x ∈ ps, x.block < W.heap.size)
    {sp : Nat → Bool} (hs : ∀ x ∈ ps, sp x.block = true) : DataW.Trod enc Try.prog W' 0 sp true 25 v d ps :=
  WideElems.Trod_stays (by kernel_rfl) (by kernel_rfl) (of_decide_eq_true (by kernel_rfl)) h (fun x hx => hb.same (hlt x hx)) hs
/-- The end of a row without variables whose call left all that was there as it was. -/
theorem postN_left {P : Program} {f : Func} {s : ChangeSpec} {apart fresh handsOn again : Bool} {W W' : World} {args : Array Value} {v : Value} {ds : List (DataW H)} {before : List MemPlace}
    (hW : DataW.Whole enc P f.params.toList s.vars apart W args.toList ds [] before)
    (hres : ∀ (b : Nat) (sp : Nat → Bool) (hd : Bool), DataW.TrodAll enc P W' b sp hd f.resultTypes.toList (v.resultList f.resultTypes.size) (s.fn H (ds ++ [])).results [])
    (hargs : ∀ sp : Nat → Bool, (∀ p ∈ before, sp p.block = true) → DataW.TrodAll enc P W' 0 sp true f.params.toList args.toList (s.fn H (ds ++ [])).args before)
    (hvars : ∀ sp : Nat → Bool, DataW.TrodVars enc P W' sp s.vars (s.fn H (ds ++ [])).vars [])
    (hb : Below W.heap.size W W')
    (hok : ∀ (j : Nat) (t : TypeId) (r : Value), f.resultTypes[j]? = some t → (v.resultList f.resultTypes.size)[j]? = some r → Value.okWide P W' .any 0 t r) :
    s.post enc P f apart fresh handsOn again W args v W' := by
  have hlt : ∀ p ∈ before, p.block < W.heap.size := fun p hp => hW.lt p hp
  refine ⟨ds, [], before, [], before, [], hW, hres _ _ _, hargs _ (fun p hp => by simpa using hlt p hp), hvars _, World.keptBut_mono (fun p hp => ⟨hp, .inr (.inl hp)⟩) (hb.frame (· ∈ before)), fun _ => ?_⟩
  obtain ⟨_, _, _, _, _, hz, hn⟩ := hW
  refine ⟨hok, _, _, ([] ++ before) ++ [], ⟨[] ++ before, [], trodAll_append (hargs _ (fun _ _ => rfl)) (hres _ _ _), hvars _, rfl, ?_, ?_⟩, ?_⟩
  · intro b off hp
    have hin : MemPlace.cell b off ∈ before := by simpa using hp
    rw [hb.frozen (hlt _ hin)]
    exact hz b off hin
  · intro ha
    simpa using hn ha
  · intro p hp _
    simpa using hp
end
section
variable {H : Type} {enc : TypeId × Value → H}
theorem cc3' : Try.prog.cellsOf 3 = 1 := by kernel_rfl
theorem bN88 : Try.prog.bytesOf 25 = 88 := by kernel_rfl
end
end Lx
end Go.Proofs.Ytlamjjkcbadibaa
namespace Go.Proofs
open Go.Shelf
end Go.Proofs
namespace Go.Proofs.Ytlamjjkcbadibaa
open Go.RowKit
namespace Lx
set_option maxRecDepth 100000
def portsTab : List Int := [0, 1, 3, 3, 3, 2, 2, 1, 0, 2, 1, 3, 2, 1]
/-- The table of how many ports kinds have stands as it was laid. -/
def PTab (w : World) : Prop := Lib.TabIs Try.prog w "gossamer/store.ports" .i64 portsTab
theorem nret_bool {a b : Bool} (h : a = b) : Ending.returned (.bool a) = .returned (.bool b) := by rw [h]
theorem nret_int {k : IntKind} {a b : Int} (h : a = b) : Ending.returned (.int k a) = .returned (.int k b) := by rw [h]
set_option maxHeartbeats 4000000 in
theorem rports_any (x : Nd) (B C : Option Addr) (b c : Nat) (w : World) (hN : NdB x) : Calls Try.prog 18 #[ndv x B b C c] w fun e w' => e = .returned (.int .i64 x.ports) ∧ Below w.heap.size w w' := by
  obtain ⟨k, lv, n, s, al, tp⟩ := x
  have hb : Below w.heap.size w (w.alloc (.cells #[.int .i64 k, .int .i64 lv, .int .i64 n, .string s, .slice B al.length (capN al.length b), .slice C tp.length (capN tp.length c)] 25)) := (Below.refl _ w).alloc (Nat.le_refl _) _
  obtain ⟨_, hal, _⟩ := hN
  simp only at hal
  unfold ndv Nd.ports
  simp only
  rcases (by omega : k = 1 ∨ k = 7 ∨ k = 10 ∨ k = 13 ∨ k = 5 ∨ k = 6 ∨ k = 12 ∨ k = 2 ∨ k = 3 ∨ k = 4 ∨ k = 11 ∨ k = 8 ∨ k = 9 ∨ (k < 1 ∨ 13 < k)) with rfl | rfl | rfl | rfl | rfl | rfl | rfl | rfl | rfl | rfl | rfl | rfl | rfl | h
  rotate_right
  · have h1 : (k == 1) = false := by simp; omega
    have h2 : (k == 2) = false := by simp; omega
    have h3 : (k == 3) = false := by simp; omega
    have h4 : (k == 4) = false := by simp; omega
    have h5 : (k == 5) = false := by simp; omega
    have h6 : (k == 6) = false := by simp; omega
    have h7 : (k == 7) = false := by simp; omega
    have h8 : (k == 8) = false := by simp; omega
    have h9 : (k == 9) = false := by simp; omega
    have h10 : (k == 10) = false := by simp; omega
    have h11 : (k == 11) = false := by simp; omega
    have h12 : (k == 12) = false := by simp; omega
    have h13 : (k == 13) = false := by simp; omega
    have hp : portsN k al.length tp.length = 0 := by
      unfold portsN
      repeat rw [if_neg (by omega)]
    rw [hp]
    clear h
    go_enter Try.func18, Try.ntmps18
    go_wp2_with fail
    go_ret
    exact ⟨rfl, hb⟩
  all_goals
    go_enter Try.func18, Try.ntmps18
    go_wp2_with fail
    go_ret
    exact ⟨by simp [portsN] <;> go_num, hb⟩
end Lx
end Go.Proofs.Ytlamjjkcbadibaa
namespace Go.Proofs.Ytlamjjkcbadibaa
open Go.RowKit
namespace Lx
set_option maxRecDepth 100000
/-- The three tests ahead of the alternatives. -/
def n1 (k l : Int) : Bool := decide (k < 0 ∨ 13 < k ∨ l < 0 ∨ 60 < l ∨ (k < 2 ∧ 0 < l))
def n3 (k n : Int) (s : ByteArray) : Bool := (!decide (s = ⟨#[]⟩)) != hasNameK k || (decide (n ≠ 0) && !hasNumK k)
def n5 (k : Int) (al tp : Nat) : Bool := decide ((k = 8 ∧ (tp < 1 ∨ 9 < tp)) ∨ (k = 9 ∧ al < 1) ∨ (k ≠ 9 ∧ 0 < al) ∨ 8 < al)
theorem nodeV_eq (k l n : Int) (s : ByteArray) (al : List (ByteArray × Int)) (tp : List (Int × Int)) : nodeV ⟨k, l, n, s, al, tp⟩ = (!n1 k l && (!n3 k n s && (!n5 k al.length tp.length && altsFrom [] al))) := by
  simp only [nodeV]
  rw [Bool.eq_iff_iff]
  simp only [n1, n3, n5, Bool.and_eq_true, Bool.not_eq_true', Bool.or_eq_false_iff, decide_eq_true_eq, decide_eq_false_iff_not, beq_iff_eq, bne_eq_false_iff_eq, Bool.and_eq_false_iff]
  constructor
  · rintro ⟨h1, h2, h3, h4, h5⟩
    refine ⟨by omega, ⟨h2, ?_⟩, by omega, h5⟩
    rcases h3 with h3 | h3
    · exact .inl (fun h => h h3)
    · exact .inr (by simp [h3])
  · rintro ⟨h1, ⟨h2, h3⟩, h4, h5⟩
    refine ⟨by omega, h2, ?_, by omega, h5⟩
    rcases h3 with h3 | h3
    · exact .inl (by omega)
    · exact .inr (by simpa using h3)
theorem empty_dec (s : ByteArray) : s.toList.isEmpty = decide (s = ⟨#[]⟩) := by
  rw [Bool.eq_iff_iff, decide_eq_true_eq, List.isEmpty_iff]
  constructor
  · intro h
    apply byteN_ext
    rw [← dataN_list, h]
  · rintro rfl; rw [dataN_list]
end Lx
end Go.Proofs.Ytlamjjkcbadibaa
namespace Go.Proofs.Ytlamjjkcbadibaa
open Go.RowKit
namespace Lx
set_option maxRecDepth 100000
theorem twinIn_take {a : ByteArray} {l : List (ByteArray × Int)} {i : Nat} (h : i < l.length) : twinIn a (l.take (i + 1)) = (twinIn a (l.take i) || decide ((l[i]'h).1 = a)) := by
  rw [List.take_succ_eq_append_getElem h, twinIn, List.any_append]
  simp [twinIn]
end Lx
end Go.Proofs.Ytlamjjkcbadibaa
namespace Go.Proofs.Ytlamjjkcbadibaa
open Go.RowKit
namespace Lx
set_option maxRecDepth 100000
/-- A world in which all is as it was in w. -/
def Abv (w : World) : Type := { V : World // Below w.heap.size w V }
instance abv_nonempty (w : World) : Nonempty (Abv w) := ⟨⟨w, Below.refl _ w⟩⟩
theorem region_calm {P : Program} {id : Nat} {Q : Exit → Act → World → Prop} {a : Act} {w : World} {l : List Oper} (hm : P.follows .mixedOrders = true) (hB : Region.lexB .any l.toArray = true)
    (h : wpQuiet P l.toArray (fun w' => ∃ V : Abv w, w' = V.1) (fun a' => ∀ w', (∃ V : Abv w, w' = V.1) → Q .normal a' w') l a) : (Code.region id l.toArray true).wp P Q a w :=
  wp_region_quiet (C := fun w' => ∃ V : Abv w, w' = V.1) hm hB ⟨⟨w.drew, (Below.refl _ w).drew⟩, rfl⟩ (by simpa using h)
/-- What a callee leaves is such a world again. -/
theorem calm_of {P : Program} {f : FuncId} {args : Array Value} {w : World} {V : Abv w} {v : Value} (h : Calls P f args V.1 fun e w' => e = .returned v ∧ Below V.1.heap.size V.1 w') :
    Calls P f args V.1 fun e w'' => e = .returned v ∧ ∃ V' : Abv w, w'' = V'.1 :=
  h.mono fun _ w' ⟨he, hb⟩ => ⟨he, ⟨w', V.2.trans (hb.mono V.2.size)⟩, rfl⟩
theorem calm_same {P : Program} {f : FuncId} {args : Array Value} {w : World} {V : Abv w} {v : Value} (h : Calls P f args V.1 fun e w' => e = .returned v ∧ V.1 = w') :
    Calls P f args V.1 fun e w'' => e = .returned v ∧ ∃ V' : Abv w, w'' = V'.1 :=
  h.mono fun _ _ ⟨he, hb⟩ => ⟨he, V, hb.symm⟩
theorem Abv.cell {w : World} {g i : Nat} {u : Value} (h : w.cell? ⟨g, i, none⟩ = some u) (V : Abv w) : V.1.cell? ⟨g, i, none⟩ = some u := by
  have hg : g < w.heap.size := by
    by_cases hlt : g < w.heap.size
    · exact hlt
    · simp [World.cell?, Array.getElem?_eq_none (Nat.le_of_not_lt hlt)] at h
  exact (V.2.cell (p := ⟨g, i, none⟩) hg).trans h
end Lx
end Go.Proofs.Ytlamjjkcbadibaa
namespace Go.Proofs.Ytlamjjkcbadibaa
open Go.RowKit
namespace Lx
set_option maxRecDepth 100000
end Lx
end Go.Proofs.Ytlamjjkcbadibaa
namespace Go.Proofs.Ytlamjjkcbadibaa
open Go.RowKit
namespace Lx
set_option maxRecDepth 100000
theorem n1_most (k l : Int) : n1 k l = (!decide (0 ≤ k ∧ k < 14) || (decide (l < 0) || decide ((if k = 0 ∨ k = 1 then (0 : Int) else 60) < l))) := by
  rw [Bool.eq_iff_iff]
  simp only [n1, Bool.or_eq_true, Bool.not_eq_true', decide_eq_true_eq, decide_eq_false_iff_not]
  split <;> omega
theorem n3_is (k n : Int) (s : ByteArray) : n3 k n s = ((!decide (s = ⟨#[]⟩)) != hasNameK k || (!(n == 0) && !hasNumK k)) := by
  rw [Bool.eq_iff_iff]
  simp [n3]
theorem end9 (al : List (ByteArray × Int)) (tp : List (Int × Int)) : (decide (1 ≤ al.length ∧ al.length ≤ 8) && altsFrom [] al) = (!n5 9 al.length tp.length && altsFrom [] al) := by
  congr 1
  grind [n5]
theorem end8 (tp : List (Int × Int)) (h : decide (1 ≤ (tp.length : Int)) = true) : decide ((tp.length : Int) ≤ 9) = (!n5 8 0 tp.length && altsFrom [] []) := by
  have := of_decide_eq_true h
  grind [n5, altsFrom]
theorem end8f (al : List (ByteArray × Int)) (tp : List (Int × Int)) (h : decide (1 ≤ (tp.length : Int)) = false) : false = (!n5 8 al.length tp.length && altsFrom [] al) := by
  have := of_decide_eq_false h
  have h1 : n5 8 al.length tp.length = true := by
    grind [n5]
  rw [h1]
  rfl
theorem end8a (al : List (ByteArray × Int)) (tp : List (Int × Int)) (h : ¬ al.length = 0) : false = (!n5 8 al.length tp.length && altsFrom [] al) := by
  have h1 : n5 8 al.length tp.length = true := by
    grind [n5]
  rw [h1]
  rfl
theorem endk (k : Int) (al : List (ByteArray × Int)) (tp : List (Int × Int)) (h8 : ¬ k = 8) (h9 : ¬ k = 9) : ((al.length : Int) == 0) = (!n5 k al.length tp.length && altsFrom [] al) := by
  cases al with
  | nil =>
    have h1 : n5 k 0 tp.length = false := by
      grind [n5]
    simp only [List.length_nil]
    rw [h1]
    rfl
  | cons a r =>
    have h1 : n5 k (a :: r).length tp.length = true := by
      grind [n5]
    rw [h1]
    simp
    omega
end Lx
end Go.Proofs.Ytlamjjkcbadibaa
namespace Go.Proofs.Ytlamjjkcbadibaa
open Go.RowKit
namespace Lx
set_option maxRecDepth 100000
/-- Node i of a row, as it lies. -/
theorem NdsIn.get {w : World} {X : Nat → Prop} {l : List Nd} {A : Option Addr} (h : NdsIn w X l A) (i : Nat) (hi : i < l.length) : ∃ (g o : Nat) (x : Nd) (B : Option Addr) (b : Nat) (C : Option Addr) (c : Nat), x = ndAt l i ∧ A = some ⟨g, o, none⟩ ∧ X g ∧
    (w.cell? ⟨g, o + i * 6, none⟩ = some (.int .i64 x.kind) ∧ w.cell? ⟨g, o + i * 6 + 1, none⟩ = some (.int .i64 x.level) ∧ w.cell? ⟨g, o + i * 6 + 2, none⟩ = some (.int .i64 x.n) ∧
    w.cell? ⟨g, o + i * 6 + 3, none⟩ = some (.string x.name) ∧ w.cell? ⟨g, o + i * 6 + 4, none⟩ = some (.slice B x.alts.length (capN x.alts.length b)) ∧
    w.cell? ⟨g, o + i * 6 + 5, none⟩ = some (.slice C x.to.length (capN x.to.length c))) ∧ NdIn w X x B C := by
  obtain ⟨g, o, B, b, C, c, ⟨e, hX⟩, h6, hn⟩ := h i hi
  exact ⟨g, o, l[i]'hi, B, b, C, c, (ndAt_lt hi).symm, e, hX, h6, hn⟩
end Lx
end Go.Proofs.Ytlamjjkcbadibaa
namespace Go.Proofs.Ytlamjjkcbadibaa
open Go.RowKit
namespace Lx
set_option maxRecDepth 100000
end Lx
end Go.Proofs.Ytlamjjkcbadibaa
namespace Go.Proofs.Ytlamjjkcbadibaa
open Go.RowKit
namespace Lx
set_option maxRecDepth 100000
theorem toAt_get {l : List Nd} {i k : Nat} (hk : k < (ndAt l i).to.length) : toAt l ((i : Int), (k : Int)) = (ndAt l i).to[k]'hk := by
  simp [toAt, hk]
end Lx
end Go.Proofs.Ytlamjjkcbadibaa
namespace Go.Proofs.Ytlamjjkcbadibaa
open Go.RowKit
namespace Lx
set_option maxRecDepth 100000
theorem ndUsed (l : List Nd) (i : Nat) (h : i < l.length) : usedV (l.take (i + 1)) = usedV (l.take i) + (if (ndAt l i).kind = 0 then 0 else 1) := by
  rw [usedV_take l i h, ndAt_lt h]
end Lx
end Go.Proofs.Ytlamjjkcbadibaa
namespace Go.Proofs.Ytlamjjkcbadibaa
open Go.RowKit
namespace Lx
set_option maxRecDepth 100000
/-- The first free place as a number, -1 where there is none. -/
def freeI (l : List Nd) : Int := match freeAt l with
  | some i => i
  | none => -1
theorem six_cells {w : World} {g : Nat} {t : TypeId} {a b c d e f : Value} (h : Lies w g t #[a, b, c, d, e, f]) :
    w.cell? ⟨g, 0, none⟩ = some a ∧ w.cell? ⟨g, 1, none⟩ = some b ∧ w.cell? ⟨g, 2, none⟩ = some c ∧ w.cell? ⟨g, 3, none⟩ = some d ∧ w.cell? ⟨g, 4, none⟩ = some e ∧ w.cell? ⟨g, 5, none⟩ = some f :=
  ⟨h.cell 0, h.cell 1, h.cell 2, h.cell 3, h.cell 4, h.cell 5⟩
/-- A net may be, or not. -/
def checkI (l : List Nd) (cap : Int) : Int := if checkV l cap = true then 0 else 120
theorem checkI_no {l : List Nd} {cap : Int} (h : ¬ (1 ≤ cap ∧ cap ≤ 4000 ∧ 1 ≤ l.length ∧ (l.length : Int) ≤ cap ∧ (ndAt l (l.length - 1)).kind ≠ 0 ∧ ∀ i, i < l.length → atOk l i = true)) : (120 : Int) = checkI l cap := by
  rw [checkI, if_neg]
  rw [checkV, decide_eq_true_eq]
  exact h
end Lx
end Go.Proofs.Ytlamjjkcbadibaa
namespace Go.Proofs.Ytlamjjkcbadibaa
open Go.RowKit
namespace Lx
set_option maxRecDepth 100000
end Lx
end Go.Proofs.Ytlamjjkcbadibaa
