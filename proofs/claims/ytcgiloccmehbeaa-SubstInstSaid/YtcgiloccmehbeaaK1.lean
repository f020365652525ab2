/-
  Texts that lie one behind the other: Plain Leaf Shelf Words Tok Sign Scan Toks Rec All Rows4 Again.
-/
import Derived.Test.YtcgiloccmehbeaaProg
import Derived.Lib.Strings
import Derived.WalkKit
import Derived.BigCall
import Derived.WalkLawsBesides
import Derived.Below
import Derived.Lib.Hide
import Derived.Lib.OthersKept
import Derived.Shelf.Abstract
import Derived.Shelf.LaysM
import Derived.Shelf.Strconv.Clone
import Derived.Shelf.Strings.Prefix
import Derived.Laws.OwnMore
import Derived.Laws.Rows
import Derived.Deep.Draws
import Derived.Lib.IndexBytes
import Derived.OwnWalk
import Derived.Recover
import Derived.Defers
import Derived.Tactics
import Derived.Calls
import Derived.RegionTactic
import Derived.BigRegion
import Derived.Lib.SmallJoins
import Derived.Laws.StructEq
import Derived.BigQuiet
import Derived.Deep.QuietTactic
namespace Go.Proofs.Ytcgiloccmehbeaa
namespace Lx
set_option maxRecDepth 100000

def lowR (r : Int) : Bool := decide (97 ≤ r) && decide (r ≤ 122)
def upR (r : Int) : Bool := decide (65 ≤ r) && decide (r ≤ 90)
def digR (r : Int) : Bool := decide (48 ≤ r) && decide (r ≤ 57)
def blkR (r : Int) : Bool := (r == 32 || r == 10) || r == 9
def ldR (r : Int) : Bool := lowR r || (upR r || digR r)

/-- How many bytes at the beginning fit. -/
def run (P : Int → Bool) : List UInt8 → Nat
  | [] => 0
  | c :: r => if P (c.toNat : Int) then run P r + 1 else 0

theorem run_le (P : Int → Bool) : ∀ l : List UInt8, run P l ≤ l.length
  | [] => by simp [run]
  | c :: r => by
    have := run_le P r
    by_cases h : P (c.toNat : Int) <;> simp [run, h]; omega

theorem run_drop (P : Int → Bool) (l : List UInt8) (k : Nat) (h : k < l.length) : run P (l.drop k) = if P ((l[k]'h).toNat : Int) then run P (l.drop (k + 1)) + 1 else 0 := by
  rw [List.drop_eq_getElem_cons h, run]
theorem run_nil (P : Int → Bool) (l : List UInt8) (k : Nat) (h : l.length ≤ k) : run P (l.drop k) = 0 := by
  rw [List.drop_eq_nil_of_le h, run]

/-- The number of a text of digits. -/
def numV (l : List UInt8) : Int := l.foldl (fun n c => n * 10 + ((c.toNat : Int) - 48)) 0
theorem numV_nil : numV [] = 0 := rfl
theorem numV_snoc (l : List UInt8) (c : UInt8) : numV (l ++ [c]) = numV l * 10 + ((c.toNat : Int) - 48) := by
  simp [numV, List.foldl_append]
theorem dig_of (P : Int → Bool) : ∀ (l : List UInt8), run P l = l.length → ∀ c ∈ l, P (c.toNat : Int) = true
  | [], _, c, hc => by simp at hc
  | d :: r, h, c, hc => by
    cases hd : P (d.toNat : Int)
    · simp [run, hd] at h
    · simp only [run, hd, if_true, List.length_cons] at h
      rcases List.mem_cons.1 hc with rfl | hc
      · exact hd
      · exact dig_of P r (by omega) c hc
theorem numV_bd : ∀ (k : Nat) (l : List UInt8), l.length = k → (∀ c ∈ l, digR (c.toNat : Int) = true) → 0 ≤ numV l ∧ numV l < 10 ^ k := by
  intro k
  induction k with
  | zero => intro l hl _; have : l = [] := List.eq_nil_of_length_eq_zero hl; subst this; simp [numV]
  | succ k ih =>
    intro l hl h
    have hne : l ≠ [] := by intro e; subst e; simp at hl
    have e := (List.dropLast_concat_getLast hne).symm
    have hc := h (l.getLast hne) (List.getLast_mem hne)
    obtain ⟨a, b⟩ := ih l.dropLast (by simp; omega) (fun c hc => h c (List.dropLast_subset _ hc))
    rw [e, numV_snoc]
    simp only [digR, Bool.and_eq_true, decide_eq_true_eq] at hc
    rw [Int.pow_succ]
    omega
theorem pow_le17 (k : Nat) (h : k < 18) : (10 : Int) ^ k ≤ 100000000000000000 := by
  have : ∀ j : Fin 18, (10 : Int) ^ j.val ≤ 100000000000000000 := by decide
  exact this ⟨k, h⟩
theorem take_snoc (l : List UInt8) (k : Nat) (h : k < l.length) : l.take (k + 1) = l.take k ++ [l[k]'h] := by
  rw [List.take_succ_eq_append_getElem h]

/-- The words that are no names. -/
def wordS (l : List UInt8) : Bool := l == [108, 101, 116] || (l == [108, 101, 116, 114, 101, 99] || (l == [105, 110] || (l == [99, 97, 115, 101] || l == [111, 102])))
/-- A text of letters and digits: its kind and its number, or its error. -/
def numK (l : List UInt8) : Except Int (Int × Int) :=
  if run digR l < l.length then .error 10 else if 18 < l.length ∨ (1 < l.length ∧ l.head? = some 48) then .error 11 else .ok (3, numV l)
def runK (l : List UInt8) : Except Int (Int × Int) :=
  if 0 < run digR l then numK l else if 16 < l.length then .error 11 else if wordS l = true then .ok (4, 0) else if 0 < run lowR l then .ok (1, 0) else .ok (2, 0)

/-- The signs, in the program's order. -/
def signsS : List (List UInt8) := [[45, 62], [61, 61], [92], [46], [40], [41], [61], [123], [125], [124], [43], [45], [42], [47], [60]]
def signOf (l : List UInt8) : Option (List UInt8) := signsS.find? fun g => Lib.hasPrefix l g
theorem find_first {α : Type} (p : α → Bool) (d : α) : ∀ (L : List α) (m : Nat), m < L.length → (∀ j, j < m → p (L.getD j d) = false) → p (L.getD m d) = true → L.find? p = some (L.getD m d)
  | [], m, h, _, _ => by simp at h
  | a :: L, 0, _, _, h => by
    have h1 : p a = true := by simpa using h
    rw [List.find?_cons_of_pos h1]
    rfl
  | a :: L, m + 1, hm, hf, h => by
    have h0 : p a = false := by simpa using hf 0 (by omega)
    rw [List.find?_cons_of_neg (by simp [h0])]
    have := find_first p d L m (by simpa using hm) (fun j hj => by simpa using hf (j + 1) (by omega)) (by simpa using h)
    simpa using this
theorem find_none {α : Type} (p : α → Bool) (d : α) : ∀ (L : List α), (∀ j, j < L.length → p (L.getD j d) = false) → L.find? p = none
  | [], _ => rfl
  | a :: L, hf => by
    have h0 : p a = false := by simpa using hf 0 (by simp)
    rw [List.find?_cons_of_neg (by simp [h0])]
    exact find_none p d L (fun j hj => by simpa using hf (j + 1) (by simpa using hj))
/-- The token at the beginning of a text that begins with no blank: its kind, its number, its text; or its error. -/
def tokK (l : List UInt8) : Except Int (Int × Int × List UInt8) :=
  if 0 < run ldR l then
    match runK (l.take (run ldR l)) with
    | .ok (k, n) => .ok (k, n, l.take (run ldR l))
    | .error e => .error e
  else
    match signOf l with
    | some g => .ok (5, 0, g)
    | none => .error 10

end Lx
end Go.Proofs.Ytcgiloccmehbeaa
namespace Go.Proofs.Ytcgiloccmehbeaa
open Go.RowKit
namespace Lx
set_option maxRecDepth 100000
theorem ret_bool {a b : Bool} (h : a = b) : Ending.returned (.bool a) = .returned (.bool b) := by rw [h]
theorem ret_int {k : IntKind} {a b : Int} (h : a = b) : Ending.returned (.int k a) = .returned (.int k b) := by rw [h]

theorem decode_big (s : ByteArray) (pos : Nat) (h : pos < s.size) (hh : 128 ≤ (s[pos]'h).toNat) : 128 ≤ ((Utf8.decode s pos).1 : Int) := by
  have := (decode_high s pos h hh).1
  omega

end Lx
end Go.Proofs.Ytcgiloccmehbeaa
namespace Go.Proofs
open Go.Shelf
def Try.laysM316_ren : Go.Shelf.Ren := ⟨fun | 316 => 41 | n => n, fun | 9 => 9 | 3 => 3 | 4 => 4 | 37 => 56 | 0 => 0 | 127 => 58 | 5 => 5 | n => n, fun | n => n⟩
theorem Try.laysM316 : Go.Proofs.LaysM.n316 Try.prog Try.laysM316_ren := {
  mixed := by kernel_rfl
  f316 := Try.func41.trans (congrArg some (by kernel_rfl))
  t0 := Try.underlying0
  a0 := Try.isAgg0
  z0 := Try.sizeOf0
  v0 := Try.zeroValue0
  t3 := Try.underlying3
  a3 := Try.isAgg3
  z3 := Try.sizeOf3
  v3 := Try.zeroValue3
  t4 := Try.underlying4
  a4 := Try.isAgg4
  z4 := Try.sizeOf4
  v4 := Try.zeroValue4
  t9 := Try.underlying9
  a9 := Try.isAgg9
  z9 := Try.sizeOf9
  v9 := Try.zeroValue9
  t37 := Try.underlying56
  a37 := Try.isAgg56
  z37 := Try.sizeOf56
  v37 := Try.zeroValue56
  t127 := Try.underlying58
  a127 := Try.isAgg58
  z127 := Try.sizeOf58
  v127 := Try.zeroValue58
  t5 := Try.underlying5
  a5 := Try.isAgg5
  z5 := Try.sizeOf5
  v5 := Try.zeroValue5
  i0 := by kernel_rfl
  i3 := by kernel_rfl
  i4 := by kernel_rfl
  i5 := by kernel_rfl
  i9 := by kernel_rfl
  i37 := by kernel_rfl
  i127 := by kernel_rfl }
open Go.RowKit in
theorem Try.stringslite_Clone (s : ByteArray) (w : World) (hlim : s.size ≤ 281474976710656) :
    Calls Try.prog 41 #[.string s] w fun e w' => e = .returned (.string s) ∧ Below w.heap.size w w' := Any.stringslite_Clone Try.laysM316 s w hlim
end Go.Proofs
namespace Go.Proofs.Ytcgiloccmehbeaa
open Go.RowKit
namespace Lx
set_option maxRecDepth 100000

/-- Block g holds just the cells cs, of element type t, and none of them is frozen. -/
def Lies (w : World) (g : Nat) (t : TypeId) (cs : Array Value) : Prop := w.heap[g]? = some (.cells cs t (0, 0))

section
variable {w w' : World} {g : Nat} {t : TypeId} {cs : Array Value}
theorem Lies.lt (h : Lies w g t cs) : g < w.heap.size := by
  by_cases hlt : g < w.heap.size
  · exact hlt
  · unfold Lies at h
    rw [Array.getElem?_eq_none (by omega)] at h
    cases h
theorem Lies.cell (h : Lies w g t cs) (i : Nat) : w.cell? ⟨g, i, none⟩ = cs[i]? := cell_of_row w g i cs t (0, 0) h
theorem Lies.frozen (h : Lies w g t cs) (i : Nat) : w.frozen? ⟨g, i, none⟩ = false := by
  unfold Lies at h
  simp [World.frozen?, h]
theorem Lies.new (w : World) (t : TypeId) (cs : Array Value) : Lies (w.alloc (.cells cs t)) w.heap.size t cs := by
  show (w.heap.push _)[w.heap.size]? = _
  simp
theorem Lies.old (h : Lies w g t cs) (o : Obj) : Lies (w.alloc o) g t cs := (Below.heap_alloc w o g h.lt).trans h
theorem Lies.drew (h : Lies w g t cs) : Lies w.drew g t cs := h
theorem Lies.drewN (h : Lies w g t cs) (n : Nat) : Lies (w.drewN n) g t cs := h
theorem Lies.below {B : Nat} (h : Lies w g t cs) (hb : Below B w w') (hg : g < B) : Lies w' g t cs := (hb.block g hg).trans h
theorem Lies.put (h : Lies w g t cs) (i : Nat) (u : Value) : Lies (w.setCell ⟨g, i, none⟩ u) g t (cs.setIfInBounds i u) := by
  unfold Lies at h ⊢
  simp [World.setCell, Array.getElem?_modify, h]
theorem Lies.far (h : Lies w g t cs) {p : Addr} (hp : g ≠ p.block) (u : Value) : Lies (w.setCell p u) g t cs := (Below.heap_setCell w p u g hp).trans h
theorem Lies.four {a b c d : Value} (h : Lies w g t #[a, b, c, d]) :
    (w.cell? ⟨g, 0, none⟩ = some a ∧ w.cell? ⟨g, 1, none⟩ = some b ∧ w.cell? ⟨g, 2, none⟩ = some c ∧ w.cell? ⟨g, 3, none⟩ = some d) ∧
    w.frozen? ⟨g, 0, none⟩ = false ∧ w.frozen? ⟨g, 1, none⟩ = false ∧ w.frozen? ⟨g, 2, none⟩ = false ∧ w.frozen? ⟨g, 3, none⟩ = false :=
  ⟨⟨h.cell 0, h.cell 1, h.cell 2, h.cell 3⟩, h.frozen 0, h.frozen 1, h.frozen 2, h.frozen 3⟩
end
end Lx
end Go.Proofs.Ytcgiloccmehbeaa
namespace Go.Proofs.Ytcgiloccmehbeaa
open Go.RowKit
namespace Lx
set_option maxRecDepth 100000
/-- A result that lies in a block of four cells, of type 33. -/
theorem res_tok {fn : Func} {p : Tmp} (h : fn.results = #[.cell p 60]) {tmps : Array Value} {g : Nat} {a b c d : Value} {w : World} (hp : tmps.getD p undef = .pointer (some ⟨g, 0, none⟩)) (L : Lies w g 60 #[a, b, c, d]) :
    (results fn tmps).run Try.prog w = .ok (.agg #[a, b, c, d]) w := by
  have hl := run_loadVar_row (P := Try.prog) w g 60 60 #[a, b, c, d] (0, 0) _ L Try.underlying60 rfl (by kernel_rfl)
  have hp' : tmps[p]?.getD undef = .pointer (some ⟨g, 0, none⟩) := by simpa using hp
  simp only [results, h]
  simp [hp', asAddr, hl]
theorem Lies.all {w : World} {g : Nat} {t : TypeId} {a b c d : Value} (h : Lies w g t #[a, b, c, d]) (x y z u : Value) : Lies ((((w.setCell ⟨g, 0, none⟩ x).setCell ⟨g, 1, none⟩ y).setCell ⟨g, 2, none⟩ z).setCell ⟨g, 3, none⟩ u) g t #[x, y, z, u] := by
  simpa using (((h.put 0 x).put 1 y).put 2 z).put 3 u
theorem Below.all {B : Nat} {a w : World} (h : Below B a w) {g : Nat} (hg : B ≤ g) (x y z u : Value) : Below B a ((((w.setCell ⟨g, 0, none⟩ x).setCell ⟨g, 1, none⟩ y).setCell ⟨g, 2, none⟩ z).setCell ⟨g, 3, none⟩ u) :=
  (((h.setCell (p := ⟨g, 0, none⟩) hg x).setCell (p := ⟨g, 1, none⟩) hg y).setCell (p := ⟨g, 2, none⟩) hg z).setCell (p := ⟨g, 3, none⟩) hg u

theorem clone_any (s : ByteArray) (w : World) (hs : s.size ≤ 281474976710656) : Calls Try.prog 38 #[.string s] w fun e w' => e = .returned (.string s) ∧ Below w.heap.size w w' := by
  go_enter Try.func38, Try.ntmps38
  go_wp2_with fail
  refine (Try.stringslite_Clone s _ hs).mono ?_
  rintro e w1 ⟨rfl, hb1⟩
  go_wp2_with fail
  go_ret
  exact ⟨rfl, hb1⟩

theorem data_list (s : ByteArray) : s.toList = s.data.toList := by
  have := Lib.extract_toList s 0 s.size
  rw [ByteArray.extract_zero_size] at this
  rw [this]
  exact List.take_of_length_le (by show s.data.toList.length ≤ s.size; rw [Lib.size_eq]; exact Nat.le_refl _)
theorem below_ac {w w1 : World} {o : Obj} (hb : Below (w.alloc o).heap.size (w.alloc o) w1) : Below w.heap.size w w1 :=
  ((Below.refl _ w).alloc (Nat.le_refl _) _).trans (hb.mono (by simp))
theorem head_eq (s : ByteArray) (h : 0 < s.size) : s.data.toList.head? = some (s[0]'h) := by
  obtain ⟨⟨l⟩⟩ := s
  cases l with
  | nil => simp [ByteArray.size] at h
  | cons a r => rfl
theorem b48 (c : UInt8) : ((c.toNat : Int) == 48) = decide (c = 48) := by
  rw [Bool.eq_iff_iff]
  simp only [beq_iff_eq, decide_eq_true_eq]
  constructor
  · intro h; apply UInt8.toNat_inj.1; simp; omega
  · rintro rfl; rfl

end Lx
end Go.Proofs.Ytcgiloccmehbeaa
namespace Go.Proofs.Ytcgiloccmehbeaa
open Go.RowKit
namespace Lx
set_option maxRecDepth 100000
/-- The cells of the package's table of signs. -/
def signCells : Array Value := (signsS.map fun g => Value.string ⟨g.toArray⟩).toArray
/-- The table of signs, in its variable. -/
def Signs (w : World) : Prop := ∃ t fr, w.heap[0]? = some (.cells signCells t fr)
theorem Signs.pos {w : World} (h : Signs w) : 0 < w.heap.size := by
  obtain ⟨t, fr, h⟩ := h
  exact (Array.getElem?_eq_some_iff.1 h).1
theorem Signs.below {w w' : World} {B : Nat} (h : Signs w) (hb : Below B w w') (hB : 0 < B) : Signs w' := by
  obtain ⟨t, fr, h⟩ := h
  exact ⟨t, fr, (hb.block 0 hB).trans h⟩
theorem toBytes (s : ByteArray) : (⟨s.data.toList.toArray⟩ : ByteArray) = s := by
  cases s; simp
theorem cut_twice (s : ByteArray) (k n : Nat) : ((s.extract k s.size).extract 0 n).data.toList = (s.data.toList.drop k).take n := by
  rw [Lib.extract_data, Lib.extract_to_end]
  simp
theorem cut_eq (s : ByteArray) (k n : Nat) : (s.extract k s.size).extract 0 n = ⟨((s.data.toList.drop k).take n).toArray⟩ := by
  rw [← cut_twice, toBytes]

end Lx
end Go.Proofs.Ytcgiloccmehbeaa
namespace Go.Proofs.Ytcgiloccmehbeaa
namespace Lx
set_option maxRecDepth 100000
structure Tok where
  kind : Int
  text : List UInt8
  n : Int
  place : Int
deriving DecidableEq
def Tok.cells (t : Tok) : List Value := [.int .i64 t.kind, .string ⟨t.text.toArray⟩, .int .i64 t.n, .int .i64 t.place]
def cellsOf (l : List Tok) : List Value := l.flatMap Tok.cells
theorem cellsOf_length (l : List Tok) : (cellsOf l).length = l.length * 4 := by
  induction l with
  | nil => rfl
  | cons a r ih => simp only [cellsOf, List.flatMap_cons, List.length_append, List.length_cons] at ih ⊢; rw [ih]; simp [Tok.cells]; omega
theorem cellsOf_snoc (l : List Tok) (t : Tok) : cellsOf (l ++ [t]) = cellsOf l ++ t.cells := by
  simp [cellsOf, List.flatMap_append]

/-- The tokens from a place on, the text standing at no blank. -/
def scan : Nat → List UInt8 → Nat → Except (Int × Int) (List Tok)
  | 0, _, _ => .ok []
  | f + 1, l, k =>
    if l = [] then .ok [] else
    match tokK l with
    | .error e => .error (k, e)
    | .ok (kd, n, t) =>
      match scan f ((l.drop t.length).drop (run blkR (l.drop t.length))) (k + t.length + run blkR (l.drop t.length)) with
      | .error e => .error e
      | .ok r => .ok (⟨kd, t, n, k⟩ :: r)
def allK (l : List UInt8) : Except (Int × Int) (List Tok) := scan (l.length + 1) (l.drop (run blkR l)) (run blkR l)
def glue (acc : List Tok) : Except (Int × Int) (List Tok) → Except (Int × Int) (List Tok)
  | .ok r => .ok (acc ++ r)
  | .error e => .error e

theorem scan_end (f k : Nat) : scan f [] k = .ok [] := by
  cases f <;> simp [scan]
theorem scan_bad {f k : Nat} {l : List UInt8} {e : Int} (hl : l ≠ []) (h : tokK l = .error e) : scan (f + 1) l k = .error (k, e) := by
  simp [scan, hl, h]
theorem scan_good {f k : Nat} {l t : List UInt8} {kd n : Int} (acc : List Tok) (hl : l ≠ []) (h : tokK l = .ok (kd, n, t)) :
    glue acc (scan (f + 1) l k) = glue (acc ++ [⟨kd, t, n, k⟩]) (scan f ((l.drop t.length).drop (run blkR (l.drop t.length))) (k + t.length + run blkR (l.drop t.length))) := by
  simp only [scan, hl, if_false, h]
  cases scan f ((l.drop t.length).drop (run blkR (l.drop t.length))) (k + t.length + run blkR (l.drop t.length)) <;> simp [glue]

theorem signs_pos : ∀ g ∈ signsS, 0 < g.length := by decide
/-- A token's text is what stands there, and it is not empty. -/
theorem tok_text {l t : List UInt8} {kd n : Int} (h : tokK l = .ok (kd, n, t)) : 0 < t.length ∧ t.length ≤ l.length ∧ l.take t.length = t := by
  unfold tokK at h
  have hr := run_le ldR l
  split at h
  · rename_i h0
    split at h
    · simp only [Except.ok.injEq, Prod.mk.injEq] at h
      obtain ⟨_, _, rfl⟩ := h
      simp only [List.length_take]
      refine ⟨by omega, by omega, by congr 1; omega⟩
    · cases h
  · split at h
    · rename_i g h1
      simp only [Except.ok.injEq, Prod.mk.injEq] at h
      obtain ⟨_, _, rfl⟩ := h
      have hp := List.find?_some h1
      have hm := signs_pos _ (List.mem_of_find?_eq_some h1)
      have hpre : g <+: l := List.isPrefixOf_iff_prefix.1 hp
      exact ⟨hm, hpre.length_le, (List.prefix_iff_eq_take.1 hpre).symm⟩
    · cases h
theorem scan_step {l : List UInt8} {acc : List Tok} {k f : Nat} {kd n : Int} {t : List UInt8} (hlt : k < l.length) (hf : l.length < k + (f + 1)) (ha : acc.length ≤ k) (h : tokK (l.drop k) = .ok (kd, n, t))
    (hs : allK l = glue acc (scan (f + 1) (l.drop k) k)) :
    k + t.length ≤ l.length ∧ k + t.length + run blkR (l.drop (k + t.length)) ≤ l.length ∧ l.length < k + t.length + run blkR (l.drop (k + t.length)) + f ∧
      (acc ++ [(⟨kd, t, n, k⟩ : Tok)]).length ≤ k + t.length + run blkR (l.drop (k + t.length)) ∧
      allK l = glue (acc ++ [⟨kd, t, n, k⟩]) (scan f (l.drop (k + t.length + run blkR (l.drop (k + t.length)))) (k + t.length + run blkR (l.drop (k + t.length)))) := by
  obtain ⟨h1, h2, _⟩ := tok_text h
  have hr := run_le blkR (l.drop (k + t.length))
  simp only [List.length_drop] at h2 hr
  refine ⟨by omega, by omega, by omega, by simp; omega, ?_⟩
  rw [hs, scan_good acc (by intro e; have := congrArg List.length e; simp at this; omega) h]
  simp only [List.drop_drop, Nat.add_assoc]
end Lx
end Go.Proofs.Ytcgiloccmehbeaa
namespace Go.Proofs.Ytcgiloccmehbeaa
open Go.RowKit
namespace Lx
set_option maxRecDepth 100000
theorem own_below {w w' : World} {base : Nat} {e : TypeId} {size : Nat} {v : Value} {n : Nat} {xs : List Value} {B : Nat} (h : w.ownsRow base e size v n xs) (hb : Below B w w') (hB : w.heap.size ≤ B) : w'.ownsRow base e size v n xs := by
  obtain ⟨h1, h2⟩ := h
  refine ⟨h1, ?_⟩
  rcases h2 with h2 | ⟨g, cap, cur, hv, hg, hh, r⟩
  · exact .inl h2
  · have hlt : g < w.heap.size := (Array.getElem?_eq_some_iff.1 hh).1
    exact .inr ⟨g, cap, cur, hv, hg, (hb.block g (by omega)).trans hh, r⟩
theorem Lies.grown {w w' : World} {g : Nat} {t : TypeId} {cs : Array Value} {row : Option Nat} (h : Lies w g t cs) (hb : w.grownBy w' row) (hg : some g ≠ row) : Lies w' g t cs := (hb.block g h.lt hg).trans h

theorem new_cells (w : World) (t : TypeId) (cs : List Value) (g : Nat) (hg : g = w.heap.size) : ∀ (j : Nat) (u : Value), cs[j]? = some u → (w.alloc (.cells cs.toArray t)).cell? ((⟨g, 0, none⟩ : Addr).add j) = some u := by
  intro j u hu
  subst hg
  have hadd : (⟨w.heap.size, 0, none⟩ : Addr).add j = ⟨w.heap.size, j, none⟩ := by unfold Addr.add; split <;> simp_all
  rw [hadd, (Lies.new w t cs.toArray).cell j]
  simpa using hu
theorem info33 : (Try.prog.info? 60).map (fun i => (i.zero, i.size, i.bytes)) = some (some (.agg #[.int .i64 0, .string ⟨#[]⟩, .int .i64 0, .int .i64 0]), 4, 40) := by kernel_rfl

end Lx
end Go.Proofs.Ytcgiloccmehbeaa
namespace Go.Proofs.Ytcgiloccmehbeaa
namespace Lx
set_option maxRecDepth 100000
section
variable {P : Program} {Q : Exit → Act → List Frame → World → Prop} {cs : List Frame}

theorem upon_more {o : Oper} {a : Act} {n1 n2 : Act → World → Prop} {q : Exit → Act → World → Prop} {r : Result Next} (hn : ∀ a w, n1 a w → n2 a w) (h : o.upon P a n1 q r) : o.upon P a n2 q r := by
  unfold Oper.upon at h ⊢
  split at h
  · exact hn _ _ h
  · exact hn _ _ h
  · exact hn _ _ h
  · refine Calls.mono h (fun e w hh => ?_)
    cases e with
    | returned v => exact hn _ _ hh
    | panicked c => exact hh
    | outgrown => exact hh
  · exact Rows.mono h (fun v w hh => hn _ _ hh)
  · exact h
  · exact h

theorem opsS_of_list {ops : Array Oper} (hno : ¬ LetsOut (fun e a w => Q e a cs w)) (l : List Oper) : ∀ (k : Nat) (a : Act) (w : World), (∀ j, l[j]? = ops[k + j]?) → wpList P ops (fun e a w => Q e a cs w) l a w → wpOpsS P ops Q (List.range' k l.length) a cs w := by
  induction l with
  | nil => intro k a w _ h; simpa [wpOpsS, wpList] using h
  | cons o l ih =>
    intro k a w hk h
    have h0 : ops[k]? = some o := by simpa using (hk 0).symm
    have ih' := fun a w => ih (k + 1) a w (fun j => by have := hk (j + 1); simpa [Nat.add_assoc, Nat.add_comm 1 j] using this)
    simp only [List.length_cons, List.range'_succ, wpOpsS, h0]
    unfold wpList at h
    split at h
    · rename_i hw
      rw [if_pos hw]
      rcases h with h | h
      · have h2 := upon_more (n2 := fun a' w' => wpOpsS P ops Q (List.range' (k + 1) l.length) a' cs w') ih' h
        split
        · rename_i w' hr
          rw [hr] at h2
          exact h2.elim
        · exact h2
      · exact absurd h.2 hno
    · rename_i hw
      rw [if_neg hw]
      exact ih' _ _ h

theorem opsS_recover {ops : Array Oper} {i : Nat} {rest : List Nat} {o : Oper} {a : Act} {w w' : World} {v : Value} {cs' : List Frame} (ho : ops[i]? = some o) (hg : o.guard = none)
    (hr : (execOp a.eval o).run P w = .ok .recover w') (hc : recoverD cs = some (v, cs')) (h : wpOpsS P ops Q rest (a.put o.dst v) cs' w') : wpOpsS P ops Q (i :: rest) a cs w := by
  have hw : Region.wanted o (yielded ops a.tmps) = true := by simp [Region.wanted, hg]
  simp only [wpOpsS, ho, hw, if_true, hr, hc]
  exact h
theorem opsS_recover_nil {ops : Array Oper} {i : Nat} {rest : List Nat} {o : Oper} {a : Act} {w w' : World} (ho : ops[i]? = some o) (hg : o.guard = none)
    (hr : (execOp a.eval o).run P w = .ok .recover w') (hc : recoverD cs = none) (h : wpOpsS P ops Q rest (a.put o.dst .nilIface) cs w') : wpOpsS P ops Q (i :: rest) a cs w := by
  have hw : Region.wanted o (yielded ops a.tmps) = true := by simp [Region.wanted, hg]
  simp only [wpOpsS, ho, hw, if_true, hr, hc]
  exact h
theorem region_recover {id : Nat} {ops : Array Oper} {o : Oper} {l : List Oper} {a : Act} {w w' : World} {v : Value} {cs' : List Frame} (hops : ops.toList = o :: l) (hg : o.guard = none)
    (hr : (execOp a.eval o).run P w = .ok .recover w') (hc : recoverD cs = some (v, cs')) (hno : ¬ LetsOut (fun e a w => Q e a cs' w)) (h : wpList P ops (fun e a w => Q e a cs' w) l (a.put o.dst v) w') :
    (Code.region id ops false).wpS P Q a cs w := by
  obtain ⟨L⟩ := ops
  obtain rfl : L = o :: l := hops
  refine wpS_region ?_
  rw [List.range_eq_range', show (o :: l).toArray.size = l.length + 1 from rfl, List.range'_succ]
  refine opsS_recover (by simp) hg hr hc ?_
  exact opsS_of_list hno l 1 _ _ (fun j => by simp [Nat.add_comm]) h
theorem region_recover_nil {id : Nat} {ops : Array Oper} {o : Oper} {l : List Oper} {a : Act} {w w' : World} (hops : ops.toList = o :: l) (hg : o.guard = none)
    (hr : (execOp a.eval o).run P w = .ok .recover w') (hc : recoverD cs = none) (hno : ¬ LetsOut (fun e a w => Q e a cs w)) (h : wpList P ops (fun e a w => Q e a cs w) l (a.put o.dst .nilIface) w') :
    (Code.region id ops false).wpS P Q a cs w := by
  obtain ⟨L⟩ := ops
  obtain rfl : L = o :: l := hops
  refine wpS_region ?_
  rw [List.range_eq_range', show (o :: l).toArray.size = l.length + 1 from rfl, List.range'_succ]
  refine opsS_recover_nil (by simp) hg hr hc ?_
  exact opsS_of_list hno l 1 _ _ (fun j => by simp [Nat.add_comm]) h
end
end Lx
end Go.Proofs.Ytcgiloccmehbeaa
namespace Go.Proofs.Ytcgiloccmehbeaa
open Go.RowKit
namespace Lx
set_option maxRecDepth 100000
theorem own_slice {w : World} {base : Nat} {e : TypeId} {size : Nat} {v : Value} {n : Nat} {xs : List Value} (h : w.ownsRow base e size v n xs) : ∃ A c, v = .slice A n c := by
  rcases h.2 with ⟨rfl, rfl⟩ | ⟨g, cap, cur, rfl, _⟩
  · exact ⟨_, _, rfl⟩
  · exact ⟨_, _, rfl⟩

/-- What the call owns above three result variables stays owned while these are written. -/
theorem own_stored3 {w : World} {base B : Nat} {e : TypeId} {size : Nat} {v : Value} {n : Nat} {xs : List Value} (h : w.ownsRow B e size v n xs) (_hB : B ≤ w.heap.size) (hb : base + 3 ≤ B) {x y z : Value} :
    (((w.setCell ⟨base, 0, none⟩ x).setCell ⟨base + 1, 0, none⟩ y).setCell ⟨base + 1 + 1, 0, none⟩ z).ownsRow base e size v n xs :=
  Joins.ownsRow_le (ownsRow_setCell_below (ownsRow_setCell_below (ownsRow_setCell_below h (by show base < B; omega) x) (by show base + 1 < B; omega) y) (by show base + 1 + 1 < B; omega) z) (by omega)

end Lx
end Go.Proofs.Ytcgiloccmehbeaa
namespace Go.Proofs.Ytcgiloccmehbeaa
open Go.RowKit
namespace Lx
set_option maxRecDepth 100000
/-- The slice with the address A reads as the tokens of l. -/
def Row (w : World) (A : Option Addr) (l : List Tok) : Prop :=
  l ≠ [] → ∃ g o, A = some ⟨g, o, none⟩ ∧ ∀ n u, (cellsOf l)[n]? = some u → w.cell? ⟨g, o + n, none⟩ = some u

theorem cell_lt {w : World} {g o : Nat} {u : Value} (h : w.cell? ⟨g, o, none⟩ = some u) : g < w.heap.size := by
  by_cases hlt : g < w.heap.size
  · exact hlt
  · simp [World.cell?, Array.getElem?_eq_none (Nat.le_of_not_lt hlt)] at h

theorem cellsOf_pos {l : List Tok} (h : l ≠ []) : 0 < (cellsOf l).length := by
  rw [cellsOf_length]
  have := List.length_pos_iff.2 h
  omega
theorem Row.below {w w' : World} {A : Option Addr} {l : List Tok} {B : Nat} (h : Row w A l) (hb : Below B w w') (hB : w.heap.size ≤ B) : Row w' A l := by
  intro hl
  obtain ⟨g, o, rfl, hc⟩ := h hl
  refine ⟨g, o, rfl, fun n u hu => ?_⟩
  have h1 := hc n u hu
  have := cell_lt h1
  rw [hb.cell (p := ⟨g, o + n, none⟩) (by show g < B; omega)]
  exact h1
theorem Row.of_own {w : World} {base : Nat} {A : Option Addr} {n c : Nat} {l : List Tok} (h : w.ownsRow base 60 4 (.slice A n c) n (cellsOf l)) : Row w A l := by
  intro hl
  have hp := cellsOf_pos hl
  have hn : 0 < n := by
    have := h.1
    omega
  obtain ⟨g, cap, hv⟩ := Joins.ownsRow_form h hn
  have hA : A = some ⟨g, 0, none⟩ := by injection hv
  subst hA
  refine ⟨g, 0, rfl, fun j u hu => ?_⟩
  have h1 := h.cells (g := g) rfl j u hu
  have hadd : (⟨g, 0, none⟩ : Addr).add j = ⟨g, 0 + j, none⟩ := by unfold Addr.add; split <;> simp_all
  rw [hadd] at h1
  exact h1

theorem cellsOf_at (l : List Tok) (i : Nat) (h : i < l.length) (j : Nat) (hj : j < 4) : (cellsOf l)[i * 4 + j]? = (l[i]'h).cells[j]? := by
  induction l generalizing i with
  | nil => simp at h
  | cons a r ih =>
    have hc : cellsOf (a :: r) = a.cells ++ cellsOf r := by simp [cellsOf]
    have ha : a.cells.length = 4 := rfl
    cases i with
    | zero =>
      rw [hc, List.getElem?_append_left (by omega)]
      simp
    | succ i =>
      rw [hc, List.getElem?_append_right (by omega), ha]
      have := ih i (by simpa using h)
      rw [show (i + 1) * 4 + j - 4 = i * 4 + j from by omega, this]
      simp

/-- The four cells of token i. -/
theorem Row.at_ {w : World} {A : Option Addr} {l : List Tok} (h : Row w A l) {i : Nat} (hi : i < l.length) :
    ∃ g o, A = some ⟨g, o, none⟩ ∧ w.cell? ⟨g, o + i * 4, none⟩ = some (.int .i64 (l[i]'hi).kind) ∧ w.cell? ⟨g, o + i * 4 + 1, none⟩ = some (.string ⟨(l[i]'hi).text.toArray⟩) ∧
      w.cell? ⟨g, o + i * 4 + 2, none⟩ = some (.int .i64 (l[i]'hi).n) ∧ w.cell? ⟨g, o + i * 4 + 3, none⟩ = some (.int .i64 (l[i]'hi).place) := by
  obtain ⟨g, o, rfl, hc⟩ := h (by intro e; subst e; simp at hi)
  refine ⟨g, o, rfl, hc _ _ ?_, ?_, ?_, ?_⟩
  · have := cellsOf_at l i hi 0 (by omega); simpa [Tok.cells] using this
  · have := hc (i * 4 + 1) _ ((cellsOf_at l i hi 1 (by omega)).trans rfl); simpa [Nat.add_assoc] using this
  · have := hc (i * 4 + 2) _ ((cellsOf_at l i hi 2 (by omega)).trans rfl); simpa [Nat.add_assoc] using this
  · have := hc (i * 4 + 3) _ ((cellsOf_at l i hi 3 (by omega)).trans rfl); simpa [Nat.add_assoc] using this

theorem neq_tok (t u : Tok) (w : World) : (binOp .neq 60 (.agg #[.int .i64 t.kind, .string ⟨t.text.toArray⟩, .int .i64 t.n, .int .i64 t.place]) (.agg #[.int .i64 u.kind, .string ⟨u.text.toArray⟩, .int .i64 u.n, .int .i64 u.place])).run Try.prog w = .ok (.bool (decide (t ≠ u))) w := by
  obtain ⟨k1, x1, n1, p1⟩ := t
  obtain ⟨k2, x2, n2, p2⟩ := u
  simp [go_sem]
  by_cases h1 : k1 = k2 <;> by_cases h2 : x1 = x2 <;> by_cases h3 : n1 = n2 <;> by_cases h4 : p1 = p2 <;> simp [h1, h2, h3, h4]

end Lx
end Go.Proofs.Ytcgiloccmehbeaa
namespace Go.Proofs.Ytcgiloccmehbeaa
namespace Lx
set_option maxRecDepth 100000
theorem run_app (P : Int → Bool) (r : List UInt8) (hr : run P r = 0) : ∀ t : List UInt8, (∀ c ∈ t, P (c.toNat : Int) = true) → run P (t ++ r) = t.length
  | [], _ => by simpa using hr
  | c :: t, h => by
    have h1 := run_app P r hr t (fun d hd => h d (by simp [hd]))
    have h2 := h c (by simp)
    simp [run, h1, h2]
theorem run_take_all (P : Int → Bool) : ∀ l : List UInt8, ∀ c ∈ l.take (run P l), P (c.toNat : Int) = true
  | [], c, h => by simp at h
  | a :: l, c, h => by
    by_cases ha : P (a.toNat : Int) = true
    · simp only [run, ha, if_true, List.take_succ_cons, List.mem_cons] at h
      rcases h with rfl | h
      · exact ha
      · exact run_take_all P l c h
    · simp [run, ha] at h

/-- What may stand behind a token: nothing, or a blank. -/
def Gap (r : List UInt8) : Prop := r = [] ∨ ∃ q, r = 32 :: q
theorem gap_ld {r : List UInt8} (h : Gap r) : run ldR r = 0 := by
  rcases h with rfl | ⟨q, rfl⟩ <;> rfl

theorem sign_gap {r : List UInt8} (h : Gap r) : ∀ g ∈ signsS, run ldR (g ++ r) = 0 ∧ signOf (g ++ r) = some g := by
  rcases h with rfl | ⟨q, rfl⟩
  · intro g hg
    simp only [signsS, List.mem_cons, List.not_mem_nil, or_false] at hg
    rcases hg with rfl | rfl | rfl | rfl | rfl | rfl | rfl | rfl | rfl | rfl | rfl | rfl | rfl | rfl | rfl <;> exact ⟨rfl, rfl⟩
  · intro g hg
    simp only [signsS, List.mem_cons, List.not_mem_nil, or_false] at hg
    rcases hg with rfl | rfl | rfl | rfl | rfl | rfl | rfl | rfl | rfl | rfl | rfl | rfl | rfl | rfl | rfl <;> exact ⟨rfl, rfl⟩

theorem tok_gap {l t r : List UInt8} {kd n : Int} (h : tokK l = .ok (kd, n, t)) (hr : Gap r) : tokK (t ++ r) = .ok (kd, n, t) := by
  unfold tokK at h
  split at h
  · rename_i h0
    split at h
    · rename_i k' n' h1
      simp only [Except.ok.injEq, Prod.mk.injEq] at h
      obtain ⟨rfl, rfl, rfl⟩ := h
      have hall := run_take_all ldR l
      have hrun := run_app ldR r (gap_ld hr) (l.take (run ldR l)) hall
      have hle := run_le ldR l
      have hpos : 0 < (l.take (run ldR l)).length := by rw [List.length_take]; omega
      generalize l.take (run ldR l) = t at *
      unfold tokK
      rw [hrun, if_pos hpos, List.take_left, h1]
    · cases h
  · split at h
    · rename_i g h1
      simp only [Except.ok.injEq, Prod.mk.injEq] at h
      obtain ⟨rfl, rfl, rfl⟩ := h
      obtain ⟨h2, h3⟩ := sign_gap hr g (List.mem_of_find?_eq_some h1)
      unfold tokK
      rw [h2, if_neg (by omega), h3]
    · cases h

/-- A token that was read somewhere. -/
def Good (t : Tok) : Prop := ∃ l, tokK l = .ok (t.kind, t.n, t.text)
theorem scan_all_good : ∀ (f : Nat) (l : List UInt8) (k : Nat) (ts : List Tok), scan f l k = .ok ts → ∀ t ∈ ts, Good t := by
  intro f
  induction f with
  | zero => intro l k ts h; simp [scan] at h; subst h; simp
  | succ f ih =>
    intro l k ts h
    unfold scan at h
    split at h
    · cases h; simp
    · split at h
      · cases h
      · rename_i kd n t ht
        split at h
        · cases h
        · rename_i r hr
          cases h
          intro u hu
          rcases List.mem_cons.1 hu with rfl | hu
          · exact ⟨l, ht⟩
          · exact ih _ _ _ hr u hu

/-- The tokens' texts, with one blank between any two. -/
def textS : List Tok → List UInt8
  | [] => []
  | [t] => t.text
  | t :: u :: r => t.text ++ 32 :: textS (u :: r)
theorem good_pos {t : Tok} (h : Good t) : 0 < t.text.length := by
  obtain ⟨l, h⟩ := h
  exact (tok_text h).1
theorem blk_head {c : UInt8} {l t : List UInt8} {kd n : Int} (h : tokK (c :: l) = .ok (kd, n, t)) : blkR (c.toNat : Int) = false := by
  cases hb : blkR (c.toNat : Int) with
  | false => rfl
  | true =>
    exfalso
    have hc : c = 32 ∨ c = 10 ∨ c = 9 := by
      simp only [blkR, Bool.or_eq_true, beq_iff_eq] at hb
      rcases hb with (hb | hb) | hb
      · exact .inl (UInt8.toNat_inj.1 (by simpa using Int.ofNat_inj.1 hb))
      · exact .inr (.inl (UInt8.toNat_inj.1 (by simpa using Int.ofNat_inj.1 hb)))
      · exact .inr (.inr (UInt8.toNat_inj.1 (by simpa using Int.ofNat_inj.1 hb)))
    rcases hc with rfl | rfl | rfl <;> cases h
theorem text_blk {ts : List Tok} (h : ∀ t ∈ ts, Good t) : run blkR (textS ts) = 0 := by
  have key : ∀ (t : Tok), Good t → ∀ r, run blkR (t.text ++ r) = 0 := by
    intro t ht r
    have hp := good_pos ht
    obtain ⟨l, hl⟩ := ht
    have h2 := tok_gap (r := []) hl (.inl rfl)
    rw [List.append_nil] at h2
    cases htx : t.text with
    | nil => rw [htx] at hp; simp at hp
    | cons c q =>
      rw [htx] at h2
      have := blk_head h2
      simp [run, this]
  match ts, h with
  | [], _ => rfl
  | [t], h =>
    have := key t (h t (by simp)) []
    simpa [textS] using this
  | t :: u :: r, h => exact key t (h t (by simp)) _

theorem scan_text : ∀ (ts : List Tok), (∀ t ∈ ts, Good t) → ∀ f k, ts.length ≤ f → ∃ us, scan f (textS ts) k = .ok us ∧ us.map (fun t => (t.kind, t.text, t.n)) = ts.map (fun t => (t.kind, t.text, t.n))
  | [], _, f, k, _ => ⟨[], scan_end f k, rfl⟩
  | [t], h, f, k, hf => by
    obtain ⟨f, rfl⟩ : ∃ g, f = g + 1 := ⟨f - 1, by simp at hf; omega⟩
    have hp := good_pos (h t (by simp))
    obtain ⟨l, hl⟩ := h t (by simp)
    have h2 := tok_gap (r := []) hl (.inl rfl)
    rw [List.append_nil] at h2
    have hne : t.text ≠ [] := by intro e; rw [e] at hp; simp at hp
    refine ⟨[⟨t.kind, t.text, t.n, k⟩], ?_, rfl⟩
    simp [textS, scan, hne, h2, run, scan_end]
  | t :: u :: r, h, f, k, hf => by
    obtain ⟨f, rfl⟩ : ∃ g, f = g + 1 := ⟨f - 1, by simp at hf; omega⟩
    have hp := good_pos (h t (by simp))
    obtain ⟨l, hl⟩ := h t (by simp)
    have h2 := tok_gap (r := 32 :: textS (u :: r)) hl (.inr ⟨_, rfl⟩)
    have hb : run blkR (textS (u :: r)) = 0 := text_blk (fun x hx => h x (by simp [List.mem_cons.1 hx]))
    have hb1 : run blkR (32 :: textS (u :: r)) = 1 := by
      rw [run, hb]; rfl
    obtain ⟨us, hs, hm⟩ := scan_text (u :: r) (fun x hx => h x (by simp [List.mem_cons.1 hx])) f (k + t.text.length + 1) (by simp at hf ⊢; omega)
    refine ⟨⟨t.kind, t.text, t.n, k⟩ :: us, ?_, by simp [hm]⟩
    have hne : t.text ++ 32 :: textS (u :: r) ≠ [] := by simp
    rw [textS, scan, if_neg hne, h2]
    simp only [List.drop_left, hb1, List.drop_succ_cons, List.drop_zero, hs]

theorem textS_len : ∀ (ts : List Tok), (∀ t ∈ ts, Good t) → ts.length ≤ (textS ts).length
  | [], _ => by simp
  | [t], h => by have := good_pos (h t (by simp)); simp [textS]; omega
  | t :: u :: r, h => by
    have h1 := good_pos (h t (by simp))
    have h2 := textS_len (u :: r) (fun x hx => h x (by simp [List.mem_cons.1 hx]))
    simp [textS] at h2 ⊢
    omega
theorem textS_bound : ∀ (f : Nat) (l : List UInt8) (k : Nat) (ts : List Tok), scan f l k = .ok ts → (textS ts).length + 1 ≤ 2 * l.length + 1 := by
  intro f
  induction f with
  | zero => intro l k ts h; simp [scan] at h; subst h; simp [textS]
  | succ f ih =>
    intro l k ts h
    unfold scan at h
    split at h
    · cases h; simp [textS]
    · split at h
      · cases h
      · rename_i kd n t ht
        split at h
        · cases h
        · rename_i r hr
          cases h
          obtain ⟨h1, h2, _⟩ := tok_text ht
          have h3 := ih _ _ _ hr
          have h4 := run_le blkR (l.drop t.length)
          simp only [List.length_drop] at h3 h4
          cases r with
          | nil => simp [textS] at h3 ⊢; omega
          | cons u r => simp [textS] at h3 ⊢; omega

/-- The stage's theorem, plainly. -/
theorem allK_again {l : List UInt8} {ts : List Tok} (h : allK l = .ok ts) : ∃ us, allK (textS ts) = .ok us ∧ us.map (fun t => (t.kind, t.text, t.n)) = ts.map (fun t => (t.kind, t.text, t.n)) := by
  have hg := scan_all_good _ _ _ _ h
  obtain ⟨us, hs, hm⟩ := scan_text ts hg ((textS ts).length + 1) 0 (by have := textS_len ts hg; omega)
  refine ⟨us, ?_, hm⟩
  unfold allK
  rw [text_blk hg]
  exact hs
theorem textS_eq : ∀ (us ts : List Tok), us.map (fun t => (t.kind, t.text, t.n)) = ts.map (fun t => (t.kind, t.text, t.n)) → textS us = textS ts
  | [], [], _ => rfl
  | [], _ :: _, h => by simp at h
  | _ :: _, [], h => by simp at h
  | [a], [b], h => by simp at h; simp [textS, h.2.1]
  | [a], b :: c :: r, h => by simp at h
  | a :: b :: r, [c], h => by simp at h
  | a :: b :: r, c :: d :: q, h => by
    simp only [List.map_cons, List.cons.injEq, Prod.mk.injEq] at h
    have := textS_eq (b :: r) (d :: q) (by simp only [List.map_cons, List.cons.injEq, Prod.mk.injEq]; exact h.2)
    simp [textS, this, h.1.2.1]
theorem numK_err {l : List UInt8} {x : Int} (h : numK l = .error x) : x = 10 ∨ x = 11 := by
  unfold numK at h
  split at h
  · cases h; exact .inl rfl
  · split at h
    · cases h; exact .inr rfl
    · cases h
theorem runK_err {l : List UInt8} {x : Int} (h : runK l = .error x) : x = 10 ∨ x = 11 := by
  unfold runK at h
  split at h
  · exact numK_err h
  · split at h
    · cases h; exact .inr rfl
    · split at h
      · cases h
      · split at h <;> cases h
theorem tokK_err {l : List UInt8} {x : Int} (h : tokK l = .error x) : x = 10 ∨ x = 11 := by
  unfold tokK at h
  split at h
  · split at h
    · cases h
    · rename_i h1
      cases h
      exact runK_err h1
  · split at h
    · cases h
    · cases h; exact .inl rfl
theorem scan_err : ∀ (f : Nat) (l : List UInt8) (k : Nat) (p x : Int), scan f l k = .error (p, x) → x = 10 ∨ x = 11 := by
  intro f
  induction f with
  | zero => intro l k p x h; simp [scan] at h
  | succ f ih =>
    intro l k p x h
    unfold scan at h
    split at h
    · cases h
    · split at h
      · rename_i h1
        cases h
        exact tokK_err h1
      · split at h
        · rename_i h1
          cases h
          exact ih _ _ _ _ h1
        · cases h
theorem err_code {l : List UInt8} {p x : Int} (h : allK l = .error (p, x)) : x = 10 ∨ x = 11 := scan_err _ _ _ _ _ h
end Lx
end Go.Proofs.Ytcgiloccmehbeaa
