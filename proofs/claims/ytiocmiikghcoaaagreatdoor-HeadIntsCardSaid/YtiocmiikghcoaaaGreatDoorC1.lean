/-
  Texts that lie one behind the other: HeldK Tkw Words Plain Tr Scan Again GMod Leaf Shelf Tok Sign Toks.
-/
import Derived.Test.YtiocmiikghcoaaaGreatDoorProg
import Derived.Deep.RegionHeld
import Derived.OrdersHeld
import Derived.Maps.RangeWalk
import Derived.Deep.RegionHeld3
import Derived.IntWalk
import Derived.WalkKit
import Derived.Below
import Derived.Laws.OwnMore
import Derived.Laws.Rows
import Derived.Deep.Draws
import Derived.Lib.Strings
import Derived.BigCall
import Derived.WalkLawsBesides
import Derived.Lib.Hide
import Derived.Lib.OthersKept
import Derived.Shelf.Abstract
import Derived.Shelf.LaysM
import Derived.Shelf.Strconv.Clone
import Derived.Shelf.Strings.Prefix
import Derived.Lib.IndexBytes
import Derived.OwnWalk
import Derived.Recover
import Derived.Defers
namespace Go.Proofs.YtiocmiikghcoaaaGreatDoor
open Go
namespace Lx
set_option maxRecDepth 100000
section
variable {P : Program} {ops : Array Oper} {Q : Exit → Act → World → Prop} {md : Region.Mode} {S : World → Prop} {last : Nat}

def wpAnyK (P : Program) (md : Region.Mode) (ops : Array Oper) (Q : Exit → Act → World → Prop) (S : World → Prop) (last : Nat) : Nat → Array Bool → Act → World → Prop
 | 0, listed, a, w => Region.ready md ops listed = [] ∧ Q .normal a w
 | fuel + 1, listed, a, w =>
  (Region.ready md ops listed = [] → Q .normal a w) ∧
  ∀ i ∈ Region.ready md ops listed, wpOp P ops Q i (fun a' w' => (i ≠ last → S w') ∧ wpAnyK P md ops Q S last fuel (listed.setIfInBounds i true) a' w') a w
theorem wpAny_of_K : ∀ (fuel : Nat) (listed : Array Bool) (a : Act) (w : World), wpAnyK P md ops Q S last fuel listed a w → wpAny P md ops Q fuel listed a w
 | 0, _, _, _, h => h
 | fuel + 1, _, _, _, h => ⟨h.1, fun i hi => wpOp_mono (fun a' w' h' => wpAny_of_K fuel _ a' w' h'.2) (h.2 i hi)⟩
def waitsB (md : Region.Mode) (ops : Array Oper) (last i : Nat) : Bool :=
 match ops[last]? with
 | some o => o.after.any fun e => Region.binds md e && e.on == i
 | none => false
theorem waits_ready {i : Nat} {listed : Array Bool} (h : waitsB md ops last i = true) (hl : last ∈ Region.ready md ops listed) : listed.getD i false = true := by
 obtain ⟨_, o, ho, hall⟩ := mem_ready.1 hl
 unfold waitsB at h
 rw [ho] at h
 obtain ⟨e, he, hb⟩ := Array.any_eq_true'.1 h
 simp only [Bool.and_eq_true, beq_iff_eq] at hb
 have := hall e he hb.1
 rwa [hb.2] at this
theorem unlisted {i : Nat} {listed : Array Bool} (h : listed.getD i true = false) : listed.getD i false ≠ true := by
 intro h'
 rcases Nat.lt_or_ge i listed.size with hl | hl
 ·simp [hl] at h h'; rw [h] at h'; cases h'
 ·simp [Array.getElem?_eq_none hl] at h
theorem wpAnyK_first {i : Nat} {oi : Oper} {v : Value} (hi : ops[i]? = some oi) (hsel : ∀ (j : Nat) (o : Oper) cs b, ops[j]? = some o → o.op ≠ .select cs b)
  (hQ : ∀ c a w, Q (.panic c) (a.put oi.dst v) w → Q (.panic c) a w) (hwt : waitsB md ops last i = true) :
  ∀ (fuel : Nat) (listed : Array Bool) (a : Act) (w : World),
   (∀ j oj, ops[j]? = some oj → j ≠ i → listed.getD j true = false → (∀ e ∈ oj.after, Region.binds md e = true → e.on ≠ i) → oi.apart ops oj = true) →
   i ∈ Region.ready md ops listed → YieldsIf P ops S oi v a → S w →
   wpAnyK P md ops Q S last fuel (listed.setIfInBounds i true) (a.put oi.dst v) w → wpAnyK P md ops Q S last (fuel + 1) listed a w := by
 intro fuel
 induction fuel with
 | zero =>
  intro listed a w _ hr hy hS H
  refine ⟨fun h => (by rw [h] at hr; cases hr), fun j hj => ?_⟩
  by_cases hji : j = i
  ·subst hji; exact hy.wpOp hi hS ⟨fun _ => hS, H⟩
  ·have := ready_mono hj hji
   rw [H.1] at this
   cases this
 | succ fuel ih =>
  intro listed a w hfree hr hy hS H
  refine ⟨fun h => (by rw [h] at hr; cases hr), fun j hj => ?_⟩
  by_cases hji : j = i
  ·subst hji; exact hy.wpOp hi hS ⟨fun _ => hS, H⟩
  ·have hjl : j ≠ last := fun e => by
    subst e
    exact unlisted (mem_ready.1 hr).1 (waits_ready hwt hj)
   have h1 := H.2 j (ready_mono hj hji)
   obtain ⟨hjun, oj, hoj, hall⟩ := mem_ready.1 hj
   have hnot : ∀ e ∈ oj.after, Region.binds md e = true → e.on ≠ i := fun e he hb heq => by
    have h1 := hall e he hb
    rw [heq] at h1
    exact unlisted (mem_ready.1 hr).1 h1
   have h2 := wpOp_putIf hoj (hfree j oj hoj hji hjun hnot) (fun cs b => hsel i oi cs b hi) (fun cs b => hsel j oj cs b hoj) hQ hy h1
   have hfree' : ∀ k ok, ops[k]? = some ok → k ≠ i → (listed.setIfInBounds j true).getD k true = false →
     (∀ e ∈ ok.after, Region.binds md e = true → e.on ≠ i) → oi.apart ops ok = true := fun k ok hk hki hun hno => by
    refine hfree k ok hk hki ?_ hno
    by_cases hjk : j = k
    ·subst hjk; exact hjun
    ·rw [getD_set_ne true hjk] at hun; exact hun
   refine wpOp_mono (fun a' w' h3 => ⟨h3.2.1, ih (listed.setIfInBounds j true) a' w' hfree' (ready_mono hr (Ne.symm hji)) h3.1 (h3.2.1 hjl) ?_⟩) h2
   rw [Array.setIfInBounds_comm _ _ hji]
   exact h3.2.2
theorem wpAnyK_take {i : Nat} {oi : Oper} {v : Value} {fuel : Nat} {listed : Array Bool} {a : Act} {w : World} (hi : ops[i]? = some oi)
  (hs : Region.noSelect ops = true) (hwt : waitsB md ops last i = true) (hf : Region.free md ops listed i = true) (hr : (Region.ready md ops listed).contains i = true)
  (hQ : ∀ c a w, Q (.panic c) (a.put oi.dst v) w → Q (.panic c) a w) (hy : YieldsIf P ops S oi v a) (hS : S w)
  (h : wpAnyK P md ops Q S last fuel (listed.setIfInBounds i true) (a.put oi.dst v) w) : wpAnyK P md ops Q S last (fuel + 1) listed a w :=
 wpAnyK_first hi (Region.noSelect_spec hs) hQ hwt fuel listed a w (Region.free_spec hi hf) (by simpa using hr) hy hS h
theorem wpAnyK_one {i : Nat} {o : Oper} {fuel : Nat} {listed : Array Bool} {a : Act} {w : World} (ho : ops[i]? = some o) (hg : o.guard = none) (hr : Region.ready md ops listed = [i])
  (h : ∀ K' : Act → World → Prop, Shut (∀ a w, (i ≠ last → S w) → ((i ≠ last → S w) → wpAnyK P md ops Q S last fuel (listed.setIfInBounds i true) a w) → K' a w) → Oper.wp P o a w K' Q) :
  wpAnyK P md ops Q S last (fuel + 1) listed a w := by
 refine ⟨fun h0 => (by rw [hr] at h0; cases h0), fun j hj => ?_⟩
 rw [hr] at hj
 obtain rfl : j = i := by simpa using hj
 refine wpOp_step ho fun K' hK => ?_
 rw [if_pos (by simp [Region.wanted, hg])]
 exact h K' (fun a w hS hW => hK a w ⟨hS, hW hS⟩)
theorem wpAnyK_done {listed : Array Bool} {a : Act} {w : World} (hr : Region.ready md ops listed = []) (h : Q .normal a w) : ∀ fuel, wpAnyK P md ops Q S last fuel listed a w
 | 0 => ⟨hr, h⟩
 | _ + 1 => ⟨fun _ => h, by rw [hr]; simp⟩
theorem wp_region_K {id : Nat} {a : Act} {w : World} (last : Nat) (hm : P.follows .mixedOrders = true) (hS : S w.drew)
  (h : S w.drew → wpAnyK P .any ops Q S last ops.size (Array.replicate ops.size false) a w.drew) : (Code.region id ops true).wp P Q a w :=
 wp_region_any hm (wpAny_of_K _ _ _ _ (h hS))
end
end Lx
end Go.Proofs.YtiocmiikghcoaaaGreatDoor
namespace Go.Proofs.YtiocmiikghcoaaaGreatDoor
open Go Go.RowKit
namespace Lx
section
variable {P : Program} {ops : Array Oper} {Q : Exit → Act → World → Prop} {md : Region.Mode} {S : World → Prop} {last : Nat}
theorem tkA {i : Nat} {oi : Oper} {v : Value} {fuel : Nat} {listed : Array Bool} {a : Act} {w : World} (hS : S w)
    (h : wpAnyK P md ops Q S last fuel (listed.setIfInBounds i true) (a.put oi.dst v) w) (hi : ops[i]? = some oi := by rfl)
    (hs : Region.noSelect ops = true := by kernel_rfl) (hwt : waitsB md ops last i = true := by kernel_rfl) (hf : Region.free md ops listed i = true := by kernel_rfl) (hr : (Region.ready md ops listed).contains i = true := by kernel_rfl)
    (hQ : ∀ c a w, Q (.panic c) (a.put oi.dst v) w → Q (.panic c) a w := by exact fun _ _ _ h => h)
    (hy : YieldsIf P ops S oi v a := by exact .inl ⟨by kernel_rfl, fun W hW => by (repeat (obtain ⟨_, hW⟩ := hW)); first | (go_simp; done) | (go_simp; omega) | (go_simp; exact IntWalk.i64_in _ (by omega)) | (go_simp; simp [*]; done)⟩) : wpAnyK P md ops Q S last (fuel + 1) listed a w :=
  wpAnyK_take hi hs hwt hf hr hQ hy hS h
theorem tkB {i : Nat} {oi : Oper} {v : Value} {fuel : Nat} {listed : Array Bool} {a : Act} {w : World} (hS : S w)
    (h : wpAnyK P md ops Q S last fuel (listed.setIfInBounds i true) (a.put oi.dst v) w) (hi : ops[i]? = some oi := by rfl)
    (hs : Region.noSelect ops = true := by kernel_rfl) (hwt : waitsB md ops last i = true := by kernel_rfl) (hf : Region.free md ops listed i = true := by kernel_rfl) (hr : (Region.ready md ops listed).contains i = true := by kernel_rfl)
    (hQ : ∀ c a w, Q (.panic c) (a.put oi.dst v) w → Q (.panic c) a w := by exact fun _ _ _ h => h)
    (hy : YieldsIf P ops S oi v a := by exact .inl ⟨by kernel_rfl, fun W hW => by kernel_rfl⟩) : wpAnyK P md ops Q S last (fuel + 1) listed a w :=
  wpAnyK_take hi hs hwt hf hr hQ hy hS h
theorem thA {i : Nat} {oi : Oper} {v : Value} {fuel : Nat} {listed : Array Bool} {a : Act} {w : World} (hS : S w)
    (h : wpAnyH P md ops Q S fuel (listed.setIfInBounds i true) (a.put oi.dst v) w) (hi : ops[i]? = some oi := by rfl)
    (hs : Region.noSelect ops = true := by kernel_rfl) (hf : Region.free md ops listed i = true := by kernel_rfl) (hr : (Region.ready md ops listed).contains i = true := by kernel_rfl)
    (hQ : ∀ c a w, Q (.panic c) (a.put oi.dst v) w → Q (.panic c) a w := by exact fun _ _ _ h => h)
    (hy : YieldsIf P ops S oi v a := by exact .inl ⟨by kernel_rfl, fun W hW => by (repeat (obtain ⟨_, hW⟩ := hW)); first | (go_simp; done) | (go_simp; omega) | (go_simp; exact IntWalk.i64_in _ (by omega)) | (go_simp; simp [*]; done)⟩) : wpAnyH P md ops Q S (fuel + 1) listed a w :=
  wpAnyH_take hi hs hf hr hQ hy hS h
theorem thB {i : Nat} {oi : Oper} {v : Value} {fuel : Nat} {listed : Array Bool} {a : Act} {w : World} (hS : S w)
    (h : wpAnyH P md ops Q S fuel (listed.setIfInBounds i true) (a.put oi.dst v) w) (hi : ops[i]? = some oi := by rfl)
    (hs : Region.noSelect ops = true := by kernel_rfl) (hf : Region.free md ops listed i = true := by kernel_rfl) (hr : (Region.ready md ops listed).contains i = true := by kernel_rfl)
    (hQ : ∀ c a w, Q (.panic c) (a.put oi.dst v) w → Q (.panic c) a w := by exact fun _ _ _ h => h)
    (hy : YieldsIf P ops S oi v a := by exact .inl ⟨by kernel_rfl, fun W hW => by kernel_rfl⟩) : wpAnyH P md ops Q S (fuel + 1) listed a w :=
  wpAnyH_take hi hs hf hr hQ hy hS h
end
end Lx
end Go.Proofs.YtiocmiikghcoaaaGreatDoor
namespace Go.Proofs.YtiocmiikghcoaaaGreatDoor
open Go.RowKit
namespace Lx
set_option maxRecDepth 100000

def Lies (w : World) (g : Nat) (t : TypeId) (cs : Array Value) : Prop := w.heap[g]? = some (.cells cs t (0, 0))

section
variable {w w' : World} {g : Nat} {t : TypeId} {cs : Array Value}
theorem Lies.lt (h : Lies w g t cs) : g < w.heap.size := by
 by_cases hlt : g < w.heap.size
 ·exact hlt
 ·unfold Lies at h
  rw [Array.getElem?_eq_none (by omega)] at h
  cases h
theorem Lies.cell (h : Lies w g t cs) (i : Nat) : w.cell? ⟨g, i, none⟩ = cs[i]? := cell_of_row w g i cs t (0, 0) h
theorem Lies.frozen (h : Lies w g t cs) (i : Nat) : w.frozen? ⟨g, i, none⟩ = false := by
 unfold Lies at h
 simp [World.frozen?, h]
theorem Lies.new (w : World) (t : TypeId) (cs : Array Value) : Lies (w.alloc (.cells cs t)) w.heap.size t cs := by
 show (w.heap.push _)[w.heap.size]? = _
 simp
theorem Lies.old (h : Lies w g t cs) (o : Obj) : Lies (w.alloc o) g t cs := (Below.heap_alloc w o g h.lt).trans h
theorem Lies.drew (h : Lies w g t cs) : Lies w.drew g t cs := h
theorem Lies.drewN (h : Lies w g t cs) (n : Nat) : Lies (w.drewN n) g t cs := h
theorem Lies.below {B : Nat} (h : Lies w g t cs) (hb : Below B w w') (hg : g < B) : Lies w' g t cs := (hb.block g hg).trans h
theorem Lies.put (h : Lies w g t cs) (i : Nat) (u : Value) : Lies (w.setCell ⟨g, i, none⟩ u) g t (cs.setIfInBounds i u) := by
 unfold Lies at h ⊢
 simp [World.setCell, Array.getElem?_modify, h]
theorem Lies.far (h : Lies w g t cs) {p : Addr} (hp : g ≠ p.block) (u : Value) : Lies (w.setCell p u) g t cs := (Below.heap_setCell w p u g hp).trans h
theorem Lies.four {a b c d : Value} (h : Lies w g t #[a, b, c, d]) :
  (w.cell? ⟨g, 0, none⟩ = some a ∧ w.cell? ⟨g, 1, none⟩ = some b ∧ w.cell? ⟨g, 2, none⟩ = some c ∧ w.cell? ⟨g, 3, none⟩ = some d) ∧
  w.frozen? ⟨g, 0, none⟩ = false ∧ w.frozen? ⟨g, 1, none⟩ = false ∧ w.frozen? ⟨g, 2, none⟩ = false ∧ w.frozen? ⟨g, 3, none⟩ = false :=
 ⟨⟨h.cell 0, h.cell 1, h.cell 2, h.cell 3⟩, h.frozen 0, h.frozen 1, h.frozen 2, h.frozen 3⟩
end
end Lx
end Go.Proofs.YtiocmiikghcoaaaGreatDoor
namespace Go.Proofs.YtiocmiikghcoaaaGreatDoor
namespace Lx
set_option maxRecDepth 100000

def lowR (r : Int) : Bool := decide (97 ≤ r) && decide (r ≤ 122)
def upR (r : Int) : Bool := decide (65 ≤ r) && decide (r ≤ 90)
def digR (r : Int) : Bool := decide (48 ≤ r) && decide (r ≤ 57)
def blkR (r : Int) : Bool := (r == 32 || r == 10) || r == 9
def ldR (r : Int) : Bool := lowR r || (upR r || digR r)

def run (P : Int → Bool) : List UInt8 → Nat
 | [] => 0
 | c :: r => if P (c.toNat : Int) then run P r + 1 else 0

theorem run_le (P : Int → Bool) : ∀ l : List UInt8, run P l ≤ l.length
 | [] => by simp [run]
 | c :: r => by
  have := run_le P r
  by_cases h : P (c.toNat : Int) <;> simp [run, h]; omega

theorem run_drop (P : Int → Bool) (l : List UInt8) (k : Nat) (h : k < l.length) : run P (l.drop k) = if P ((l[k]'h).toNat : Int) then run P (l.drop (k + 1)) + 1 else 0 := by
 rw [List.drop_eq_getElem_cons h, run]
theorem run_nil (P : Int → Bool) (l : List UInt8) (k : Nat) (h : l.length ≤ k) : run P (l.drop k) = 0 := by
 rw [List.drop_eq_nil_of_le h, run]

def numV (l : List UInt8) : Int := l.foldl (fun n c => n * 10 + ((c.toNat : Int) - 48)) 0
theorem numV_snoc (l : List UInt8) (c : UInt8) : numV (l ++ [c]) = numV l * 10 + ((c.toNat : Int) - 48) := by
 simp [numV, List.foldl_append]
theorem dig_of (P : Int → Bool) : ∀ (l : List UInt8), run P l = l.length → ∀ c ∈ l, P (c.toNat : Int) = true
 | [], _, c, hc => by simp at hc
 | d :: r, h, c, hc => by
  cases hd : P (d.toNat : Int)
  ·simp [run, hd] at h
  ·simp only [run, hd, if_true, List.length_cons] at h
   rcases List.mem_cons.1 hc with rfl | hc
   ·exact hd
   ·exact dig_of P r (by omega) c hc
theorem numV_bd : ∀ (k : Nat) (l : List UInt8), l.length = k → (∀ c ∈ l, digR (c.toNat : Int) = true) → 0 ≤ numV l ∧ numV l < 10 ^ k := by
 intro k
 induction k with
 | zero => intro l hl _; have : l = [] := List.eq_nil_of_length_eq_zero hl; subst this; simp [numV]
 | succ k ih =>
  intro l hl h
  have hne : l ≠ [] := by intro e; subst e; simp at hl
  have e := (List.dropLast_concat_getLast hne).symm
  have hc := h (l.getLast hne) (List.getLast_mem hne)
  obtain ⟨a, b⟩ := ih l.dropLast (by simp; omega) (fun c hc => h c (List.dropLast_subset _ hc))
  rw [e, numV_snoc]
  simp only [digR, Bool.and_eq_true, decide_eq_true_eq] at hc
  rw [Int.pow_succ]
  omega
theorem pow_le17 (k : Nat) (h : k < 18) : (10 : Int) ^ k ≤ 100000000000000000 := by
 have : ∀ j : Fin 18, (10 : Int) ^ j.val ≤ 100000000000000000 := by decide
 exact this ⟨k, h⟩
theorem take_snoc (l : List UInt8) (k : Nat) (h : k < l.length) : l.take (k + 1) = l.take k ++ [l[k]'h] := by
 rw [List.take_succ_eq_append_getElem h]

def wordS (l : List UInt8) : Bool := l == [108, 101, 116] || (l == [108, 101, 116, 114, 101, 99] || (l == [105, 110] || (l == [99, 97, 115, 101] || l == [111, 102])))
def numK (l : List UInt8) : Except Int (Int × Int) :=
 if run digR l < l.length then .error 10 else if 18 < l.length ∨ (1 < l.length ∧ l.head? = some 48) then .error 11 else .ok (3, numV l)
def runK (l : List UInt8) : Except Int (Int × Int) :=
 if 0 < run digR l then numK l else if 16 < l.length then .error 11 else if wordS l = true then .ok (4, 0) else if 0 < run lowR l then .ok (1, 0) else .ok (2, 0)

def signsS : List (List UInt8) := [[45, 62], [61, 61], [92], [46], [40], [41], [61], [123], [125], [124], [43], [45], [42], [47], [60]]
def signOf (l : List UInt8) : Option (List UInt8) := signsS.find? fun g => Lib.hasPrefix l g
theorem find_first {α : Type} (p : α → Bool) (d : α) : ∀ (L : List α) (m : Nat), m < L.length → (∀ j, j < m → p (L.getD j d) = false) → p (L.getD m d) = true → L.find? p = some (L.getD m d)
 | [], m, h, _, _ => by simp at h
 | a :: L, 0, _, _, h => by
  have h1 : p a = true := by simpa using h
  rw [List.find?_cons_of_pos h1]
  rfl
 | a :: L, m + 1, hm, hf, h => by
  have h0 : p a = false := by simpa using hf 0 (by omega)
  rw [List.find?_cons_of_neg (by simp [h0])]
  have := find_first p d L m (by simpa using hm) (fun j hj => by simpa using hf (j + 1) (by omega)) (by simpa using h)
  simpa using this
theorem find_none {α : Type} (p : α → Bool) (d : α) : ∀ (L : List α), (∀ j, j < L.length → p (L.getD j d) = false) → L.find? p = none
 | [], _ => rfl
 | a :: L, hf => by
  have h0 : p a = false := by simpa using hf 0 (by simp)
  rw [List.find?_cons_of_neg (by simp [h0])]
  exact find_none p d L (fun j hj => by simpa using hf (j + 1) (by simpa using hj))
def tokK (l : List UInt8) : Except Int (Int × Int × List UInt8) :=
 if 0 < run ldR l then
  match runK (l.take (run ldR l)) with
  | .ok (k, n) => .ok (k, n, l.take (run ldR l))
  | .error e => .error e
 else
  match signOf l with
  | some g => .ok (5, 0, g)
  | none => .error 10


inductive Tr where
 | node (kind : Int) (name : ByteArray) (n : Int) (place : Int) (l : List Tr)

def Tr.kind : Tr → Int | .node k _ _ _ _ => k
def Tr.name : Tr → ByteArray | .node _ s _ _ _ => s
def Tr.n : Tr → Int | .node _ _ n _ _ => n
def Tr.place : Tr → Int | .node _ _ _ a _ => a
def Tr.parts : Tr → List Tr | .node _ _ _ _ l => l

mutual
def depthT : Tr → Nat
 | .node _ _ _ _ l => depthL l + 1
def depthL : List Tr → Nat
 | [] => 0
 | t :: r => max (depthT t) (depthL r)
end
mutual
def sizeT : Tr → Nat
 | .node _ _ _ _ l => sizeL l + 1
def sizeL : List Tr → Nat
 | [] => 0
 | t :: r => sizeT t + sizeL r
end
mutual
def bareT : Tr → Tr
 | .node k s n _ l => .node k s n 0 (bareL l)
def bareL : List Tr → List Tr
 | [] => []
 | t :: r => bareT t :: bareL r
end

def nameV (l : List UInt8) : Bool := decide (0 < run lowR l) && (decide (run ldR l = l.length) && (decide (l.length ≤ 16) && !wordS l))
def conV (l : List UInt8) : Bool := decide (0 < run upR l) && (decide (run ldR l = l.length) && decide (l.length ≤ 16))
def opV (l : List UInt8) : Bool := l == [43] || (l == [45] || (l == [42] || (l == [47] || (l == [60] || l == [61, 61]))))
def whatV (w : Int) (l : List UInt8) : Bool := if w = 1 then nameV l else if w = 2 then conV l else if w = 3 then opV l else l == []

def shapeV (k : Int) : Option (Int × Int × Int × Int) :=
 if k = 1 then some (1, 0, 0, 0) else if k = 2 then some (1, 0, 1, 1) else if k = 3 then some (0, 0, 2, 2) else if k = 4 then some (1, 0, 2, 2) else if k = 5 then some (1, 0, 2, 2)
 else if k = 6 then some (2, 0, 0, 8) else if k = 7 then some (0, 0, 2, 9) else if k = 8 then some (2, 8, 1, 9) else if k = 9 then some (0, 999999999999999999, 0, 0) else if k = 10 then some (3, 0, 2, 2) else none
def fitsV (h : Int × Int × Int × Int) (k : Int) (s : List UInt8) (n a : Int) (m : Nat) : Bool :=
 if a < 0 ∨ n < 0 ∨ h.2.1 < n then false
 else if (m : Int) < h.2.2.1 ∨ h.2.2.2 < (m : Int) then false
 else if k = 8 ∧ (m : Int) ≠ n + 1 then false
 else whatV h.1 s
def standsV (k n : Int) (i : Nat) (p : Int) : Bool :=
 if k = 7 ∧ 0 < i then decide (p = 8) else if k = 8 ∧ (i : Int) < n then decide (p = 1) else decide (p ≠ 8)
mutual
def mayT : Tr → Bool
 | .node k s n a l =>
  match shapeV k with
  | some h => fitsV h k s.data.toList n a l.length && mayL k n 0 l
  | none => false
def mayL (k n : Int) : Nat → List Tr → Bool
 | _, [] => true
 | i, t :: r => standsV k n i t.kind && (mayT t && mayL k n (i + 1) r)
end
def nameOkV (k : Int) (s : List UInt8) : Bool :=
 if k = 1 ∨ k = 2 ∨ k = 4 ∨ k = 5 then nameV s else if k = 6 ∨ k = 8 then conV s else if k = 10 then opV s else s == []
def partsV (k n : Int) (m : Nat) : Bool :=
 if k = 1 then decide (m = 0) && decide (n = 0) else if k = 2 then decide (m = 1) && decide (n = 0)
 else if k = 3 ∨ k = 4 ∨ k = 5 ∨ k = 10 then decide (m = 2) && decide (n = 0) else if k = 6 then decide (m ≤ 8) && decide (n = 0)
 else if k = 7 then decide (2 ≤ m) && (decide (m ≤ 9) && decide (n = 0)) else if k = 8 then decide (0 ≤ n) && (decide (n ≤ 8) && decide ((m : Int) = n + 1))
 else if k = 9 then decide (m = 0) && (decide (0 ≤ n) && decide (n < 1000000000000000000)) else false
mutual
def mayRT : Tr → Bool → Bool
 | .node k s n a l, alt => (decide (k = 8) == alt) && (nameOkV k s.data.toList && (partsV k n l.length && (decide (0 ≤ a) && mayRL k n 0 l)))
def mayRL (k n : Int) : Nat → List Tr → Bool
 | _, [] => true
 | i, t :: r => !(decide (k = 8) && (decide ((i : Int) < n) && decide (t.kind ≠ 1))) && (mayRT t (decide (k = 7) && decide (0 < i)) && mayRL k n (i + 1) r)
end

theorem fits_eq (k : Int) (s : List UInt8) (n a : Int) (m : Nat) :
  (match shapeV k with | some h => fitsV h k s n a m | none => false) = (nameOkV k s && (partsV k n m && decide (0 ≤ a))) := by
 by_cases ha : 0 ≤ a
 ·have ha' : ¬ a < 0 := by omega
  rcases (by omega : k = 1 ∨ k = 2 ∨ k = 3 ∨ k = 4 ∨ k = 5 ∨ k = 6 ∨ k = 7 ∨ k = 8 ∨ k = 9 ∨ k = 10 ∨ (k < 1 ∨ 10 < k)) with rfl | rfl | rfl | rfl | rfl | rfl | rfl | rfl | rfl | rfl | hk
  case inr.inr.inr.inr.inr.inr.inr.inr.inr.inr =>
   have e : ∀ j : Int, 1 ≤ j → j ≤ 10 → k ≠ j := by omega
   simp [shapeV, partsV, e 1, e 2, e 3, e 4, e 5, e 6, e 7, e 8, e 9, e 10]
  all_goals
   simp only [shapeV, fitsV, nameOkV, partsV, whatV]
   simp [ha, ha']
   generalize nameV s = b1
   generalize conV s = b2
   generalize opV s = b3
   rw [Bool.eq_iff_iff]
   by_cases e0 : s = []
   all_goals
    cases b1 <;> cases b2 <;> cases b3 <;> simp [e0] <;> omega
 ·have ha' : a < 0 := by omega
  have e : decide (0 ≤ a) = false := by simp; omega
  rw [e]
  simp only [Bool.and_false]
  cases shapeV k <;> simp [fitsV, ha']

mutual
theorem may_eq : ∀ (t : Tr) (alt : Bool), mayRT t alt = ((decide (t.kind = 8) == alt) && mayT t)
 | .node k s n a l, alt => by
  rw [mayRT, mayT, may_eqL k n l 0]
  have h := fits_eq k s.data.toList n a l.length
  show _ = ((decide (k = 8) == alt) && _)
  cases hs : shapeV k with
  | none =>
   rw [hs] at h
   have h' : (nameOkV k s.data.toList && (partsV k n l.length && decide (0 ≤ a))) = false := h.symm
   show ((decide (k = 8) == alt) && (nameOkV k s.data.toList && (partsV k n l.length && (decide (0 ≤ a) && mayL k n 0 l)))) = ((decide (k = 8) == alt) && false)
   cases h1 : nameOkV k s.data.toList <;> cases h2 : partsV k n l.length <;> cases h3 : decide (0 ≤ a) <;> simp_all
  | some h0 =>
   rw [hs] at h
   have h' : fitsV h0 k s.data.toList n a l.length = (nameOkV k s.data.toList && (partsV k n l.length && decide (0 ≤ a))) := h
   show _ = ((decide (k = 8) == alt) && (fitsV h0 k s.data.toList n a l.length && mayL k n 0 l))
   rw [h']
   simp [Bool.and_assoc]
theorem may_eqL : ∀ (k n : Int) (l : List Tr) (i : Nat), mayRL k n i l = mayL k n i l
 | k, n, [], i => rfl
 | k, n, t :: r, i => by
  rw [mayRL, mayL, may_eqL k n r (i + 1), may_eq t]
  unfold standsV
  cases mayT t
  ·simp
  ·by_cases h7 : k = 7
   ·subst h7
    by_cases hi : 0 < i <;> simp [hi]
   ·by_cases h8 : k = 8
    ·subst h8
     by_cases hi : (i : Int) < n
     ·by_cases h1 : t.kind = 1
      ·simp [h1, hi]
      ·simp [h1, hi]
     ·simp [hi]
    ·simp [h7, h8]
end

theorem depthL_snoc (l : List Tr) (t : Tr) : depthL (l ++ [t]) = max (depthL l) (depthT t) := by
 induction l with
 | nil => simp [depthL]
 | cons a r ih => simp only [List.cons_append, depthL, ih]; omega
theorem depth_pos (t : Tr) : 0 < depthT t := by cases t; simp [depthT]
theorem size_pos (t : Tr) : 0 < sizeT t := by cases t; simp [sizeT]
theorem depthL_mem : ∀ (l : List Tr) (t : Tr), t ∈ l → depthT t ≤ depthL l
 | [], t, h => by simp at h
 | a :: r, t, h => by
  rw [depthL]
  rcases List.mem_cons.1 h with rfl | h
  ·omega
  ·have := depthL_mem r t h; omega
theorem sizeL_mem : ∀ (l : List Tr) (t : Tr), t ∈ l → sizeT t ≤ sizeL l
 | [], t, h => by simp at h
 | a :: r, t, h => by
  rw [sizeL]
  rcases List.mem_cons.1 h with rfl | h
  ·omega
  ·have := sizeL_mem r t h; omega
theorem sizeL_len : ∀ l : List Tr, l.length ≤ sizeL l
 | [] => by simp [sizeL]
 | a :: r => by
  have := sizeL_len r
  have := size_pos a
  simp only [List.length_cons, sizeL]; omega
mutual
theorem depth_le_size : ∀ t : Tr, depthT t ≤ sizeT t
 | .node _ _ _ _ l => by rw [depthT, sizeT]; have := depthL_le_size l; omega
theorem depthL_le_size : ∀ l : List Tr, depthL l ≤ sizeL l
 | [] => by simp [depthL]
 | t :: r => by rw [depthL, sizeL]; have := depth_le_size t; have := depthL_le_size r; omega
end
theorem depthL_take (l : List Tr) (i : Nat) : depthL (l.take i) ≤ depthL l := by
 induction l generalizing i with
 | nil => simp
 | cons a r ih =>
  cases i with
  | zero => simp [depthL]
  | succ i => simp only [List.take_succ_cons, depthL]; have := ih i; omega
structure Tok where
 kind : Int
 text : List UInt8
 n : Int
 place : Int
deriving DecidableEq
def Tok.cells (t : Tok) : List Value := [.int .i64 t.kind, .string ⟨t.text.toArray⟩, .int .i64 t.n, .int .i64 t.place]
def cellsOf (l : List Tok) : List Value := l.flatMap Tok.cells
theorem cellsOf_length (l : List Tok) : (cellsOf l).length = l.length * 4 := by
 induction l with
 | nil => rfl
 | cons a r ih => simp only [cellsOf, List.flatMap_cons, List.length_append, List.length_cons] at ih ⊢; rw [ih]; simp [Tok.cells]; omega
theorem cellsOf_snoc (l : List Tok) (t : Tok) : cellsOf (l ++ [t]) = cellsOf l ++ t.cells := by
 simp [cellsOf, List.flatMap_append]

def scan : Nat → List UInt8 → Nat → Except (Int × Int) (List Tok)
 | 0, _, _ => .ok []
 | f + 1, l, k =>
  if l = [] then .ok [] else
  match tokK l with
  | .error e => .error (k, e)
  | .ok (kd, n, t) =>
   match scan f ((l.drop t.length).drop (run blkR (l.drop t.length))) (k + t.length + run blkR (l.drop t.length)) with
   | .error e => .error e
   | .ok r => .ok (⟨kd, t, n, k⟩ :: r)
def allK (l : List UInt8) : Except (Int × Int) (List Tok) := scan (l.length + 1) (l.drop (run blkR l)) (run blkR l)
def glue (acc : List Tok) : Except (Int × Int) (List Tok) → Except (Int × Int) (List Tok)
 | .ok r => .ok (acc ++ r)
 | .error e => .error e

theorem scan_end (f k : Nat) : scan f [] k = .ok [] := by
 cases f <;> simp [scan]
theorem scan_bad {f k : Nat} {l : List UInt8} {e : Int} (hl : l ≠ []) (h : tokK l = .error e) : scan (f + 1) l k = .error (k, e) := by
 simp [scan, hl, h]
theorem scan_good {f k : Nat} {l t : List UInt8} {kd n : Int} (acc : List Tok) (hl : l ≠ []) (h : tokK l = .ok (kd, n, t)) :
  glue acc (scan (f + 1) l k) = glue (acc ++ [⟨kd, t, n, k⟩]) (scan f ((l.drop t.length).drop (run blkR (l.drop t.length))) (k + t.length + run blkR (l.drop t.length))) := by
 simp only [scan, hl, if_false, h]
 cases scan f ((l.drop t.length).drop (run blkR (l.drop t.length))) (k + t.length + run blkR (l.drop t.length)) <;> simp [glue]

theorem signs_pos : ∀ g ∈ signsS, 0 < g.length := by decide
theorem tok_text {l t : List UInt8} {kd n : Int} (h : tokK l = .ok (kd, n, t)) : 0 < t.length ∧ t.length ≤ l.length ∧ l.take t.length = t := by
 unfold tokK at h
 have hr := run_le ldR l
 split at h
 ·rename_i h0
  split at h
  ·simp only [Except.ok.injEq, Prod.mk.injEq] at h
   obtain ⟨_, _, rfl⟩ := h
   simp only [List.length_take]
   refine ⟨by omega, by omega, by congr 1; omega⟩
  ·cases h
 ·split at h
  ·rename_i g h1
   simp only [Except.ok.injEq, Prod.mk.injEq] at h
   obtain ⟨_, _, rfl⟩ := h
   have hp := List.find?_some h1
   have hm := signs_pos _ (List.mem_of_find?_eq_some h1)
   have hpre : g <+: l := List.isPrefixOf_iff_prefix.1 hp
   exact ⟨hm, hpre.length_le, (List.prefix_iff_eq_take.1 hpre).symm⟩
  ·cases h
theorem scan_step {l : List UInt8} {acc : List Tok} {k f : Nat} {kd n : Int} {t : List UInt8} (hlt : k < l.length) (hf : l.length < k + (f + 1)) (ha : acc.length ≤ k) (h : tokK (l.drop k) = .ok (kd, n, t))
  (hs : allK l = glue acc (scan (f + 1) (l.drop k) k)) :
  k + t.length ≤ l.length ∧ k + t.length + run blkR (l.drop (k + t.length)) ≤ l.length ∧ l.length < k + t.length + run blkR (l.drop (k + t.length)) + f ∧
   (acc ++ [(⟨kd, t, n, k⟩ : Tok)]).length ≤ k + t.length + run blkR (l.drop (k + t.length)) ∧
   allK l = glue (acc ++ [⟨kd, t, n, k⟩]) (scan f (l.drop (k + t.length + run blkR (l.drop (k + t.length)))) (k + t.length + run blkR (l.drop (k + t.length)))) := by
 obtain ⟨h1, h2, _⟩ := tok_text h
 have hr := run_le blkR (l.drop (k + t.length))
 simp only [List.length_drop] at h2 hr
 refine ⟨by omega, by omega, by omega, by simp; omega, ?_⟩
 rw [hs, scan_good acc (by intro e; have := congrArg List.length e; simp at this; omega) h]
 simp only [List.drop_drop, Nat.add_assoc]
def Good (t : Tok) : Prop := ∃ l, tokK l = .ok (t.kind, t.n, t.text)
theorem scan_all_good : ∀ (f : Nat) (l : List UInt8) (k : Nat) (ts : List Tok), scan f l k = .ok ts → ∀ t ∈ ts, Good t := by
 intro f
 induction f with
 | zero => intro l k ts h; simp [scan] at h; subst h; simp
 | succ f ih =>
  intro l k ts h
  unfold scan at h
  split at h
  ·cases h; simp
  ·split at h
   ·cases h
   ·rename_i kd n t ht
    split at h
    ·cases h
    ·rename_i r hr
     cases h
     intro u hu
     rcases List.mem_cons.1 hu with rfl | hu
     ·exact ⟨l, ht⟩
     ·exact ih _ _ _ hr u hu

def textS : List Tok → List UInt8
 | [] => []
 | [t] => t.text
 | t :: u :: r => t.text ++ 32 :: textS (u :: r)
theorem good_pos {t : Tok} (h : Good t) : 0 < t.text.length := by
 obtain ⟨l, h⟩ := h
 exact (tok_text h).1
theorem blk_head {c : UInt8} {l t : List UInt8} {kd n : Int} (h : tokK (c :: l) = .ok (kd, n, t)) : blkR (c.toNat : Int) = false := by
 cases hb : blkR (c.toNat : Int) with
 | false => rfl
 | true =>
  exfalso
  have hc : c = 32 ∨ c = 10 ∨ c = 9 := by
   simp only [blkR, Bool.or_eq_true, beq_iff_eq] at hb
   rcases hb with (hb | hb) | hb
   ·exact .inl (UInt8.toNat_inj.1 (by simpa using Int.ofNat_inj.1 hb))
   ·exact .inr (.inl (UInt8.toNat_inj.1 (by simpa using Int.ofNat_inj.1 hb)))
   ·exact .inr (.inr (UInt8.toNat_inj.1 (by simpa using Int.ofNat_inj.1 hb)))
  rcases hc with rfl | rfl | rfl <;> cases h
theorem textS_len : ∀ (ts : List Tok), (∀ t ∈ ts, Good t) → ts.length ≤ (textS ts).length
 | [], _ => by simp
 | [t], h => by have := good_pos (h t (by simp)); simp [textS]; omega
 | t :: u :: r, h => by
  have h1 := good_pos (h t (by simp))
  have h2 := textS_len (u :: r) (fun x hx => h x (by simp [List.mem_cons.1 hx]))
  simp [textS] at h2 ⊢
  omega
theorem textS_bound : ∀ (f : Nat) (l : List UInt8) (k : Nat) (ts : List Tok), scan f l k = .ok ts → (textS ts).length + 1 ≤ 2 * l.length + 1 := by
 intro f
 induction f with
 | zero => intro l k ts h; simp [scan] at h; subst h; simp [textS]
 | succ f ih =>
  intro l k ts h
  unfold scan at h
  split at h
  ·cases h; simp [textS]
  ·split at h
   ·cases h
   ·rename_i kd n t ht
    split at h
    ·cases h
    ·rename_i r hr
     cases h
     obtain ⟨h1, h2, _⟩ := tok_text ht
     have h3 := ih _ _ _ hr
     have h4 := run_le blkR (l.drop t.length)
     simp only [List.length_drop] at h3 h4
     cases r with
     | nil => simp [textS] at h3 ⊢; omega
     | cons u r => simp [textS] at h3 ⊢; omega

theorem numK_err {l : List UInt8} {x : Int} (h : numK l = .error x) : x = 10 ∨ x = 11 := by
 unfold numK at h
 split at h
 ·cases h; exact .inl rfl
 ·split at h
  ·cases h; exact .inr rfl
  ·cases h
theorem runK_err {l : List UInt8} {x : Int} (h : runK l = .error x) : x = 10 ∨ x = 11 := by
 unfold runK at h
 split at h
 ·exact numK_err h
 ·split at h
  ·cases h; exact .inr rfl
  ·split at h
   ·cases h
   ·split at h <;> cases h
theorem tokK_err {l : List UInt8} {x : Int} (h : tokK l = .error x) : x = 10 ∨ x = 11 := by
 unfold tokK at h
 split at h
 ·split at h
  ·cases h
  ·rename_i h1
   cases h
   exact runK_err h1
 ·split at h
  ·cases h
  ·cases h; exact .inl rfl
theorem scan_err : ∀ (f : Nat) (l : List UInt8) (k : Nat) (p x : Int), scan f l k = .error (p, x) → x = 10 ∨ x = 11 := by
 intro f
 induction f with
 | zero => intro l k p x h; simp [scan] at h
 | succ f ih =>
  intro l k p x h
  unfold scan at h
  split at h
  ·cases h
  ·split at h
   ·rename_i h1
    cases h
    exact tokK_err h1
   ·split at h
    ·rename_i h1
     cases h
     exact ih _ _ _ _ h1
    ·cases h
theorem err_code {l : List UInt8} {p x : Int} (h : allK l = .error (p, x)) : x = 10 ∨ x = 11 := scan_err _ _ _ _ _ h
abbrev GR := Except Nat (Tr × Nat)
def kAt (l : List Tok) (i : Nat) : Int := match l[i]? with | some t => t.kind | none => 0
def xAt (l : List Tok) (i : Nat) : List UInt8 := match l[i]? with | some t => if 4 ≤ t.kind then t.text else [] | none => []
def nmAt (l : List Tok) (i : Nat) : ByteArray := match l[i]? with | some t => ⟨t.text.toArray⟩ | none => ⟨#[]⟩
def plAt (l : List Tok) (i : Nat) : Int := match l[i]? with | some t => t.place | none => 0
def nuAt (l : List Tok) (i : Nat) : Int := match l[i]? with | some t => t.n | none => 0
def letS : List UInt8 := [108, 101, 116]
def letrecS : List UInt8 := [108, 101, 116, 114, 101, 99]
def caseS : List UInt8 := [99, 97, 115, 101]
def ofS : List UInt8 := [111, 102]
def inS : List UInt8 := [105, 110]
def signA (l : List Tok) (i : Nat) (lev : Int) : Bool :=
 if lev = 0 then xAt l i == [60] || xAt l i == [61, 61] else if lev = 1 then xAt l i == [43] || xAt l i == [45] else xAt l i == [42] || xAt l i == [47]
def atomicA (l : List Tok) (i : Nat) : Bool := (decide (1 ≤ kAt l i) && decide (kAt l i ≤ 3)) || xAt l i == [40]
def gNames : Nat → List Tok → Nat → List Tr → Except Nat (List Tr × Nat)
 | 0, _, j, _ => .error j
 | f + 1, l, j, acc => if kAt l j = 1 then (if acc.length = 8 then .error j else gNames f l (j + 1) (acc ++ [.node 1 (nmAt l j) 0 (plAt l j) []])) else .ok (acc, j)
mutual
def gExpr : Nat → List Tok → Nat → GR
 | 0, _, i => .error i
 | f + 1, l, i => if xAt l i == [92] then gLam f l i else if xAt l i == letS || xAt l i == letrecS then gLet f l i else if xAt l i == caseS then gMatch f l i else gOps f l i 0
def gLam : Nat → List Tok → Nat → GR
 | 0, _, i => .error i
 | f + 1, l, i => if kAt l (i + 1) ≠ 1 then .error (i + 1) else if xAt l (i + 2) ≠ [46] then .error (i + 2) else
  match gExpr f l (i + 3) with
  | .error j => .error j
  | .ok (b, j) => .ok (.node 2 (nmAt l (i + 1)) 0 (plAt l i) [b], j)
def gLet : Nat → List Tok → Nat → GR
 | 0, _, i => .error i
 | f + 1, l, i => if kAt l (i + 1) ≠ 1 then .error (i + 1) else if xAt l (i + 2) ≠ [61] then .error (i + 2) else
  match gExpr f l (i + 3) with
  | .error j => .error j
  | .ok (a, j) => if xAt l j ≠ inS then .error j else
   match gExpr f l (j + 1) with
   | .error j2 => .error j2
   | .ok (b, j2) => .ok (.node (if nmAt l i = ⟨letrecS.toArray⟩ then 5 else 4) (nmAt l (i + 1)) 0 (plAt l i) [a, b], j2)
def gAlt : Nat → List Tok → Nat → GR
 | 0, _, i => .error i
 | f + 1, l, i => if kAt l i ≠ 2 then .error i else
  match gNames (l.length + 1) l (i + 1) [] with
  | .error j => .error j
  | .ok (vs, j) => if xAt l j ≠ [45, 62] then .error j else
   match gExpr f l (j + 1) with
   | .error j2 => .error j2
   | .ok (b, j2) => .ok (.node 8 (nmAt l i) vs.length (plAt l i) (vs ++ [b]), j2)
def gMatch : Nat → List Tok → Nat → GR
 | 0, _, i => .error i
 | f + 1, l, i =>
  match gExpr f l (i + 1) with
  | .error j => .error j
  | .ok (a, j) => if xAt l j ≠ ofS then .error j else if xAt l (j + 1) ≠ [123] then .error (j + 1) else gAlts f l i (j + 2) [a]
def gAlts : Nat → List Tok → Nat → Nat → List Tr → GR
 | 0, _, _, j, _ => .error j
 | f + 1, l, i, j, acc =>
  match gAlt f l j with
  | .error j2 => .error j2
  | .ok (b, j2) => if xAt l j2 = [125] then .ok (.node 7 ⟨#[]⟩ 0 (plAt l i) (acc ++ [b]), j2 + 1) else if xAt l j2 ≠ [124] ∨ acc.length = 8 then .error j2 else gAlts f l i (j2 + 1) (acc ++ [b])
def gOps : Nat → List Tok → Nat → Int → GR
 | 0, _, i, _ => .error i
 | f + 1, l, i, lev => if lev = 3 then gApp f l i else
  match gOps f l i (lev + 1) with
  | .error j => .error j
  | .ok (a, j) => gOpsL f l lev 0 a j
def gOpsL : Nat → List Tok → Int → Nat → Tr → Nat → GR
 | 0, _, _, _, _, j => .error j
 | f + 1, l, lev, n, a, j => if signA l j lev = true ∧ (0 < lev ∨ n < 1) then
   match gOps f l (j + 1) (lev + 1) with
   | .error j2 => .error j2
   | .ok (b, j2) => gOpsL f l lev (n + 1) (.node 10 (nmAt l j) 0 a.place [a, b]) j2
  else .ok (a, j)
def gApp : Nat → List Tok → Nat → GR
 | 0, _, i => .error i
 | f + 1, l, i =>
  match gAtom f l i with
  | .error j => .error j
  | .ok (a, j) => gAppL f l (decide (kAt l i = 2)) a j
def gAppL : Nat → List Tok → Bool → Tr → Nat → GR
 | 0, _, _, _, j => .error j
 | f + 1, l, con, a, j => if atomicA l j then (if con = true ∧ a.parts.length = 8 then .error j else
   match gAtom f l j with
   | .error j2 => .error j2
   | .ok (b, j2) => gAppL f l con (if con then .node a.kind a.name a.n a.place (a.parts ++ [b]) else .node 3 ⟨#[]⟩ 0 a.place [a, b]) j2)
  else .ok (a, j)
def gAtom : Nat → List Tok → Nat → GR
 | 0, _, i => .error i
 | f + 1, l, i => if xAt l i == [40] then
   match gExpr f l (i + 1) with
   | .error j => .error j
   | .ok (a, j) => if xAt l j ≠ [41] then .error j else .ok (a, j + 1)
  else if kAt l i = 1 then .ok (.node 1 (nmAt l i) 0 (plAt l i) [], i + 1) else if kAt l i = 2 then .ok (.node 6 (nmAt l i) 0 (plAt l i) [], i + 1)
  else if kAt l i = 3 then .ok (.node 9 ⟨#[]⟩ (nuAt l i) (plAt l i) [], i + 1) else .error i
end
def parseG (s : List UInt8) (deep : Int) : Except (Int × Int) Tr :=
 if deep < 1 ∨ 200 < deep then .error (0, 1) else if 4096 < s.length then .error (0, 32) else
 match allK s with
 | .error pe => .error pe
 | .ok l => match gExpr (8 * l.length + 8) l 0 with
  | .error j => .error (if j < l.length then plAt l j else s.length, 30)
  | .ok (t, j) => if j < l.length then .error (plAt l j, 30) else if deep < depthT t then .error (0, 31) else .ok t

theorem xAt_lt {l : List Tok} {i : Nat} {s : List UInt8} (h : xAt l i = s) (hs : s ≠ []) : i < l.length := by
 unfold xAt at h
 rcases Nat.lt_or_ge i l.length with hlt | hge
 ·exact hlt
 ·rw [List.getElem?_eq_none hge] at h
  exact absurd h.symm hs
theorem kAt_lt {l : List Tok} {i : Nat} (h : kAt l i ≠ 0) : i < l.length := by
 unfold kAt at h
 rcases Nat.lt_or_ge i l.length with hlt | hge
 ·exact hlt
 ·rw [List.getElem?_eq_none hge] at h
  exact absurd rfl h
theorem names_prog : ∀ (f : Nat) (l : List Tok) (j : Nat) (acc vs : List Tr) (j2 : Nat), gNames f l j acc = .ok (vs, j2) → acc.length ≤ 8 → j ≤ j2 ∧ (j ≤ l.length → j2 ≤ l.length) ∧ vs.length ≤ 8
 | 0, l, j, acc, vs, j2, h, _ => by cases h
 | f + 1, l, j, acc, vs, j2, h, ha => by
  rw [gNames] at h
  split at h
  ·rename_i hk
   split at h
   ·cases h
   ·have := names_prog f l (j + 1) _ vs j2 h (by simp; omega)
    have hlt := kAt_lt (l := l) (i := j) (by omega)
    omega
  ·cases h
   exact ⟨Nat.le_refl _, id, ha⟩
def Prog (l : List Tok) (i : Nat) (r : GR) : Prop := ∀ t j, r = .ok (t, j) → i < j ∧ j ≤ l.length
structure ProgAll (f : Nat) : Prop where
 expr : ∀ l i, Prog l i (gExpr f l i)
 lam : ∀ l i, Prog l i (gLam f l i)
 let_ : ∀ l i, Prog l i (gLet f l i)
 alt : ∀ l i, Prog l i (gAlt f l i)
 match_ : ∀ l i, Prog l i (gMatch f l i)
 alts : ∀ l i j acc, Prog l j (gAlts f l i j acc)
 ops : ∀ l i lev, Prog l i (gOps f l i lev)
 opsL : ∀ l lev n a i j, i < j → j ≤ l.length → Prog l i (gOpsL f l lev n a j)
 app : ∀ l i, Prog l i (gApp f l i)
 appL : ∀ l con a i j, i < j → j ≤ l.length → Prog l i (gAppL f l con a j)
 atom : ∀ l i, Prog l i (gAtom f l i)
theorem Prog.next {l : List Tok} {i k : Nat} {r : GR} (h : Prog l k r) (hk : i ≤ k) : Prog l i r := fun t j e => by
 have := h t j e
 omega
theorem prog_all : ∀ f, ProgAll f
 | 0 => by
  refine ⟨?_, ?_, ?_, ?_, ?_, ?_, ?_, ?_, ?_, ?_, ?_⟩
  all_goals
   intros
   intro t j h
   first
    | (rw [gExpr] at h; cases h)
    | (rw [gLam] at h; cases h)
    | (rw [gLet] at h; cases h)
    | (rw [gAlt] at h; cases h)
    | (rw [gMatch] at h; cases h)
    | (rw [gAlts] at h; cases h)
    | (rw [gOps] at h; cases h)
    | (rw [gOpsL] at h; cases h)
    | (rw [gApp] at h; cases h)
    | (rw [gAppL] at h; cases h)
    | (rw [gAtom] at h; cases h)
 | f + 1 => by
  have ih := prog_all f
  refine ⟨?_, ?_, ?_, ?_, ?_, ?_, ?_, ?_, ?_, ?_, ?_⟩
  ·intro l i
   rw [gExpr]
   split
   ·exact ih.lam l i
   ·split
    ·exact ih.let_ l i
    ·split
     ·exact ih.match_ l i
     ·exact ih.ops l i 0
  ·intro l i t j h
   rw [gLam] at h
   split at h
   ·cases h
   ·split at h
    ·cases h
    ·split at h
     ·cases h
     ·rename_i b j' hb
      have := ih.expr l (i + 3) b j' hb
      cases h
      omega
  ·intro l i t j h
   rw [gLet] at h
   split at h
   ·cases h
   ·split at h
    ·cases h
    ·split at h
     ·cases h
     ·rename_i a j1 ha
      have h1 := ih.expr l (i + 3) a j1 ha
      split at h
      ·cases h
      ·split at h
       ·cases h
       ·rename_i b j2 hb
        have := ih.expr l (j1 + 1) b j2 hb
        cases h
        omega
  ·intro l i t j h
   rw [gAlt] at h
   split at h
   ·cases h
   ·split at h
    ·cases h
    ·rename_i vs j1 hv
     have h1 := names_prog _ _ _ _ _ _ hv (by simp)
     split at h
     ·cases h
     ·split at h
      ·cases h
      ·rename_i b j2 hb
       have := ih.expr l (j1 + 1) b j2 hb
       cases h
       omega
  ·intro l i t j h
   rw [gMatch] at h
   split at h
   ·cases h
   ·rename_i a j1 ha
    have h1 := ih.expr l (i + 1) a j1 ha
    split at h
    ·cases h
    ·split at h
     ·cases h
     ·have := ih.alts l i (j1 + 2) [a] t j h
      omega
  ·intro l i j acc t j9 h
   rw [gAlts] at h
   split at h
   ·cases h
   ·rename_i b j2 hb
    have h1 := ih.alt l j b j2 hb
    split at h
    ·rename_i hx
     have := xAt_lt hx (by simp)
     cases h
     omega
    ·split at h
     ·cases h
     ·have := ih.alts l i (j2 + 1) (acc ++ [b]) t j9 h
      omega
  ·intro l i lev t j h
   rw [gOps] at h
   split at h
   ·exact ih.app l i t j h
   ·split at h
    ·cases h
    ·rename_i a j1 ha
     have h1 := ih.ops l i (lev + 1) a j1 ha
     exact ih.opsL l lev 0 a i j1 h1.1 h1.2 t j h
  ·intro l lev n a i j hij hj t j9 h
   rw [gOpsL] at h
   split at h
   ·split at h
    ·cases h
    ·rename_i b j2 hb
     have h1 := ih.ops l (j + 1) (lev + 1) b j2 hb
     exact ih.opsL l lev (n + 1) _ i j2 (by omega) h1.2 t j9 h
   ·cases h
    exact ⟨hij, hj⟩
  ·intro l i t j h
   rw [gApp] at h
   split at h
   ·cases h
   ·rename_i a j1 ha
    have h1 := ih.atom l i a j1 ha
    exact ih.appL l _ a i j1 h1.1 h1.2 t j h
  ·intro l con a i j hij hj t j9 h
   rw [gAppL] at h
   split at h
   ·split at h
    ·cases h
    ·split at h
     ·cases h
     ·rename_i b j2 hb
      have h1 := ih.atom l j b j2 hb
      exact ih.appL l con _ i j2 (by omega) h1.2 t j9 h
   ·cases h
    exact ⟨hij, hj⟩
  ·intro l i t j h
   rw [gAtom] at h
   split at h
   ·split at h
    ·cases h
    ·rename_i a j1 ha
     have h1 := ih.expr l (i + 1) a j1 ha
     split at h
     ·cases h
     ·rename_i hx
      have := xAt_lt (Classical.byContradiction fun e => hx e) (by simp)
      cases h
      omega
   ·split at h
    ·rename_i hk
     have := kAt_lt (l := l) (i := i) (by omega)
     cases h
     omega
    ·split at h
     ·rename_i hk
      have := kAt_lt (l := l) (i := i) (by omega)
      cases h
      omega
     ·split at h
      ·rename_i hk
       have := kAt_lt (l := l) (i := i) (by omega)
       cases h
       omega
      ·cases h
end Lx
end Go.Proofs.YtiocmiikghcoaaaGreatDoor
namespace Go.Proofs.YtiocmiikghcoaaaGreatDoor
open Go.RowKit
namespace Lx
set_option maxRecDepth 100000
theorem ret_bool {a b : Bool} (h : a = b) : Ending.returned (.bool a) = .returned (.bool b) := by rw [h]
theorem ret_int {k : IntKind} {a b : Int} (h : a = b) : Ending.returned (.int k a) = .returned (.int k b) := by rw [h]

theorem small_any (r : Int) (w : World) : Calls Tryz.prog 132 #[.int .i32 r] w fun e w' => e = .returned (.bool (lowR r)) ∧ w = w' := by
 go_enter Tryz.func132, Tryz.ntmps132
 go_wp2
 all_goals
  go_ret
  refine ⟨ret_bool ?_, rfl⟩
  first | (simp [lowR, *]; done) | (simp [lowR]; omega)
theorem capital_any (r : Int) (w : World) : Calls Tryz.prog 133 #[.int .i32 r] w fun e w' => e = .returned (.bool (upR r)) ∧ w = w' := by
 go_enter Tryz.func133, Tryz.ntmps133
 go_wp2
 all_goals
  go_ret
  refine ⟨ret_bool ?_, rfl⟩
  first | (simp [upR, *]; done) | (simp [upR]; omega)
theorem digit_any (r : Int) (w : World) : Calls Tryz.prog 134 #[.int .i32 r] w fun e w' => e = .returned (.bool (digR r)) ∧ w = w' := by
 go_enter Tryz.func134, Tryz.ntmps134
 go_wp2
 all_goals
  go_ret
  refine ⟨ret_bool ?_, rfl⟩
  first | (simp [digR, *]; done) | (simp [digR]; omega)
theorem blank_any (r : Int) (w : World) : Calls Tryz.prog 126 #[.int .i32 r] w fun e w' => e = .returned (.bool (blkR r)) ∧ w = w' := by
 go_enter Tryz.func126, Tryz.ntmps126
 go_wp2
 all_goals
  go_ret
  refine ⟨ret_bool ?_, rfl⟩
  first | rfl | (simp [blkR, *]; done)
theorem ld_any (r : Int) (w : World) : Calls Tryz.prog 129 #[.int .i32 r] w fun e w' => e = .returned (.bool (ldR r)) ∧ w = w' := by
 cases h1 : lowR r
 ·cases h2 : upR r
  ·go_enter Tryz.func129, Tryz.ntmps129
   go_wp2_with (first | (go_at_call 132; refine (small_any _ _).mono ?_; rintro e w' ⟨rfl, rfl⟩) | (go_at_call 133; refine (capital_any _ _).mono ?_; rintro e w' ⟨rfl, rfl⟩) | (go_at_call 134; refine (digit_any _ _).mono ?_; rintro e w' ⟨rfl, rfl⟩))
   all_goals
    go_ret
    refine ⟨ret_bool ?_, rfl⟩
    simp [ldR, h1, h2]
  ·go_enter Tryz.func129, Tryz.ntmps129
   go_wp2_with (first | (go_at_call 132; refine (small_any _ _).mono ?_; rintro e w' ⟨rfl, rfl⟩) | (go_at_call 133; refine (capital_any _ _).mono ?_; rintro e w' ⟨rfl, rfl⟩) | (go_at_call 134; refine (digit_any _ _).mono ?_; rintro e w' ⟨rfl, rfl⟩))
   all_goals
    go_ret
    refine ⟨ret_bool ?_, rfl⟩
    simp [ldR, h1, h2]
 ·go_enter Tryz.func129, Tryz.ntmps129
  go_wp2_with (first | (go_at_call 132; refine (small_any _ _).mono ?_; rintro e w' ⟨rfl, rfl⟩) | (go_at_call 133; refine (capital_any _ _).mono ?_; rintro e w' ⟨rfl, rfl⟩) | (go_at_call 134; refine (digit_any _ _).mono ?_; rintro e w' ⟨rfl, rfl⟩))
  all_goals
   go_ret
   refine ⟨ret_bool ?_, rfl⟩
   simp [ldR, h1]

theorem decode_big (s : ByteArray) (pos : Nat) (h : pos < s.size) (hh : 128 ≤ (s[pos]'h).toNat) : 128 ≤ ((Utf8.decode s pos).1 : Int) := by
 have := (decode_high s pos h hh).1
 omega

set_option maxHeartbeats 400000 in
theorem span_any (K : Nat) (P : Int → Bool) (hen : ∀ args w, (callFunc K args).run Tryz.prog w = .ok (.enter K args) w)
  (hP : ∀ (r : Int) (w : World), Calls Tryz.prog K #[.int .i32 r] w fun e w' => e = .returned (.bool (P r)) ∧ w = w') (hhi : ∀ r, 128 ≤ r → P r = false)
  (s : ByteArray) (w : World) :
  Calls Tryz.prog 125 #[.string s, .func (.func K) #[] #[]] w fun e w' => e = .returned (.int .i64 (run P s.data.toList)) ∧ Below w.heap.size w w' := by
 go_enter Tryz.func125, Tryz.ntmps125
 go_wp2_with fail
 go_loopw [] (fun wr => ∃ k : Nat, k ≤ s.size ∧ wr = w.iter s k ∧ run P s.data.toList = k + run P (s.data.toList.drop k)) (fun wr => s.size - wr.iterPos w.heap.size)
 case atStart => exact ⟨0, Nat.zero_le _, rfl, by simp⟩
 case round =>
  obtain ⟨k, hk, rfl, hrun⟩ := hrel
  have HR := Lib.hid hrun
  clear hrun
  by_cases hlt : k < s.size
  ·have hlen : k < s.data.toList.length := by simpa using hlt
   have hb : s.data.toList[k]'hlen = s[k] := by simp [ByteArray.getElem_eq_getElem_data]
   have hd := Lib.hid (run_drop P s.data.toList k hlen)
   rw [hb] at hd
   clear hb
   have hnx : ∀ ty, (Instr.next (.pointer (some ⟨w.heap.size, 0, none⟩)) true ty).run Tryz.prog (w.iter s k) = _ := fun ty => run_next_any w s k ty hlt
   by_cases ha : (s[k]'hlt).toNat < 128
   ·have he := decode_ascii s k hlt ha
    rw [he] at hnx
    clear he
    cases hp : P ((s[k]'hlt).toNat : Int)
    ·go_wp2_with fail
     refine (hP _ _).mono ?_
     rintro e w' ⟨rfl, rfl⟩
     go_wp2_with fail
     go_ret
     refine ⟨ret_int ?_, (Below.refl _ w).alloc (Nat.le_refl _) _⟩
     rw [HR.out, hd.out, hp]
     simp
    ·go_wp2_with fail
     refine (hP _ _).mono ?_
     rintro e w' ⟨rfl, rfl⟩
     go_wp2_with fail
     go_roundw
     case rel =>
      refine ⟨k + 1, by omega, rfl, ?_⟩
      rw [HR.out, hd.out, hp]
      simp; omega
     case measure => simp; omega
   ·have hbig : 128 ≤ ((Utf8.decode s k).1 : Int) := decode_big s k hlt (by omega)
    have hp := hhi _ hbig
    have hq := Lib.hid (hhi ((s[k]'hlt).toNat : Int) (by omega))
    go_wp2_with fail
    refine (hP _ _).mono ?_
    rintro e w' ⟨rfl, rfl⟩
    go_wp2_with fail
    go_ret
    refine ⟨ret_int ?_, (Below.refl _ w).alloc (Nat.le_refl _) _⟩
    rw [HR.out, hd.out, hq.out]
    simp
  ·have hnx : ∀ ty, (Instr.next (.pointer (some ⟨w.heap.size, 0, none⟩)) true ty).run Tryz.prog (w.iter s k) = _ := fun ty => run_next_end w s k ty hlt
   go_wp2
   go_ret
   refine ⟨ret_int ?_, ?_⟩
   ·rw [HR.out, run_nil P _ _ (by simp; omega)]
    simp; omega
   ·exact (Below.refl _ w).alloc (Nat.le_refl _) _

theorem span_blk (s : ByteArray) (w : World) : Calls Tryz.prog 125 #[.string s, .func (.func 126) #[] #[]] w fun e w' => e = .returned (.int .i64 (run blkR s.data.toList)) ∧ Below w.heap.size w w' :=
 span_any 126 blkR (enters_of Tryz.func126 (by kernel_rfl) rfl) blank_any (fun r h => by simp [blkR]; omega) s w
theorem span_ld (s : ByteArray) (w : World) : Calls Tryz.prog 125 #[.string s, .func (.func 129) #[] #[]] w fun e w' => e = .returned (.int .i64 (run ldR s.data.toList)) ∧ Below w.heap.size w w' :=
 span_any 129 ldR (enters_of Tryz.func129 (by kernel_rfl) rfl) ld_any (fun r h => by simp [ldR, lowR, upR, digR]; omega) s w
theorem span_dig (s : ByteArray) (w : World) : Calls Tryz.prog 125 #[.string s, .func (.func 134) #[] #[]] w fun e w' => e = .returned (.int .i64 (run digR s.data.toList)) ∧ Below w.heap.size w w' :=
 span_any 134 digR (enters_of Tryz.func134 (by kernel_rfl) rfl) digit_any (fun r h => by simp [digR]; omega) s w
theorem span_low (s : ByteArray) (w : World) : Calls Tryz.prog 125 #[.string s, .func (.func 132) #[] #[]] w fun e w' => e = .returned (.int .i64 (run lowR s.data.toList)) ∧ Below w.heap.size w w' :=
 span_any 132 lowR (enters_of Tryz.func132 (by kernel_rfl) rfl) small_any (fun r h => by simp [lowR]; omega) s w
end Lx
end Go.Proofs.YtiocmiikghcoaaaGreatDoor
namespace Go.Proofs
open Go.Shelf
def Tryz.laysM316_ren : Go.Shelf.Ren := ⟨fun | 316 => 119 | n => n, fun | 9 => 9 | 3 => 3 | 4 => 4 | 37 => 80 | 0 => 0 | 127 => 134 | 5 => 5 | n => n, fun | n => n⟩
theorem Tryz.laysM316 : Go.Proofs.LaysM.n316 Tryz.prog Tryz.laysM316_ren := {
 mixed := by kernel_rfl
 f316 := Tryz.func119.trans (congrArg some (by kernel_rfl))
 t0 := Tryz.underlying0
 a0 := Tryz.isAgg0
 z0 := Tryz.sizeOf0
 v0 := Tryz.zeroValue0
 t3 := Tryz.underlying3
 a3 := Tryz.isAgg3
 z3 := Tryz.sizeOf3
 v3 := Tryz.zeroValue3
 t4 := Tryz.underlying4
 a4 := Tryz.isAgg4
 z4 := Tryz.sizeOf4
 v4 := Tryz.zeroValue4
 t9 := Tryz.underlying9
 a9 := Tryz.isAgg9
 z9 := Tryz.sizeOf9
 v9 := Tryz.zeroValue9
 t37 := Tryz.underlying80
 a37 := Tryz.isAgg80
 z37 := Tryz.sizeOf80
 v37 := Tryz.zeroValue80
 t127 := Tryz.underlying134
 a127 := Tryz.isAgg134
 z127 := Tryz.sizeOf134
 v127 := Tryz.zeroValue134
 t5 := Tryz.underlying5
 a5 := Tryz.isAgg5
 z5 := Tryz.sizeOf5
 v5 := Tryz.zeroValue5
 i0 := by kernel_rfl
 i3 := by kernel_rfl
 i4 := by kernel_rfl
 i5 := by kernel_rfl
 i9 := by kernel_rfl
 i37 := by kernel_rfl
 i127 := by kernel_rfl }
open Go.RowKit in
theorem Tryz.stringslite_Clone (s : ByteArray) (w : World) (hlim : s.size ≤ 281474976710656) :
  Calls Tryz.prog 119 #[.string s] w fun e w' => e = .returned (.string s) ∧ Below w.heap.size w w' := Any.stringslite_Clone Tryz.laysM316 s w hlim
def Tryz.lays99_ren : Go.Shelf.Ren := ⟨fun | 99 => 131 | 206 => 137 | n => n, fun | 9 => 9 | 4 => 4 | 3 => 3 | n => n, fun | n => n⟩
theorem Tryz.lays99 : Go.Proofs.Lays.n99 Tryz.prog Tryz.lays99_ren := {
 mixed := by kernel_rfl
 f99 := Tryz.func131.trans (congrArg some (by kernel_rfl))
 f206 := Tryz.func137.trans (congrArg some (by kernel_rfl))
 t3 := Tryz.underlying3
 a3 := Tryz.isAgg3
 z3 := Tryz.sizeOf3
 v3 := Tryz.zeroValue3
 t4 := Tryz.underlying4
 a4 := Tryz.isAgg4
 z4 := Tryz.sizeOf4
 v4 := Tryz.zeroValue4
 t9 := Tryz.underlying9
 a9 := Tryz.isAgg9
 z9 := Tryz.sizeOf9
 v9 := Tryz.zeroValue9 }
open Go.RowKit Go.Lib in
theorem Tryz.strings_HasPrefix (s p : ByteArray) (w : World) :
  Calls Tryz.prog 131 #[.string s, .string p] w fun e w' => e = .returned (.bool (Lib.hasPrefix s.data.toList p.data.toList)) ∧ w' = w := Any.strings_HasPrefix Tryz.lays99 s p w
end Go.Proofs
namespace Go.Proofs.YtiocmiikghcoaaaGreatDoor
open Go.RowKit
namespace Lx
set_option maxRecDepth 100000
theorem res_tok {fn : Func} {p : Tmp} (h : fn.results = #[.cell p 75]) {tmps : Array Value} {g : Nat} {a b c d : Value} {w : World} (hp : tmps.getD p undef = .pointer (some ⟨g, 0, none⟩)) (L : Lies w g 75 #[a, b, c, d]) :
  (results fn tmps).run Tryz.prog w = .ok (.agg #[a, b, c, d]) w := by
 have hl := run_loadVar_row (P := Tryz.prog) w g 75 75 #[a, b, c, d] (0, 0) _ L Tryz.underlying75 rfl (by kernel_rfl)
 have hp' : tmps[p]?.getD undef = .pointer (some ⟨g, 0, none⟩) := by simpa using hp
 simp only [results, h]
 simp [hp', asAddr, hl]
theorem Lies.all {w : World} {g : Nat} {t : TypeId} {a b c d : Value} (h : Lies w g t #[a, b, c, d]) (x y z u : Value) : Lies ((((w.setCell ⟨g, 0, none⟩ x).setCell ⟨g, 1, none⟩ y).setCell ⟨g, 2, none⟩ z).setCell ⟨g, 3, none⟩ u) g t #[x, y, z, u] := by
 simpa using (((h.put 0 x).put 1 y).put 2 z).put 3 u
theorem Below.all {B : Nat} {a w : World} (h : Below B a w) {g : Nat} (hg : B ≤ g) (x y z u : Value) : Below B a ((((w.setCell ⟨g, 0, none⟩ x).setCell ⟨g, 1, none⟩ y).setCell ⟨g, 2, none⟩ z).setCell ⟨g, 3, none⟩ u) :=
 (((h.setCell (p := ⟨g, 0, none⟩) hg x).setCell (p := ⟨g, 1, none⟩) hg y).setCell (p := ⟨g, 2, none⟩) hg z).setCell (p := ⟨g, 3, none⟩) hg u

theorem clone_any (s : ByteArray) (w : World) (hs : s.size ≤ 281474976710656) : Calls Tryz.prog 88 #[.string s] w fun e w' => e = .returned (.string s) ∧ Below w.heap.size w w' := by
 go_enter Tryz.func88, Tryz.ntmps88
 go_wp2_with fail
 refine (Tryz.stringslite_Clone s _ hs).mono ?_
 rintro e w1 ⟨rfl, hb1⟩
 go_wp2_with fail
 go_ret
 exact ⟨rfl, hb1⟩

set_option maxHeartbeats 1000000 in
theorem number_ok (s : ByteArray) (at_ : Int) (w : World) (hd : run digR s.data.toList = s.data.toList.length) (h18 : s.size ≤ 18)
  (h0 : s.size ≤ 1 ∨ ∃ h : 1 < s.size, (((s[0]'(by omega)).toNat : Int) == 48) = false) :
  Calls Tryz.prog 135 #[.string s, .int .i64 at_] w fun e w' => e = .returned (.agg #[.int .i64 3, .string s, .int .i64 (numV s.data.toList), .int .i64 at_]) ∧ Below w.heap.size w w' := by
 have HD := Lib.hid hd
 clear hd
 rcases h0 with h0 | ⟨h1, h0⟩
 all_goals
  go_enter Tryz.func135, Tryz.ntmps135
  go_wp2_with fail
  refine (span_dig _ _).mono ?_
  rintro e w1 ⟨rfl, hb1⟩
  rw [HD.out]
  go_wp2_with fail
  go_loopw [5] (fun n wr => ∃ k : Nat, k ≤ s.size ∧ wr = w1.iter s k ∧ n = .int .i64 (numV (s.data.toList.take k))) (fun _ wr => s.size - wr.iterPos w1.heap.size)
  case atStart => exact ⟨0, Nat.zero_le _, rfl, rfl⟩
  case round =>
   obtain ⟨k, hk, rfl, rfl⟩ := hrel
   by_cases hlt : k < s.size
   ·have hlen : k < s.data.toList.length := by simpa using hlt
    have hb : s.data.toList[k]'hlen = s[k] := by simp [ByteArray.getElem_eq_getElem_data]
    have hmem := dig_of digR _ HD.out (s.data.toList[k]'hlen) (List.getElem_mem hlen)
    have HS := Lib.hid (take_snoc s.data.toList k hlen)
    have hbd := numV_bd k (s.data.toList.take k) (by simp; omega) (fun c hc => dig_of digR _ HD.out c (List.mem_of_mem_take hc))
    have hp := pow_le17 k (by omega)
    rw [hb] at hmem HS
    have hd2 : 48 ≤ ((s[k]'hlt).toNat : Int) ∧ ((s[k]'hlt).toNat : Int) ≤ 57 := by simpa [digR] using hmem
    obtain ⟨hd3, hd4⟩ := hd2
    obtain ⟨hb3, hb4⟩ := hbd
    have hb5 : numV (s.data.toList.take k) ≤ 100000000000000000 := by omega
    clear hp hb4 hmem hb
    have hnx : ∀ ty, (Instr.next (.pointer (some ⟨w1.heap.size, 0, none⟩)) true ty).run Tryz.prog (w1.iter s k) = _ := fun ty => run_next_ascii w1 s k ty hlt (by omega)
    go_wp2_with fail
    go_roundw
    case rel =>
     refine ⟨k + 1, by omega, rfl, ?_⟩
     rw [HS.out, numV_snoc]
    case measure => simp; omega
   ·have hnx : ∀ ty, (Instr.next (.pointer (some ⟨w1.heap.size, 0, none⟩)) true ty).run Tryz.prog (w1.iter s k) = _ := fun ty => run_next_end w1 s k ty hlt
    go_wp2_with fail
    refine (clone_any _ _ (by omega)).mono ?_
    rintro e w2 ⟨rfl, hb2⟩
    have hsz := hb1.size
    have hL : Lies w2 w.heap.size 75 #[.int .i64 0, .string ⟨#[]⟩, .int .i64 0, .int .i64 0] :=
     (((Lies.new w 75 _).below hb1 (by simp)).old (.stringIter s k)).below hb2 (by simp [World.iter] at hsz ⊢; omega)
    obtain ⟨⟨c0, c1, c2, c3⟩, f0, f1, f2, f3⟩ := hL.four
    have hB : Below w.heap.size w w2 := ((((Below.refl _ w).alloc (Nat.le_refl _) _).trans (hb1.mono (by simp))).alloc (by simp at hsz; omega) _).trans (hb2.mono (by simp [World.iter] at hsz ⊢; omega))
    have HT := Lib.hid (List.take_of_length_le (l := s.data.toList) (i := k) (by simp; omega))
    go_wp2_with fail
    exact bodyPost_ret (res_tok (p := 4) Tryz.results135 rfl (hL.all _ _ _ _)) rfl ⟨by rw [HT.out], Below.all hB (Nat.le_refl _) _ _ _ _⟩

theorem data_list (s : ByteArray) : s.toList = s.data.toList := by
 have := Lib.extract_toList s 0 s.size
 rw [ByteArray.extract_zero_size] at this
 rw [this]
 exact List.take_of_length_le (by show s.data.toList.length ≤ s.size; rw [Lib.size_eq]; exact Nat.le_refl _)
theorem below_ac {w w1 : World} {o : Obj} (hb : Below (w.alloc o).heap.size (w.alloc o) w1) : Below w.heap.size w w1 :=
 ((Below.refl _ w).alloc (Nat.le_refl _) _).trans (hb.mono (by simp))
def noTok (at_ e : Int) : Value := .iface 126 (.agg #[.int .i64 at_, .int .i64 e])
set_option maxHeartbeats 1000000 in
theorem number_char (s : ByteArray) (at_ : Int) (w : World) (hd : run digR s.data.toList < s.data.toList.length) :
  Calls Tryz.prog 135 #[.string s, .int .i64 at_] w fun e w' => e = .panicked [{ v := noTok at_ 10, recovered := false }] ∧ Below w.heap.size w w' := by
 have hd' : run digR s.data.toList < s.size := by simpa using hd
 clear hd
 unfold noTok
 go_enter Tryz.func135, Tryz.ntmps135
 go_wp2_with fail
 refine (span_dig _ _).mono ?_
 rintro e w1 ⟨rfl, hb1⟩
 go_wp2_with fail
 exact ⟨rfl, rfl, below_ac hb1⟩
set_option maxHeartbeats 1000000 in
theorem number_long (s : ByteArray) (at_ : Int) (w : World) (hd : run digR s.data.toList = s.data.toList.length)
  (h0 : 18 < s.size ∨ (s.size ≤ 18 ∧ ∃ h : 1 < s.size, (((s[0]'(by omega)).toNat : Int) == 48) = true)) :
  Calls Tryz.prog 135 #[.string s, .int .i64 at_] w fun e w' => e = .panicked [{ v := noTok at_ 11, recovered := false }] ∧ Below w.heap.size w w' := by
 have HD := Lib.hid hd
 clear hd
 unfold noTok
 rcases h0 with h0 | ⟨h18, h1, h0⟩
 all_goals
  go_enter Tryz.func135, Tryz.ntmps135
  go_wp2_with fail
  refine (span_dig _ _).mono ?_
  rintro e w1 ⟨rfl, hb1⟩
  rw [HD.out]
  go_wp2_with fail
  exact ⟨rfl, rfl, below_ac hb1⟩

theorem word_any (s : ByteArray) (w : World) : Calls Tryz.prog 136 #[.string s] w fun e w' => e = .returned (.bool (wordS s.data.toList)) ∧ w = w' := by
 go_enter Tryz.func136, Tryz.ntmps136
 go_wp2
 all_goals
  go_ret
  refine ⟨ret_bool ?_, rfl⟩
  rw [← data_list]
  simp_all [wordS]

theorem head_eq (s : ByteArray) (h : 0 < s.size) : s.data.toList.head? = some (s[0]'h) := by
 obtain ⟨⟨l⟩⟩ := s
 cases l with
 | nil => simp [ByteArray.size] at h
 | cons a r => rfl
theorem b48 (c : UInt8) : ((c.toNat : Int) == 48) = decide (c = 48) := by
 rw [Bool.eq_iff_iff]
 simp only [beq_iff_eq, decide_eq_true_eq]
 constructor
 ·intro h; apply UInt8.toNat_inj.1; simp; omega
 ·rintro rfl; rfl

theorem num_good (s : ByteArray) (at_ k n : Int) (w : World) (h : numK s.data.toList = .ok (k, n)) :
  Calls Tryz.prog 135 #[.string s, .int .i64 at_] w fun e w' => e = .returned (.agg #[.int .i64 k, .string s, .int .i64 n, .int .i64 at_]) ∧ Below w.heap.size w w' := by
 unfold numK at h
 have hr := run_le digR s.data.toList
 split at h
 ·cases h
 ·split at h
  ·cases h
  ·rename_i h1 h2
   simp only [Except.ok.injEq, Prod.mk.injEq] at h
   obtain ⟨rfl, rfl⟩ := h
   rw [← Lib.size_eq] at h2
   refine number_ok s at_ w (by omega) (by omega) ?_
   by_cases h3 : 1 < s.size
   ·refine .inr ⟨h3, ?_⟩
    rw [b48, decide_eq_false]
    intro h4
    exact h2 (.inr ⟨h3, by rw [head_eq s (by omega), h4]⟩)
   ·exact .inl (by omega)

theorem num_bad (s : ByteArray) (at_ x : Int) (w : World) (h : numK s.data.toList = .error x) :
  Calls Tryz.prog 135 #[.string s, .int .i64 at_] w fun e w' => e = .panicked [{ v := noTok at_ x, recovered := false }] ∧ Below w.heap.size w w' := by
 unfold numK at h
 have hr := run_le digR s.data.toList
 split at h
 ·rename_i h1
  cases h
  exact number_char s at_ w h1
 ·rename_i h1
  split at h
  ·rename_i h2
   cases h
   rw [← Lib.size_eq] at h2
   refine number_long s at_ w (by omega) ?_
   by_cases h18 : 18 < s.size
   ·exact .inl h18
   ·obtain ⟨h3, h4⟩ : 1 < s.size ∧ s.data.toList.head? = some 48 := h2.resolve_left h18
    refine .inr ⟨by omega, h3, ?_⟩
    rw [head_eq s (by omega)] at h4
    rw [b48, decide_eq_true_eq]
    exact Option.some.inj h4
  ·cases h

set_option maxHeartbeats 1000000 in
theorem run_num (s : ByteArray) (at_ k n : Int) (w : World) (h0 : 0 < run digR s.data.toList) (h : numK s.data.toList = .ok (k, n)) :
  Calls Tryz.prog 130 #[.string s, .int .i64 at_] w fun e w' => e = .returned (.agg #[.int .i64 k, .string s, .int .i64 n, .int .i64 at_]) ∧ Below w.heap.size w w' := by
 have HH := Lib.hid h
 clear h
 go_enter Tryz.func130, Tryz.ntmps130
 go_wp2_with fail
 refine (span_dig _ _).mono ?_
 rintro e w1 ⟨rfl, hb1⟩
 go_wp2_with fail
 refine (num_good s at_ k n _ HH.out).mono ?_
 rintro e w2 ⟨rfl, hb2⟩
 have hsz := hb1.size
 have hL : Lies w2 w.heap.size 75 #[.int .i64 0, .string ⟨#[]⟩, .int .i64 0, .int .i64 0] :=
  ((Lies.new w 75 _).below hb1 (by simp)).below hb2 (by simp at hsz ⊢; omega)
 obtain ⟨⟨c0, c1, c2, c3⟩, f0, f1, f2, f3⟩ := hL.four
 have hB : Below w.heap.size w w2 := (below_ac hb1).trans (hb2.mono (by simp at hsz ⊢; omega))
 go_wp2_with fail
 exact bodyPost_ret (res_tok (p := 4) Tryz.results130 rfl (hL.all _ _ _ _)) rfl ⟨rfl, Below.all hB (Nat.le_refl _) _ _ _ _⟩

set_option maxHeartbeats 1000000 in
theorem run_num_bad (s : ByteArray) (at_ x : Int) (w : World) (h0 : 0 < run digR s.data.toList) (h : numK s.data.toList = .error x) :
  Calls Tryz.prog 130 #[.string s, .int .i64 at_] w fun e w' => e = .panicked [{ v := noTok at_ x, recovered := false }] ∧ Below w.heap.size w w' := by
 have HH := Lib.hid h
 clear h
 go_enter Tryz.func130, Tryz.ntmps130
 go_wp2_with fail
 refine (span_dig _ _).mono ?_
 rintro e w1 ⟨rfl, hb1⟩
 go_wp2_with fail
 refine (num_bad s at_ x _ HH.out).mono ?_
 rintro e w2 ⟨rfl, hb2⟩
 have hsz := hb1.size
 have hB : Below w.heap.size w w2 := (below_ac hb1).trans (hb2.mono (by simp at hsz ⊢; omega))
 go_wp2_with fail
 exact ⟨rfl, rfl, hB⟩

set_option maxHeartbeats 1000000 in
theorem run_long (s : ByteArray) (at_ : Int) (w : World) (h0 : ¬ 0 < run digR s.data.toList) (h : 16 < s.size) :
  Calls Tryz.prog 130 #[.string s, .int .i64 at_] w fun e w' => e = .panicked [{ v := noTok at_ 11, recovered := false }] ∧ Below w.heap.size w w' := by
 unfold noTok
 go_enter Tryz.func130, Tryz.ntmps130
 go_wp2_with fail
 refine (span_dig _ _).mono ?_
 rintro e w1 ⟨rfl, hb1⟩
 go_wp2_with fail
 exact ⟨rfl, rfl, below_ac hb1⟩

set_option maxHeartbeats 1000000 in
theorem run_word (s : ByteArray) (at_ : Int) (w : World) (h0 : ¬ 0 < run digR s.data.toList) (h : s.size ≤ 16) (hw : wordS s.data.toList = true) :
  Calls Tryz.prog 130 #[.string s, .int .i64 at_] w fun e w' => e = .returned (.agg #[.int .i64 4, .string s, .int .i64 0, .int .i64 at_]) ∧ Below w.heap.size w w' := by
 have HW := Lib.hid hw
 clear hw
 go_enter Tryz.func130, Tryz.ntmps130
 go_wp2_with fail
 refine (span_dig _ _).mono ?_
 rintro e w1 ⟨rfl, hb1⟩
 go_wp2_with fail
 refine (word_any s _).mono ?_
 rintro e w' ⟨rfl, rfl⟩
 rw [HW.out]
 go_wp2_with fail
 refine (clone_any s _ (by omega)).mono ?_
 rintro e w2 ⟨rfl, hb2⟩
 have hsz := hb1.size
 have hL : Lies w2 w.heap.size 75 #[.int .i64 0, .string ⟨#[]⟩, .int .i64 0, .int .i64 0] :=
  ((Lies.new w 75 _).below hb1 (by simp)).below hb2 (by simp at hsz ⊢; omega)
 obtain ⟨⟨c0, c1, c2, c3⟩, f0, f1, f2, f3⟩ := hL.four
 have hB : Below w.heap.size w w2 := (below_ac hb1).trans (hb2.mono (by simp at hsz ⊢; omega))
 go_wp2_with fail
 exact bodyPost_ret (res_tok (p := 4) Tryz.results130 rfl (hL.all _ _ _ _)) rfl ⟨rfl, Below.all hB (Nat.le_refl _) _ _ _ _⟩

set_option maxHeartbeats 1000000 in
theorem run_name (s : ByteArray) (at_ k : Int) (w : World) (h0 : ¬ 0 < run digR s.data.toList) (h : s.size ≤ 16) (hw : wordS s.data.toList = false)
  (hk : (0 < run lowR s.data.toList ∧ k = 1) ∨ (¬ 0 < run lowR s.data.toList ∧ k = 2)) :
  Calls Tryz.prog 130 #[.string s, .int .i64 at_] w fun e w' => e = .returned (.agg #[.int .i64 k, .string s, .int .i64 0, .int .i64 at_]) ∧ Below w.heap.size w w' := by
 have HW := Lib.hid hw
 clear hw
 rcases hk with ⟨hk, rfl⟩ | ⟨hk, rfl⟩
 all_goals
  go_enter Tryz.func130, Tryz.ntmps130
  go_wp2_with fail
  refine (span_dig _ _).mono ?_
  rintro e w1 ⟨rfl, hb1⟩
  go_wp2_with fail
  refine (word_any s _).mono ?_
  rintro e w' ⟨rfl, rfl⟩
  rw [HW.out]
  go_wp2_with fail
  refine (span_low _ _).mono ?_
  rintro e w3 ⟨rfl, hb3⟩
  go_wp2_with fail
  refine (clone_any s _ (by omega)).mono ?_
  rintro e w2 ⟨rfl, hb2⟩
  have hsz := hb1.size
  have hsz3 := hb3.size
  have hL : Lies w2 w.heap.size 75 #[.int .i64 0, .string ⟨#[]⟩, .int .i64 0, .int .i64 0] :=
   (((Lies.new w 75 _).below hb1 (by simp)).below hb3 (by simp at hsz ⊢; omega)).below hb2 (by simp at hsz ⊢; omega)
  obtain ⟨⟨c0, c1, c2, c3⟩, f0, f1, f2, f3⟩ := hL.four
  have hB : Below w.heap.size w w2 := ((below_ac hb1).trans (hb3.mono (by simp at hsz ⊢; omega))).trans (hb2.mono (by simp at hsz ⊢; omega))
  go_wp2_with fail
  exact bodyPost_ret (res_tok (p := 4) Tryz.results130 rfl (hL.all _ _ _ _)) rfl ⟨rfl, Below.all hB (Nat.le_refl _) _ _ _ _⟩

theorem run_good (s : ByteArray) (at_ k n : Int) (w : World) (h : runK s.data.toList = .ok (k, n)) :
  Calls Tryz.prog 130 #[.string s, .int .i64 at_] w fun e w' => e = .returned (.agg #[.int .i64 k, .string s, .int .i64 n, .int .i64 at_]) ∧ Below w.heap.size w w' := by
 unfold runK at h
 split at h
 ·rename_i h0
  exact run_num s at_ k n w h0 h
 ·rename_i h0
  split at h
  ·cases h
  ·rename_i h1
   rw [← Lib.size_eq] at h1
   split at h
   ·rename_i h2
    cases h
    exact run_word s at_ w h0 (by omega) h2
   ·rename_i h2
    have h2' : wordS s.data.toList = false := by simpa using h2
    split at h
    ·rename_i h3
     cases h
     exact run_name s at_ 1 w h0 (by omega) h2' (.inl ⟨h3, rfl⟩)
    ·rename_i h3
     cases h
     exact run_name s at_ 2 w h0 (by omega) h2' (.inr ⟨h3, rfl⟩)
theorem run_bad (s : ByteArray) (at_ x : Int) (w : World) (h : runK s.data.toList = .error x) :
  Calls Tryz.prog 130 #[.string s, .int .i64 at_] w fun e w' => e = .panicked [{ v := noTok at_ x, recovered := false }] ∧ Below w.heap.size w w' := by
 unfold runK at h
 split at h
 ·rename_i h0
  exact run_num_bad s at_ x w h0 h
 ·rename_i h0
  split at h
  ·rename_i h1
   rw [← Lib.size_eq] at h1
   cases h
   exact run_long s at_ w h0 h1
  ·split at h
   ·cases h
   ·split at h <;> cases h
def signCells : Array Value := (signsS.map fun g => Value.string ⟨g.toArray⟩).toArray
def Signs (w : World) : Prop := ∃ t fr, w.heap[0]? = some (.cells signCells t fr)
theorem Signs.pos {w : World} (h : Signs w) : 0 < w.heap.size := by
 obtain ⟨t, fr, h⟩ := h
 exact (Array.getElem?_eq_some_iff.1 h).1
theorem Signs.below {w w' : World} {B : Nat} (h : Signs w) (hb : Below B w w') (hB : 0 < B) : Signs w' := by
 obtain ⟨t, fr, h⟩ := h
 exact ⟨t, fr, (hb.block 0 hB).trans h⟩
theorem sign_at (k : Nat) (h : k < 15) (w : World) : (Instr.index 136 (.agg signCells) (.int .i64 k)).run Tryz.prog w = .ok (.string ⟨(signsS.getD k []).toArray⟩) w := by
 have i0 : (Instr.index 136 (.agg signCells) (.int .i64 0)).run Tryz.prog w = .ok (.string ⟨(signsS.getD 0 []).toArray⟩) w := by kernel_rfl
 have i1 : (Instr.index 136 (.agg signCells) (.int .i64 1)).run Tryz.prog w = .ok (.string ⟨(signsS.getD 1 []).toArray⟩) w := by kernel_rfl
 have i2 : (Instr.index 136 (.agg signCells) (.int .i64 2)).run Tryz.prog w = .ok (.string ⟨(signsS.getD 2 []).toArray⟩) w := by kernel_rfl
 have i3 : (Instr.index 136 (.agg signCells) (.int .i64 3)).run Tryz.prog w = .ok (.string ⟨(signsS.getD 3 []).toArray⟩) w := by kernel_rfl
 have i4 : (Instr.index 136 (.agg signCells) (.int .i64 4)).run Tryz.prog w = .ok (.string ⟨(signsS.getD 4 []).toArray⟩) w := by kernel_rfl
 have i5 : (Instr.index 136 (.agg signCells) (.int .i64 5)).run Tryz.prog w = .ok (.string ⟨(signsS.getD 5 []).toArray⟩) w := by kernel_rfl
 have i6 : (Instr.index 136 (.agg signCells) (.int .i64 6)).run Tryz.prog w = .ok (.string ⟨(signsS.getD 6 []).toArray⟩) w := by kernel_rfl
 have i7 : (Instr.index 136 (.agg signCells) (.int .i64 7)).run Tryz.prog w = .ok (.string ⟨(signsS.getD 7 []).toArray⟩) w := by kernel_rfl
 have i8 : (Instr.index 136 (.agg signCells) (.int .i64 8)).run Tryz.prog w = .ok (.string ⟨(signsS.getD 8 []).toArray⟩) w := by kernel_rfl
 have i9 : (Instr.index 136 (.agg signCells) (.int .i64 9)).run Tryz.prog w = .ok (.string ⟨(signsS.getD 9 []).toArray⟩) w := by kernel_rfl
 have i10 : (Instr.index 136 (.agg signCells) (.int .i64 10)).run Tryz.prog w = .ok (.string ⟨(signsS.getD 10 []).toArray⟩) w := by kernel_rfl
 have i11 : (Instr.index 136 (.agg signCells) (.int .i64 11)).run Tryz.prog w = .ok (.string ⟨(signsS.getD 11 []).toArray⟩) w := by kernel_rfl
 have i12 : (Instr.index 136 (.agg signCells) (.int .i64 12)).run Tryz.prog w = .ok (.string ⟨(signsS.getD 12 []).toArray⟩) w := by kernel_rfl
 have i13 : (Instr.index 136 (.agg signCells) (.int .i64 13)).run Tryz.prog w = .ok (.string ⟨(signsS.getD 13 []).toArray⟩) w := by kernel_rfl
 have i14 : (Instr.index 136 (.agg signCells) (.int .i64 14)).run Tryz.prog w = .ok (.string ⟨(signsS.getD 14 []).toArray⟩) w := by kernel_rfl
 match k, h with
 | 0, _ => exact i0
 | 1, _ => exact i1
 | 2, _ => exact i2
 | 3, _ => exact i3
 | 4, _ => exact i4
 | 5, _ => exact i5
 | 6, _ => exact i6
 | 7, _ => exact i7
 | 8, _ => exact i8
 | 9, _ => exact i9
 | 10, _ => exact i10
 | 11, _ => exact i11
 | 12, _ => exact i12
 | 13, _ => exact i13
 | 14, _ => exact i14

theorem span_ld_from (s : ByteArray) (k : Nat) (w : World) : Calls Tryz.prog 125 #[.string (s.extract k s.size), .func (.func 129) #[] #[]] w fun e w' => e = .returned (.int .i64 (run ldR (s.data.toList.drop k))) ∧ Below w.heap.size w w' := by
 have h := span_ld (s.extract k s.size) w
 rw [Lib.extract_to_end] at h
 exact h

def SignPost (l : List UInt8) (at_ : Int) (e : Ending) : Prop :=
 (∀ g, signOf l = some g → e = .returned (.agg #[.int .i64 5, .string ⟨g.toArray⟩, .int .i64 0, .int .i64 at_])) ∧
 (signOf l = none → e = .panicked [{ v := noTok at_ 10, recovered := false }])

theorem prefix_from (s : ByteArray) (k m : Nat) (w : World) : Calls Tryz.prog 131 #[.string (s.extract k s.size), .string ⟨(signsS.getD m []).toArray⟩] w fun e w' =>
  e = .returned (.bool (Lib.hasPrefix (s.data.toList.drop k) (signsS.getD m []))) ∧ w = w' := by
 refine (Tryz.strings_HasPrefix _ _ w).mono ?_
 rintro e w' ⟨rfl, rfl⟩
 rw [Lib.extract_to_end]
 exact ⟨rfl, rfl⟩

set_option maxHeartbeats 1000000 in
theorem token_sign (s : ByteArray) (k : Nat) (w : World) (hk : k ≤ s.size) (hg : Signs w) (h0 : ¬ 0 < run ldR (s.data.toList.drop k)) :
  Calls Tryz.prog 127 #[.string s, .int .i64 k] w fun e w' => SignPost (s.data.toList.drop k) k e ∧ Below w.heap.size w w' := by
 have hpos := hg.pos
 go_enter Tryz.func127, Tryz.ntmps127
 go_wp2_with fail
 refine (span_ld_from _ _ _).mono ?_
 rintro e w1 ⟨rfl, hb1⟩
 have hg1 : Signs w1 := (hg.below ((Below.refl _ w).alloc (Nat.le_refl _) _) hpos).below hb1 (by simp)
 obtain ⟨tt, fr, hg1'⟩ := hg1
 have hL : Lies w1 w.heap.size 75 #[.int .i64 0, .string ⟨#[]⟩, .int .i64 0, .int .i64 0] := (Lies.new w 75 _).below hb1 (by simp)
 have hB : Below w.heap.size w w1 := below_ac hb1
 clear hb1 hg
 go_wp2_with (refine wpList_load_row rfl 136 _ rfl 0 rfl tt _ fr _ hg1' Tryz.underlying136 rfl (by kernel_rfl) ?_)
 clear hg1'
 go_loop [22] (fun v => ∃ m : Nat, m ≤ 15 ∧ v = .int .i64 m ∧ Hid (∀ j, j < m → Lib.hasPrefix (s.data.toList.drop k) (signsS.getD j []) = false)) (fun v => 15 - (intOf v).toNat)
 case atStart => exact ⟨0, by omega, rfl, fun j hj => by omega⟩
 case round =>
  obtain ⟨m, hm, rfl, HF⟩ := hrel
  by_cases hlt : m < 15
  ·have hix := sign_at m hlt w1
   cases hp : Lib.hasPrefix (s.data.toList.drop k) (signsS.getD m [])
   ·have HP := Lib.hid hp
    clear hp
    go_wp2_with fail
    refine (prefix_from _ _ _ _).mono ?_
    rintro e w' ⟨rfl, rfl⟩
    rw [HP.out]
    go_wp2_with fail
    go_round
    case rel =>
     refine ⟨m + 1, by omega, by go_num, fun j hj => ?_⟩
     rcases Nat.lt_or_ge j m with h1 | h1
     ·exact HF.out j h1
     ·obtain rfl : j = m := by omega
      exact HP.out
    case measure => simp [intOf]; omega
   ·have HP := Lib.hid hp
    clear hp
    obtain ⟨⟨c0, c1, c2, c3⟩, f0, f1, f2, f3⟩ := hL.four
    go_wp2_with fail
    refine (prefix_from _ _ _ _).mono ?_
    rintro e w' ⟨rfl, rfl⟩
    rw [HP.out]
    go_wp2_with fail
    refine bodyPost_ret (res_tok (p := 4) Tryz.results127 rfl (hL.all _ _ _ _)) rfl ⟨⟨fun g hg => ?_, fun hg => ?_⟩, Below.all hB (Nat.le_refl _) _ _ _ _⟩
    ·have := find_first (fun g => Lib.hasPrefix (s.data.toList.drop k) g) [] signsS m hlt HF.out HP.out
     unfold signOf at hg
     rw [this] at hg
     rw [← Option.some.inj hg, List.getD_eq_getElem?_getD]
    ·have := find_first (fun g => Lib.hasPrefix (s.data.toList.drop k) g) [] signsS m hlt HF.out HP.out
     unfold signOf at hg
     rw [this] at hg
     cases hg
  ·go_wp2_with fail
   refine ⟨rfl, ⟨fun g hg => ?_, fun hg => rfl⟩, hB⟩
   have := find_none (fun g => Lib.hasPrefix (s.data.toList.drop k) g) [] signsS (fun j hj => HF.out j (by have h15 : signsS.length = 15 := rfl; omega))
   unfold signOf at hg
   rw [this] at hg
   cases hg

theorem toBytes (s : ByteArray) : (⟨s.data.toList.toArray⟩ : ByteArray) = s := by
 cases s; simp
theorem cut_twice (s : ByteArray) (k n : Nat) : ((s.extract k s.size).extract 0 n).data.toList = (s.data.toList.drop k).take n := by
 rw [Lib.extract_data, Lib.extract_to_end]
 simp
theorem cut_eq (s : ByteArray) (k n : Nat) : (s.extract k s.size).extract 0 n = ⟨((s.data.toList.drop k).take n).toArray⟩ := by
 rw [← cut_twice, toBytes]

set_option maxHeartbeats 1000000 in
theorem token_run (s : ByteArray) (k : Nat) (kd n : Int) (w : World) (hk : k ≤ s.size) (h0 : 0 < run ldR (s.data.toList.drop k)) (h : runK ((s.data.toList.drop k).take (run ldR (s.data.toList.drop k))) = .ok (kd, n)) :
  Calls Tryz.prog 127 #[.string s, .int .i64 k] w fun e w' =>
   e = .returned (.agg #[.int .i64 kd, .string ⟨((s.data.toList.drop k).take (run ldR (s.data.toList.drop k))).toArray⟩, .int .i64 n, .int .i64 k]) ∧ Below w.heap.size w w' := by
 have hle := run_le ldR (s.data.toList.drop k)
 have hle2 : run ldR (s.data.toList.drop k) ≤ s.size - k := by simpa using hle
 clear hle
 have HR := fun w => run_good ((s.extract k s.size).extract 0 (run ldR (s.data.toList.drop k))) k kd n w (by rw [cut_twice]; exact h)
 have HH := Lib.hid HR
 clear HR h
 go_enter Tryz.func127, Tryz.ntmps127
 go_wp2_with fail
 refine (span_ld_from _ _ _).mono ?_
 rintro e w1 ⟨rfl, hb1⟩
 go_wp2_with fail
 refine (HH.out _).mono ?_
 rintro e w2 ⟨rfl, hb2⟩
 have hsz := hb1.size
 have hL : Lies w2 w.heap.size 75 #[.int .i64 0, .string ⟨#[]⟩, .int .i64 0, .int .i64 0] :=
  ((Lies.new w 75 _).below hb1 (by simp)).below hb2 (by simp at hsz ⊢; omega)
 obtain ⟨⟨c0, c1, c2, c3⟩, f0, f1, f2, f3⟩ := hL.four
 have hB : Below w.heap.size w w2 := (below_ac hb1).trans (hb2.mono (by simp at hsz ⊢; omega))
 go_wp2_with fail
 exact bodyPost_ret (res_tok (p := 4) Tryz.results127 rfl (hL.all _ _ _ _)) rfl ⟨by rw [cut_eq], Below.all hB (Nat.le_refl _) _ _ _ _⟩

set_option maxHeartbeats 1000000 in
theorem token_run_bad (s : ByteArray) (k : Nat) (x : Int) (w : World) (hk : k ≤ s.size) (h0 : 0 < run ldR (s.data.toList.drop k)) (h : runK ((s.data.toList.drop k).take (run ldR (s.data.toList.drop k))) = .error x) :
  Calls Tryz.prog 127 #[.string s, .int .i64 k] w fun e w' => e = .panicked [{ v := noTok k x, recovered := false }] ∧ Below w.heap.size w w' := by
 have hle := run_le ldR (s.data.toList.drop k)
 have hle2 : run ldR (s.data.toList.drop k) ≤ s.size - k := by simpa using hle
 clear hle
 have HR := fun w => run_bad ((s.extract k s.size).extract 0 (run ldR (s.data.toList.drop k))) k x w (by rw [cut_twice]; exact h)
 have HH := Lib.hid HR
 clear HR h
 go_enter Tryz.func127, Tryz.ntmps127
 go_wp2_with fail
 refine (span_ld_from _ _ _).mono ?_
 rintro e w1 ⟨rfl, hb1⟩
 go_wp2_with fail
 refine (HH.out _).mono ?_
 rintro e w2 ⟨rfl, hb2⟩
 have hsz := hb1.size
 have hB : Below w.heap.size w w2 := (below_ac hb1).trans (hb2.mono (by simp at hsz ⊢; omega))
 go_wp2_with fail
 exact ⟨rfl, rfl, hB⟩

theorem token_good (s : ByteArray) (k : Nat) (kd n : Int) (t : List UInt8) (w : World) (hk : k ≤ s.size) (hg : Signs w) (h : tokK (s.data.toList.drop k) = .ok (kd, n, t)) :
  Calls Tryz.prog 127 #[.string s, .int .i64 k] w fun e w' => e = .returned (.agg #[.int .i64 kd, .string ⟨t.toArray⟩, .int .i64 n, .int .i64 k]) ∧ Below w.heap.size w w' := by
 unfold tokK at h
 split at h
 ·rename_i h0
  split at h
  ·rename_i k' n' h1
   simp only [Except.ok.injEq, Prod.mk.injEq] at h
   obtain ⟨rfl, rfl, rfl⟩ := h
   exact token_run s k _ _ w hk h0 h1
  ·cases h
 ·rename_i h0
  split at h
  ·rename_i g h1
   simp only [Except.ok.injEq, Prod.mk.injEq] at h
   obtain ⟨rfl, rfl, rfl⟩ := h
   refine (token_sign s k w hk hg h0).mono ?_
   rintro e w' ⟨he, hb⟩
   exact ⟨he.1 _ h1, hb⟩
  ·cases h
theorem token_bad (s : ByteArray) (k : Nat) (x : Int) (w : World) (hk : k ≤ s.size) (hg : Signs w) (h : tokK (s.data.toList.drop k) = .error x) :
  Calls Tryz.prog 127 #[.string s, .int .i64 k] w fun e w' => e = .panicked [{ v := noTok k x, recovered := false }] ∧ Below w.heap.size w w' := by
 unfold tokK at h
 split at h
 ·rename_i h0
  split at h
  ·cases h
  ·rename_i e1 h1
   cases h
   exact token_run_bad s k _ w hk h0 h1
 ·rename_i h0
  split at h
  ·cases h
  ·rename_i h1
   cases h
   refine (token_sign s k w hk hg h0).mono ?_
   rintro e w' ⟨he, hb⟩
   exact ⟨he.2 h1, hb⟩
theorem own_below {w w' : World} {base : Nat} {e : TypeId} {size : Nat} {v : Value} {n : Nat} {xs : List Value} {B : Nat} (h : w.ownsRow base e size v n xs) (hb : Below B w w') (hB : w.heap.size ≤ B) : w'.ownsRow base e size v n xs := by
 obtain ⟨h1, h2⟩ := h
 refine ⟨h1, ?_⟩
 rcases h2 with h2 | ⟨g, cap, cur, hv, hg, hh, r⟩
 ·exact .inl h2
 ·have hlt : g < w.heap.size := (Array.getElem?_eq_some_iff.1 hh).1
  exact .inr ⟨g, cap, cur, hv, hg, (hb.block g (by omega)).trans hh, r⟩
theorem Lies.grown {w w' : World} {g : Nat} {t : TypeId} {cs : Array Value} {row : Option Nat} (h : Lies w g t cs) (hb : w.grownBy w' row) (hg : some g ≠ row) : Lies w' g t cs := (hb.block g h.lt hg).trans h

theorem new_cells (w : World) (t : TypeId) (cs : List Value) (g : Nat) (hg : g = w.heap.size) : ∀ (j : Nat) (u : Value), cs[j]? = some u → (w.alloc (.cells cs.toArray t)).cell? ((⟨g, 0, none⟩ : Addr).add j) = some u := by
 intro j u hu
 subst hg
 have hadd : (⟨w.heap.size, 0, none⟩ : Addr).add j = ⟨w.heap.size, j, none⟩ := by unfold Addr.add; split <;> simp_all
 rw [hadd, (Lies.new w t cs.toArray).cell j]
 simpa using hu
theorem info33 : (Tryz.prog.info? 75).map (fun i => (i.zero, i.size, i.bytes)) = some (some (.agg #[.int .i64 0, .string ⟨#[]⟩, .int .i64 0, .int .i64 0]), 4, 40) := by kernel_rfl

def TokensPost (B : Nat) (w : World) (r : Except (Int × Int) (List Tok)) (e : Ending) (w' : World) : Prop :=
 (∀ ts, r = .ok ts → ∃ v, e = .returned v ∧ w'.ownsRow B 75 4 v ts.length (cellsOf ts)) ∧
 (∀ p x, r = .error (p, x) → e = .panicked [{ v := noTok p x, recovered := false }]) ∧ Below B w w'

theorem span_blk_from (s : ByteArray) (k : Nat) (w : World) : Calls Tryz.prog 125 #[.string (s.extract k s.size), .func (.func 126) #[] #[]] w fun e w' => e = .returned (.int .i64 (run blkR (s.data.toList.drop k))) ∧ Below w.heap.size w w' := by
 have h := span_blk (s.extract k s.size) w
 rw [Lib.extract_to_end] at h
 exact h

set_option maxHeartbeats 2000000 in
theorem tokens_any (s : ByteArray) (w : World) (hs : s.size ≤ 60000) (hg : Signs w) :
  Calls Tryz.prog 117 #[.string s] w fun e w' => TokensPost w.heap.size w (allK s.data.toList) e w' := by
 have hpos := hg.pos
 have hl0 := Lib.hid (Lib.size_eq s)
 have hr0 := run_le blkR s.data.toList
 rw [← hl0.out] at hr0
 go_enter Tryz.func117, Tryz.ntmps117
 go_wp2_with fail
 refine (span_blk _ _).mono ?_
 rintro e w1 ⟨rfl, hb1⟩
 go_wp2_with fail
 go_loopw [3, 4] (fun v a wr => ∃ (k f : Nat) (acc : List Tok), k ≤ s.size ∧ a = .int .i64 k ∧ s.size < k + f ∧ acc.length ≤ k ∧ wr.ownsRow w.heap.size 75 4 v acc.length (cellsOf acc) ∧ Below w.heap.size w wr ∧ Hid (allK s.data.toList = glue acc (scan f (s.data.toList.drop k) k))) (fun _ a _ => s.size - (intOf a).toNat)
 case atStart =>
  refine ⟨run blkR s.data.toList, s.size + 1, [], hr0, rfl, by omega, by simp, World.ownsRow_nil _ _ _ _, hb1, ?_⟩
  show allK s.data.toList = _
  unfold allK
  rw [← hl0.out]
  cases scan (s.size + 1) (s.data.toList.drop (run blkR s.data.toList)) (run blkR s.data.toList) <;> simp [glue]
 case round =>
  obtain ⟨k, f, acc, hk, rfl, hf, ha, hown, hbw, HS⟩ := hrel
  have hgr : Signs wr := hg.below hbw hpos
  have hbs := hbw.size
  by_cases hlt : k < s.size
  ·obtain ⟨f, rfl⟩ : ∃ f', f = f' + 1 := ⟨f - 1, by omega⟩
   cases htk : tokK (s.data.toList.drop k) with
   | error x =>
    have HB := Lib.hid (token_bad s k x wr hk hgr htk)
    have HE := Lib.hid (scan_bad (f := f) (k := k) (by intro e; have := congrArg List.length e; simp at this; omega) htk)
    clear htk
    go_wp2_with fail
    refine HB.out.mono ?_
    rintro e w2 ⟨rfl, hb2⟩
    go_wp2_with fail
    refine ⟨rfl, fun ts h => ?_, fun p y h => ?_, hbw.trans (hb2.mono hbs)⟩
    ·rw [HS.out, HE.out] at h; cases h
    ·rw [HS.out, HE.out] at h
     simp only [glue, Except.error.injEq, Prod.mk.injEq] at h
     rw [← h.1, ← h.2]
   | ok r =>
    obtain ⟨kd, n, t⟩ := r
    have HB := Lib.hid (token_good s k kd n t wr hk hgr htk)
    have hst := scan_step (l := s.data.toList) (by rw [← hl0.out]; exact hlt) (by rw [← hl0.out]; omega) ha htk HS.out
    rw [← hl0.out] at hst
    obtain ⟨s1, s2, s3, s4, s5⟩ := hst
    have HS5 := Lib.hid s5
    have ht1 := (tok_text htk).1
    clear htk s5 HS
    go_wp2_with fail
    refine HB.out.mono ?_
    rintro e w2 ⟨rfl, hb2⟩
    have hown2 := own_below hown hb2 (Nat.le_refl _)
    have hsz2 := hb2.size
    obtain ⟨i0, hi, hz0, hz1, hz2⟩ := info_parts info33
    clear hb1 hr0 HB
    go_wp2_with (at_builtin; refine wpList_append_own _ rfl _ _ 68 rfl w.heap.size 75 i0 _ 4 40 Tryz.underlying68 hi hz0 hz1 hz2 rfl (by decide) _ _ _ rfl ((hown2.alloc _).alloc _) ⟨w2.heap.size + 1, 0, none⟩ 1 1 [.int .i64 kd, .string ⟨t.toArray⟩, .int .i64 n, .int .i64 k] rfl rfl ?c1 ?c2 ?c3 ?c4 ?c5 ?_)
    case c1 => exact new_cells _ 75 [.int .i64 kd, .string ⟨t.toArray⟩, .int .i64 n, .int .i64 k] _ (by simp)
    case c2 => intro u hu; simp at hu; rcases hu with rfl | rfl | rfl | rfl <;> rfl
    case c3 => simp only [maxLen]; omega
    case c4 => omega
    case c5 => simp; omega
    intro v' w3 hown3 hg3 _
    have hL : Lies w3 w2.heap.size 75 #[.int .i64 kd, .string ⟨t.toArray⟩, .int .i64 n, .int .i64 k] :=
     ((Lies.new w2 75 _).old _).grown hg3 (fun e => by have := hown2.lt _ e.symm; omega)
    have hB3 : Below w.heap.size w w3 := ((((hbw.trans (hb2.mono hbs)).alloc (by omega) _).alloc (by simp; omega) _)).grown hg3 (by simp; omega) (fun q hq => (hown2.lt q hq).1)
    clear hi hz0 hz1 hz2 hg3 hown2
    obtain ⟨⟨_, c1, _, _⟩, _⟩ := hL.four
    go_wp2_with fail
    refine (span_blk_from s (k + t.length) _).mono ?_
    rintro e w4 ⟨rfl, hb4⟩
    go_wp2_with fail
    go_roundw
    case rel =>
     have hown4 := own_below hown3 hb4 (Nat.le_refl _)
     refine ⟨k + t.length + run blkR (s.data.toList.drop (k + t.length)), f, acc ++ [⟨kd, t, n, k⟩], s2, by go_num, s3, s4, ?_, hB3.trans (hb4.mono hB3.size), HS5⟩
     rw [cellsOf_snoc, List.length_append]
     exact hown4
    case measure => simp [intOf]; omega
  ·go_wp2_with fail
   go_ret
   have hdr : s.data.toList.drop k = [] := List.drop_eq_nil_of_le (by rw [← hl0.out]; omega)
   have hE := HS.out
   rw [hdr, scan_end] at hE
   simp only [glue, List.append_nil] at hE
   refine ⟨fun ts h => ?_, fun p x h => ?_, hbw⟩
   ·rw [hE] at h
    cases h
    exact ⟨_, rfl, hown⟩
   ·rw [hE] at h; cases h
end Lx
end Go.Proofs.YtiocmiikghcoaaaGreatDoor
