/-
  Texts that lie one behind the other: SuRow HeldK RegK SuBi SuAll Lz0 SuCh SuRows SuRowL Rf UsA UsB.
-/
import Derived.Test.YtikchgigakbeiaaC1
import Derived.Test.YtikchgigakbeiaaProg
import Derived.Test.YtikchgigakbeiaaRows
import Derived.Laws.MakeOwn
import Derived.Laws.Entries
import Derived.Deep.RegionHeld
import Derived.Deep.MidRow
import Derived.Deep.Cut
import Derived.ProofKit
import Derived.OpenShut
import Derived.ChangeArms
import Derived.Carry
import Derived.WideKeyArgs
import Derived.SizedLaws
import Derived.RangeFuncNested
import Derived.RangeFuncBound
import Derived.RangeFuncCalls
import Derived.RangeFuncLeaves
import Derived.OrdersIn
import Derived.TacticsIn
import Derived.Lib.Hide
import Derived.Maps.OwnIn
import Derived.Maps.AppendAt
import Derived.Maps.Views
import Derived.Maps.OwnOps
import Derived.Shelf.Abstract
import Derived.WalkKit
import Derived.OwnWalkIn
import Derived.TacticsInMore
import Derived.LoopNIn
import Derived.LoopIn
namespace Go.Proofs.Ytikchgigakbeiaa
open Go.RowKit
namespace Lx
set_option maxRecDepth 100000
/-- The answer is a term as a value, its parts in new memory. -/
def GivesE (t : Te) (w : World) (e : Ending) (w' : World) : Prop :=
  ∃ A c, e = .returned (ev t A c) ∧ EIn w' (fun g => w.heap.size ≤ g) t A ∧ Below w.heap.size w w'
theorem run_make_rowE {P : Program} (t e : TypeId) (i : TypeInfo) (z : Value) (ht : P.underlying t = some (.slice e)) (hi : P.info? e = some i) (hz : i.zero = some z)
    (kl kc : IntKind) (n c : Nat) (hnc : n ≤ c) (hbytes : i.bytes * c ≤ 281474976710656) (h63 : c ≤ 9223372036854775807) (w : World) :
    (Instr.makeSlice t (.int kl (n : Int)) (.int kc (c : Int))).run P w = .ok (.slice (some ⟨w.heap.size, 0, none⟩) n c) (w.alloc (.cells (madeCells z.cells (c * i.size)) e)) := by
  have hb : (i.bytes : Int) * (c : Int) ≤ 281474976710656 := by
    have h : ((i.bytes * c : Nat) : Int) ≤ 281474976710656 := by omega
    rwa [Int.natCast_mul] at h
  have hr := run_make (P := P) w t e i z ht hi hz kl kc n c (by omega) (by omega) hb (by omega)
  simp only [Int.toNat_natCast] at hr
  exact hr
/-- Block G is a row of m terms, the first of which are those of l. -/
def RowF (w : World) (G m : Nat) (l : List Te) : Prop := ∃ cs, Lies w G 24 cs ∧ cs.size = m * 4 ∧ RowTe w (fun g => G < g) l (cs.toList.take (l.length * 4))
theorem RowF.cell {w : World} {G m : Nat} {l : List Te} (h : RowF w G m l) (i q : Nat) (hi : i < m) (hq : q < 4) : ∃ u, w.cell? ⟨G, i * 4 + q, none⟩ = some u ∧ w.frozen? ⟨G, i * 4 + q, none⟩ = false := by
  obtain ⟨cs, hL, hs, _⟩ := h
  have hlt : i * 4 + q < cs.size := by omega
  exact ⟨cs[i * 4 + q], (hL.cell _).trans (Array.getElem?_eq_getElem hlt), hL.frozen _⟩
theorem RowF.below {w w' : World} {G m : Nat} {l : List Te} {B : Nat} (h : RowF w G m l) (hb : Below B w w') (hB : w.heap.size ≤ B) : RowF w' G m l := by
  obtain ⟨cs, hL, hs, hr⟩ := h
  exact ⟨cs, hL.below hb (by have := hL.lt; omega), hs, hr.below hb hB⟩
theorem RowF.lt {w : World} {G m : Nat} {l : List Te} (h : RowF w G m l) : G < w.heap.size := by obtain ⟨cs, hL, _⟩ := h; exact hL.lt
theorem take_set4 (cs : List Value) (p : Nat) (a b c d : Value) (h : p + 4 ≤ cs.length) :
    ((((cs.set p a).set (p + 1) b).set (p + 2) c).set (p + 3) d).take (p + 4) = cs.take p ++ [a, b, c, d] := by
  apply List.ext_getElem?
  intro j
  by_cases hj : j < p + 4
  · rw [List.getElem?_take_of_lt hj]
    by_cases h0 : j < p
    · rw [List.getElem?_append_left (by simp; omega), List.getElem?_take_of_lt h0]
      simp [show ¬ p = j by omega, show ¬ p + 1 = j by omega, show ¬ p + 2 = j by omega, show ¬ p + 3 = j by omega]
    · rw [List.getElem?_append_right (by simp; omega)]
      have hl : (cs.take p).length = p := by simp; omega
      rw [hl]
      rcases (by omega : j = p ∨ j = p + 1 ∨ j = p + 2 ∨ j = p + 3) with rfl | rfl | rfl | rfl
      · simp [List.getElem?_set]; omega
      · simp [List.getElem?_set, show p + 1 - p = 1 by omega]; omega
      · simp [List.getElem?_set, show p + 2 - p = 2 by omega]; omega
      · simp [List.getElem?_set, show p + 3 - p = 3 by omega]; omega
  · rw [List.getElem?_eq_none (by simp; omega), List.getElem?_eq_none (by simp; omega)]
/-- The next term is stored. -/
theorem RowF.put {w : World} {G m : Nat} {l : List Te} (h : RowF w G m l) (t : Te) (A : Option Addr) (c : Nat) (hi : l.length < m) (ht : EIn w (fun g => G < g) t A) :
    RowF ((((w.setCell ⟨G, l.length * 4, none⟩ (.int .i64 t.kind)).setCell ⟨G, l.length * 4 + 1, none⟩ (.int .i64 t.n)).setCell ⟨G, l.length * 4 + 2, none⟩ (.string t.name)).setCell ⟨G, l.length * 4 + 3, none⟩ (.slice A t.parts.length (capF t.parts.length c))) G m (l ++ [t]) := by
  obtain ⟨cs, hL, hs, hr⟩ := h
  have hX : ∀ p : Addr, p.block = G → ¬ G < p.block := fun p e => by omega
  refine ⟨_, (((hL.put _ _).put _ _).put _ _).put _ _, by simp [hs], ?_⟩
  have h5 : (l ++ [t]).length * 4 = l.length * 4 + 4 := by simp; omega
  rw [h5]
  simp only [Array.toList_setIfInBounds]
  rw [take_set4 _ _ _ _ _ _ (by simp [hs]; omega)]
  have h1 := (((hr.setCell ⟨G, l.length * 4, none⟩ (.int .i64 t.kind) (hX _ rfl)).setCell ⟨G, l.length * 4 + 1, none⟩ (.int .i64 t.n) (hX _ rfl)).setCell ⟨G, l.length * 4 + 2, none⟩ (.string t.name) (hX _ rfl)).setCell ⟨G, l.length * 4 + 3, none⟩ (.slice A t.parts.length (capF t.parts.length c)) (hX _ rfl)
  have h2 := EIn.setCell _ (EIn.setCell _ (EIn.setCell _ (EIn.setCell _ ht ⟨G, l.length * 4, none⟩ (.int .i64 t.kind) (hX _ rfl)) ⟨G, l.length * 4 + 1, none⟩ (.int .i64 t.n) (hX _ rfl)) ⟨G, l.length * 4 + 2, none⟩ (.string t.name) (hX _ rfl)) ⟨G, l.length * 4 + 3, none⟩ (.slice A t.parts.length (capF t.parts.length c)) (hX _ rfl)
  exact h1.snoc (c := c) h2
theorem Lies.far4 {w : World} {g : Nat} {t : TypeId} {cs : Array Value} (h : Lies w g t cs) {G : Nat} (hg : g ≠ G) (o : Nat) (a b c d : Value) :
    Lies ((((w.setCell ⟨G, o, none⟩ a).setCell ⟨G, o + 1, none⟩ b).setCell ⟨G, o + 2, none⟩ c).setCell ⟨G, o + 3, none⟩ d) g t cs :=
  (((h.far (p := ⟨G, o, none⟩) hg _).far (p := ⟨G, o + 1, none⟩) hg _).far (p := ⟨G, o + 2, none⟩) hg _).far (p := ⟨G, o + 3, none⟩) hg _
theorem Below.four {B : Nat} {a w : World} (h : Below B a w) {G : Nat} (hg : B ≤ G) (o : Nat) (x y z u : Value) :
    Below B a ((((w.setCell ⟨G, o, none⟩ x).setCell ⟨G, o + 1, none⟩ y).setCell ⟨G, o + 2, none⟩ z).setCell ⟨G, o + 3, none⟩ u) :=
  (((h.setCell (p := ⟨G, o, none⟩) hg x).setCell (p := ⟨G, o + 1, none⟩) hg y).setCell (p := ⟨G, o + 2, none⟩) hg z).setCell (p := ⟨G, o + 3, none⟩) hg u
/-- All are there. -/
theorem RowF.parts {w : World} {G : Nat} {l : List Te} {Y : Nat → Prop} (h : RowF w G l.length l) (hY : ∀ g, G ≤ g → Y g) : ELIn w Y l (some ⟨G, 0, none⟩) 0 := by
  obtain ⟨cs, hL, hs, hr⟩ := h
  refine hr.parts (hY _ (Nat.le_refl _)) (fun b hb _ => hY b (by omega)) fun j u hu => ?_
  rw [Nat.zero_add, hL.cell j]
  have hj : j < l.length * 4 := by
    rcases Nat.lt_or_ge j (l.length * 4) with h | h
    · exact h
    · rw [List.getElem?_eq_none (by simp; omega)] at hu; cases hu
  rw [List.getElem?_take_of_lt hj] at hu
  simpa using hu
theorem RowF.fresh (w : World) (m : Nat) : RowF (w.alloc (.cells (madeCells #[.int .i64 0, .int .i64 0, .string ⟨#[]⟩, .slice none 0 0] (m * 4)) 24)) w.heap.size m [] := by
  refine ⟨_, Lies.new _ _ _, size_madeCells #[.int .i64 0, .int .i64 0, .string ⟨#[]⟩, .slice none 0 0] _, RowTe.nil _ _⟩
end Lx
end Go.Proofs.Ytikchgigakbeiaa
namespace Go.Proofs.Ytikchgigakbeiaa
open Go
namespace Lx
set_option maxRecDepth 100000
section
variable {P : Program} {ops : Array Oper} {Q : Exit → Act → World → Prop} {md : Region.Mode} {S : World → Prop} {last : Nat}

/-- Whatever order is picked from here on, and S holds behind every operation but the last. -/
def wpAnyK (P : Program) (md : Region.Mode) (ops : Array Oper) (Q : Exit → Act → World → Prop) (S : World → Prop) (last : Nat) : Nat → Array Bool → Act → World → Prop
  | 0, listed, a, w => Region.ready md ops listed = [] ∧ Q .normal a w
  | fuel + 1, listed, a, w =>
    (Region.ready md ops listed = [] → Q .normal a w) ∧
    ∀ i ∈ Region.ready md ops listed, wpOp P ops Q i (fun a' w' => (i ≠ last → S w') ∧ wpAnyK P md ops Q S last fuel (listed.setIfInBounds i true) a' w') a w
theorem wpAny_of_K : ∀ (fuel : Nat) (listed : Array Bool) (a : Act) (w : World), wpAnyK P md ops Q S last fuel listed a w → wpAny P md ops Q fuel listed a w
  | 0, _, _, _, h => h
  | fuel + 1, _, _, _, h => ⟨h.1, fun i hi => wpOp_mono (fun a' w' h' => wpAny_of_K fuel _ a' w' h'.2) (h.2 i hi)⟩
/-- The last operation waits for number i. -/
def waitsB (md : Region.Mode) (ops : Array Oper) (last i : Nat) : Bool :=
  match ops[last]? with
  | some o => o.after.any fun e => Region.binds md e && e.on == i
  | none => false
theorem waits_ready {i : Nat} {listed : Array Bool} (h : waitsB md ops last i = true) (hl : last ∈ Region.ready md ops listed) : listed.getD i false = true := by
  obtain ⟨_, o, ho, hall⟩ := mem_ready.1 hl
  unfold waitsB at h
  rw [ho] at h
  obtain ⟨e, he, hb⟩ := Array.any_eq_true'.1 h
  simp only [Bool.and_eq_true, beq_iff_eq] at hb
  have := hall e he hb.1
  rwa [hb.2] at this
theorem unlisted {i : Nat} {listed : Array Bool} (h : listed.getD i true = false) : listed.getD i false ≠ true := by
  intro h'
  rcases Nat.lt_or_ge i listed.size with hl | hl
  · simp [hl] at h h'; rw [h] at h'; cases h'
  · simp [Array.getElem?_eq_none hl] at h
theorem wpAnyK_first {i : Nat} {oi : Oper} {v : Value} (hi : ops[i]? = some oi) (hsel : ∀ (j : Nat) (o : Oper) cs b, ops[j]? = some o → o.op ≠ .select cs b)
    (hQ : ∀ c a w, Q (.panic c) (a.put oi.dst v) w → Q (.panic c) a w) (hwt : waitsB md ops last i = true) :
    ∀ (fuel : Nat) (listed : Array Bool) (a : Act) (w : World),
      (∀ j oj, ops[j]? = some oj → j ≠ i → listed.getD j true = false → (∀ e ∈ oj.after, Region.binds md e = true → e.on ≠ i) → oi.apart ops oj = true) →
      i ∈ Region.ready md ops listed → YieldsIf P ops S oi v a → S w →
      wpAnyK P md ops Q S last fuel (listed.setIfInBounds i true) (a.put oi.dst v) w → wpAnyK P md ops Q S last (fuel + 1) listed a w := by
  intro fuel
  induction fuel with
  | zero =>
    intro listed a w _ hr hy hS H
    refine ⟨fun h => (by rw [h] at hr; cases hr), fun j hj => ?_⟩
    by_cases hji : j = i
    · subst hji; exact hy.wpOp hi hS ⟨fun _ => hS, H⟩
    · have := ready_mono hj hji
      rw [H.1] at this
      cases this
  | succ fuel ih =>
    intro listed a w hfree hr hy hS H
    refine ⟨fun h => (by rw [h] at hr; cases hr), fun j hj => ?_⟩
    by_cases hji : j = i
    · subst hji; exact hy.wpOp hi hS ⟨fun _ => hS, H⟩
    · have hjl : j ≠ last := fun e => by
        subst e
        exact unlisted (mem_ready.1 hr).1 (waits_ready hwt hj)
      have h1 := H.2 j (ready_mono hj hji)
      obtain ⟨hjun, oj, hoj, hall⟩ := mem_ready.1 hj
      have hnot : ∀ e ∈ oj.after, Region.binds md e = true → e.on ≠ i := fun e he hb heq => by
        have h1 := hall e he hb
        rw [heq] at h1
        exact unlisted (mem_ready.1 hr).1 h1
      have h2 := wpOp_putIf hoj (hfree j oj hoj hji hjun hnot) (fun cs b => hsel i oi cs b hi) (fun cs b => hsel j oj cs b hoj) hQ hy h1
      have hfree' : ∀ k ok, ops[k]? = some ok → k ≠ i → (listed.setIfInBounds j true).getD k true = false →
          (∀ e ∈ ok.after, Region.binds md e = true → e.on ≠ i) → oi.apart ops ok = true := fun k ok hk hki hun hno => by
        refine hfree k ok hk hki ?_ hno
        by_cases hjk : j = k
        · subst hjk; exact hjun
        · rw [getD_set_ne true hjk] at hun; exact hun
      refine wpOp_mono (fun a' w' h3 => ⟨h3.2.1, ih (listed.setIfInBounds j true) a' w' hfree' (ready_mono hr (Ne.symm hji)) h3.1 (h3.2.1 hjl) ?_⟩) h2
      rw [Array.setIfInBounds_comm _ _ hji]
      exact h3.2.2
theorem wpAnyK_take {i : Nat} {oi : Oper} {v : Value} {fuel : Nat} {listed : Array Bool} {a : Act} {w : World} (hi : ops[i]? = some oi)
    (hs : Region.noSelect ops = true) (hwt : waitsB md ops last i = true) (hf : Region.free md ops listed i = true) (hr : (Region.ready md ops listed).contains i = true)
    (hQ : ∀ c a w, Q (.panic c) (a.put oi.dst v) w → Q (.panic c) a w) (hy : YieldsIf P ops S oi v a) (hS : S w)
    (h : wpAnyK P md ops Q S last fuel (listed.setIfInBounds i true) (a.put oi.dst v) w) : wpAnyK P md ops Q S last (fuel + 1) listed a w :=
  wpAnyK_first hi (Region.noSelect_spec hs) hQ hwt fuel listed a w (Region.free_spec hi hf) (by simpa using hr) hy hS h
/-- One operation alone may come up. -/
theorem wpAnyK_one {i : Nat} {o : Oper} {fuel : Nat} {listed : Array Bool} {a : Act} {w : World} (ho : ops[i]? = some o) (hg : o.guard = none) (hr : Region.ready md ops listed = [i])
    (h : ∀ K' : Act → World → Prop, Shut (∀ a w, (i ≠ last → S w) → ((i ≠ last → S w) → wpAnyK P md ops Q S last fuel (listed.setIfInBounds i true) a w) → K' a w) → Oper.wp P o a w K' Q) :
    wpAnyK P md ops Q S last (fuel + 1) listed a w := by
  refine ⟨fun h0 => (by rw [hr] at h0; cases h0), fun j hj => ?_⟩
  rw [hr] at hj
  obtain rfl : j = i := by simpa using hj
  refine wpOp_step ho fun K' hK => ?_
  rw [if_pos (by simp [Region.wanted, hg])]
  exact h K' (fun a w hS hW => hK a w ⟨hS, hW hS⟩)
theorem wpAnyK_done {listed : Array Bool} {a : Act} {w : World} (hr : Region.ready md ops listed = []) (h : Q .normal a w) : ∀ fuel, wpAnyK P md ops Q S last fuel listed a w
  | 0 => ⟨hr, h⟩
  | _ + 1 => ⟨fun _ => h, by rw [hr]; simp⟩
theorem wp_region_K {id : Nat} {a : Act} {w : World} (last : Nat) (hm : P.follows .mixedOrders = true) (hS : S w.drew)
    (h : S w.drew → wpAnyK P .any ops Q S last ops.size (Array.replicate ops.size false) a w.drew) : (Code.region id ops true).wp P Q a w :=
  wp_region_any hm (wpAny_of_K _ _ _ _ (h hS))
end
end Lx
end Go.Proofs.Ytikchgigakbeiaa
namespace Go.Proofs.Ytikchgigakbeiaa
open Go Go.RowKit
namespace Lx
set_option maxRecDepth 100000
section
variable {P : Program} {ops : Array Oper} {Q : Exit → Act → World → Prop} {md : Region.Mode} {S : World → Prop} {last : Nat}
/-- Two operations may come up. -/
theorem wpAnyK_both {i j : Nat} {oi oj : Oper} {fuel : Nat} {listed : Array Bool} {a : Act} {w : World} (hoi : ops[i]? = some oi) (hoj : ops[j]? = some oj) (hgi : oi.guard = none) (hgj : oj.guard = none) (hr : Region.ready md ops listed = [i, j])
    (h1 : ∀ K' : Act → World → Prop, Shut (∀ a w, (i ≠ last → S w) → ((i ≠ last → S w) → wpAnyK P md ops Q S last fuel (listed.setIfInBounds i true) a w) → K' a w) → Oper.wp P oi a w K' Q)
    (h2 : ∀ K' : Act → World → Prop, Shut (∀ a w, (j ≠ last → S w) → ((j ≠ last → S w) → wpAnyK P md ops Q S last fuel (listed.setIfInBounds j true) a w) → K' a w) → Oper.wp P oj a w K' Q) :
    wpAnyK P md ops Q S last (fuel + 1) listed a w := by
  refine ⟨fun h0 => (by rw [hr] at h0; cases h0), fun k hk => ?_⟩
  rw [hr] at hk
  rcases List.mem_cons.1 hk with rfl | hk
  · refine wpOp_step hoi fun K' hK => ?_
    rw [if_pos (by simp [Region.wanted, hgi])]
    exact h1 K' (fun a w hS hW => hK a w ⟨hS, hW hS⟩)
  · obtain rfl : k = j := by simpa using hk
    refine wpOp_step hoj fun K' hK => ?_
    rw [if_pos (by simp [Region.wanted, hgj])]
    exact h2 K' (fun a w hS hW => hK a w ⟨hS, hW hS⟩)
end
theorem lies_is {w : World} {g n : Nat} {t : TypeId} {cs : Array Value} (h : Lies w g t cs) (hn : cs.size = n) : w.there g 0 n := fun k hk => by
  subst hn
  exact ⟨by rw [Nat.zero_add, h.cell k, Array.getElem?_eq_getElem hk]; rfl, by rw [Nat.zero_add]; exact h.frozen k⟩
theorem lies_set4 {w : World} {g : Nat} {t : TypeId} {a b c d : Value} (h : Lies w g t #[a, b, c, d]) (x y z u : Value) : Lies (w.setCells g 0 [x, y, z, u]) g t #[x, y, z, u] := h.all x y z u
theorem below_cells {B : Nat} {a : World} : ∀ {w : World} (_ : Below B a w) {g : Nat} (_ : B ≤ g) (vs : List Value) (o : Nat), Below B a (w.setCells g o vs)
  | _, h, _, _, [], _ => h
  | _, h, g, hg, v :: vs, o => below_cells (h.setCell (p := ⟨g, o, none⟩) hg v) hg vs (o + 1)
theorem lies_offs {g' : Nat} {t : TypeId} {cs : Array Value} : ∀ {w : World} (_ : Lies w g' t cs) {g : Nat} (_ : g' ≠ g) (vs : List Value) (o : Nat), Lies (w.setCells g o vs) g' t cs
  | _, h, _, _, [], _ => h
  | _, h, g, hg, v :: vs, o => lies_offs (h.far (p := ⟨g, o, none⟩) hg v) hg vs (o + 1)
theorem ein_offs {X : Nat → Prop} {A : Option Addr} (t : Te) : ∀ {w : World} (_ : EIn w X t A) {g : Nat} (_ : ¬ X g) (vs : List Value) (o : Nat), EIn (w.setCells g o vs) X t A
  | _, h, _, _, [], _ => h
  | _, h, g, hg, v :: vs, o => ein_offs t (EIn.setCell t h ⟨g, o, none⟩ v hg) hg vs (o + 1)
theorem elin_offs {X : Nat → Prop} {A : Option Addr} (l : List Te) {i : Nat} {w : World} (h : ELIn w X l A i) {g : Nat} (hg : ¬ X g) (vs : List Value) (o : Nat) : ELIn (w.setCells g o vs) X l A i :=
  ELIn.keep l h fun g' j hX _ => by
    have hne : g' ≠ g := fun e => hg (e ▸ hX)
    refine ⟨?_, hX⟩
    have : ∀ (vs : List Value) (w : World) (o : Nat), (w.setCells g o vs).cell? ⟨g', j, none⟩ = w.cell? ⟨g', j, none⟩ := by
      intro vs
      induction vs with
      | nil => intro w o; rfl
      | cons v vs ih =>
        intro w o
        show ((w.setCell ⟨g, o, none⟩ v).setCells g (o + 1) vs).cell? _ = _
        rw [ih]
        exact World.cell?_setCell_other w ⟨g, o, none⟩ ⟨g', j, none⟩ v (fun e => by injection e with e; exact hne e.symm)
    exact this vs w o
theorem size_cells : ∀ (w : World) (g : Nat) (vs : List Value) (o : Nat), (w.setCells g o vs).heap.size = w.heap.size
  | w, g, [], o => rfl
  | w, g, v :: vs, o => by
    show ((w.setCell ⟨g, o, none⟩ v).setCells g (o + 1) vs).heap.size = _
    rw [size_cells]
    simp [World.setCell]
/-- A store of a whole struct, the world behind it a letter. -/
theorem wp_store_as {P : Program} {op : Oper} {a : Act} {w : World} {K : Act → World → Prop} {Q : Exit → Act → World → Prop} (F : World → Prop) (ty : TypeId) (x y : Operand) (ho : op.op = .store ty x y)
    (b o : Nat) (cells : Array Value) (hx : a.eval x = .pointer (some ⟨b, o, none⟩)) (hy : a.eval y = .agg cells)
    (ht : w.there b o cells.size) (hi : (P.info? ty).map (·.size) = some cells.size) (h1 : cells.all (·.oneCell') = true) (hF : F (w.setCells b o cells.toList))
    (h : ∀ W, F W → K (a.put op.dst undef) W) : op.wp P a w K Q := wp_store_mid ty x y ho b o cells hx hy ht hi h1 (h _ hF)
theorem below_on {a b c : World} (h : Below a.heap.size a b) (k : Below b.heap.size b c) : Below a.heap.size a c := h.trans (k.mono h.size)
end Lx
end Go.Proofs.Ytikchgigakbeiaa
namespace Go.Proofs.Ytikchgigakbeiaa
open Go.RowKit
namespace Lx
set_option maxRecDepth 100000
theorem more_any (k n : Int) (s : ByteArray) (A : Option Addr) (m c : Nat) (w : World) :
    Calls Try.prog 73 #[.agg #[.int .i64 k, .int .i64 n, .string s, .slice A m c]] w fun e w' => e = .returned (.int .i64 (moreE k n)) ∧ Below w.heap.size w w' := by
  have hb : Below w.heap.size w (w.alloc (.cells #[.int .i64 k, .int .i64 n, .string s, .slice A m c] 24)) := (Below.refl _ w).alloc (Nat.le_refl _) _
  rcases (by omega : k = 2 ∨ k = 6 ∨ (k ≠ 2 ∧ k ≠ 6)) with rfl | rfl | ⟨h2, h6⟩
  · go_enter Try.func73, Try.ntmps73
    go_wp2_with fail
    go_ret
    exact ⟨rfl, hb⟩
  · go_enter Try.func73, Try.ntmps73
    go_wp2_with fail
    go_ret
    exact ⟨rfl, hb⟩
  · have e2 : (k == 2) = false := by simpa using h2
    have e6 : (k == 6) = false := by simpa using h6
    have HE : Hid (moreE k n = 0) := by
      refine Lib.hid ?_
      simp [moreE, h2, h6]
    clear h2 h6
    go_enter Try.func73, Try.ntmps73
    go_wp2_with fail
    go_ret
    exact ⟨ret_int HE.out.symm, hb⟩
end Lx
end Go.Proofs.Ytikchgigakbeiaa
namespace Go.Proofs.Ytikchgigakbeiaa
open Go.RowKit
namespace Lx
set_option maxRecDepth 100000
theorem chE_kind (F : Int → ByteArray → Int → Te) (k n : Int) (s : ByteArray) (l : List Te) (b : Int) (h : k ≠ 1) : chE F (.node k n s l) b = .node k n s (chEL F l (b + moreE k n)) := by rw [chE, if_neg h]
theorem ev_eta (t : Te) (A : Option Addr) (c : Nat) : ∃ u : Te, u = t ∧ ev t A c = .agg #[.int .i64 u.kind, .int .i64 u.n, .string u.name, .slice A u.parts.length (capF u.parts.length c)] := ⟨t, rfl, rfl⟩
end Lx
end Go.Proofs.Ytikchgigakbeiaa
namespace Go.Proofs.Ytikchgigakbeiaa
open Go.RowKit
namespace Lx
set_option maxRecDepth 100000
theorem ein_mk {w : World} {X : Nat → Prop} {k n : Int} {s : ByteArray} {l : List Te} {A : Option Addr} (hs : s.size ≤ 140737488351232) (h0 : -9223372036854775808 ≤ n) (h1 : n ≤ 9223372036854775807) (hl : l.length ≤ 140737488351232) (h : ELIn w X l A 0) : EIn w X (.node k n s l) A := by
  rw [EIn]; exact ⟨⟨hs, h0, h1⟩, hl, h⟩
theorem lies_next (w : World) (t : TypeId) (cs : Array Value) (g : Nat) (hg : g = w.heap.size) : Lies (w.alloc (.cells cs t)) g t cs := by subst hg; exact Lies.new w t cs
theorem ein_lies1 {w : World} {X : Nat → Prop} {t : Te} {A : Option Addr} {c g : Nat} {ty : TypeId} (L : Lies w g ty #[.int .i64 t.kind, .int .i64 t.n, .string t.name, .slice A t.parts.length (capF t.parts.length c)]) (hg : X g) (h : EIn w X t A) : ELIn w X [t] (some ⟨g, 0, none⟩) 0 := by
  rw [ELIn]
  refine ⟨⟨g, 0, A, c, ⟨rfl, hg⟩, L.cell 0, L.cell 1, L.cell 2, L.cell 3, h⟩, ?_⟩
  rw [ELIn]; trivial
theorem ein_lies2 {w : World} {X : Nat → Prop} {t u : Te} {A B : Option Addr} {c d g : Nat} {ty : TypeId} (L : Lies w g ty #[.int .i64 t.kind, .int .i64 t.n, .string t.name, .slice A t.parts.length (capF t.parts.length c), .int .i64 u.kind, .int .i64 u.n, .string u.name, .slice B u.parts.length (capF u.parts.length d)]) (hg : X g) (h : EIn w X t A) (hu : EIn w X u B) : ELIn w X [t, u] (some ⟨g, 0, none⟩) 0 := by
  rw [ELIn]
  refine ⟨⟨g, 0, A, c, ⟨rfl, hg⟩, L.cell 0, L.cell 1, L.cell 2, L.cell 3, h⟩, ?_⟩
  rw [ELIn]
  refine ⟨⟨g, 0, B, d, ⟨rfl, hg⟩, L.cell 4, L.cell 5, L.cell 6, L.cell 7, hu⟩, ?_⟩
  rw [ELIn]; trivial
end Lx
end Go.Proofs.Ytikchgigakbeiaa
namespace Go.Proofs.Ytikchgigakbeiaa
open Go.RowKit
namespace Lx
set_option maxRecDepth 100000
/-- What is told of a variable: a term of its own, or the variable with another number. -/
def ClosP (F : Int → ByteArray → Int → Te) (n : Int) (s : ByteArray) (A : Option Addr) (c : Nat) (b : Int) (W : World) (e : Ending) (w' : World) : Prop :=
  Below W.heap.size W w' ∧ ((∃ A' c', e = .returned (.tuple #[ev (F n s b) A' c', .bool true]) ∧ EIn w' (fun g => W.heap.size ≤ g) (F n s b) A') ∨
    (∃ n', e = .returned (.tuple #[.agg #[.int .i64 1, .int .i64 n', .string s, .slice A 0 c], .bool false]) ∧ (-9223372036854775808 ≤ n' ∧ n' ≤ 9223372036854775807) ∧ F n s b = .node 1 n' s []))
/-- What becomes of a variable is told by the function K, with what it holds behind. -/
def ClosE (K : Nat) (cap : Array Value) (F : Int → ByteArray → Int → Te) (w0 : World) : Prop :=
  ∀ (n : Int) (s : ByteArray) (A : Option Addr) (c : Nat) (b : Int) (W : World), Below w0.heap.size w0 W → s.size ≤ 140737488351232 → -1099511627776 ≤ n → n ≤ 1099511627776 → -35184372088832000 ≤ b → b ≤ 35184372088832000 →
    Calls Try.prog K (#[.agg #[.int .i64 1, .int .i64 n, .string s, .slice A 0 c], .int .i64 b] ++ cap) W (ClosP F n s A c b W)
end Lx
end Go.Proofs.Ytikchgigakbeiaa
namespace Go.Proofs.Ytikchgigakbeiaa
open Go.ChangeShapes Go.WideShapes Go.ChangeAt Go.RowKit
namespace Lx
set_option maxRecDepth 100000
section
variable {H : Type} {enc : TypeId × Value → H}
theorem cE4S : Try.prog.cellsOf 24 = 4 := by kernel_rfl
theorem bE56S : Try.prog.bytesOf 24 = 56 := by kernel_rfl
theorem wf6S {n : Int} (h : (Lit.int .i64 n).wf = true) : -9223372036854775808 ≤ n ∧ n ≤ 9223372036854775807 := by
  simp [Lit.wf, IntKind.min, IntKind.max, IntKind.signed, IntKind.bits] at h
  omega
theorem c6_3S : Try.prog.cellsOf 3 = 1 := by kernel_rfl
theorem c6_9S : Try.prog.cellsOf 9 = 1 := by kernel_rfl
theorem c6_LS : Try.prog.cellsOf 22 = 1 := by kernel_rfl
theorem cells6_getS {w : World} {base : Nat} {a : Addr} {n : Nat} {cs : List Value} (h : w.cells? base a n = some cs) : ∀ j, j < n → w.cell? (a.add j) = cs[j]? := (World.cells?_some h).2.2
/-- The four cells of a term's reading. -/
theorem open6_partsS {W : World} {base : Nat} {sp : Nat → Bool} {hd : Bool} {fuel : Nat} {cs : List Value} {x : DataW H × List MemPlace} (h : DataW.trod enc Try.prog W base sp hd fuel 24 cs = some x) :
    ∃ (k n : Int) (s : ByteArray) (v : Value) (m : Nat) (y : DataW H × List MemPlace), fuel = m + 1 ∧ cs = [.int .i64 k, .int .i64 n, .string s, v] ∧ DataW.trod enc Try.prog W base sp hd m 22 [v] = some y ∧
      x = (.agg [.lit (.int .i64 k), .lit (.int .i64 n), .lit (.string s.data.toList), y.1], y.2) ∧ -9223372036854775808 ≤ n ∧ n ≤ 9223372036854775807 := by
  obtain ⟨xs, m, e, hx, hl, hlen, hf⟩ := DataW.trod_struct Try.underlying24 h
  rw [cE4S] at hl
  match cs, hl with
  | [c0, c1, c2, c3], _ =>
  match xs, hlen with
  | [x0, x1, x2, x3], _ =>
  have h0 := hf 0 { name := "Kind", type := 3, offset := 0, embedded := false, tag := "", pkgPath := "", byteOffset := 0 } rfl
  have h1 := hf 1 { name := "N", type := 3, offset := 1, embedded := false, tag := "", pkgPath := "", byteOffset := 8 } rfl
  have h2 := hf 2 { name := "Name", type := 9, offset := 2, embedded := false, tag := "", pkgPath := "", byteOffset := 16 } rfl
  have h3 := hf 3 { name := "L", type := 22, offset := 3, embedded := false, tag := "", pkgPath := "", byteOffset := 32 } rfl
  dsimp only at h0 h1 h2 h3
  rw [c6_3S] at h0 h1
  rw [c6_9S] at h2
  rw [c6_LS] at h3
  dsimp at h0 h1 h2 h3
  obtain ⟨k, e0, y0, _⟩ := DataW.trod_int Try.underlying3 h0
  obtain ⟨n, e1, y1, wn⟩ := DataW.trod_int Try.underlying3 h1
  obtain ⟨s, e2, y2, _⟩ := DataW.trod_string Try.underlying9 h2
  obtain rfl := (List.cons.inj e0).1
  obtain rfl := (List.cons.inj e1).1
  obtain rfl := (List.cons.inj e2).1
  subst y0 y1 y2
  refine ⟨k, n, s, c3, m, x3, e, rfl, ?_, ?_, ?_⟩
  · exact h3
  · rw [hx]; simp
  · exact wf6S wn
theorem row6_ofS {Q : Nat → Te → Prop} : ∀ (n : Nat), (∀ i, i < n → ∃ t, Q i t) → ∃ l : List Te, l.length = n ∧ ∀ (i : Nat) (hi : i < l.length), Q i (l[i]'hi)
  | 0, _ => ⟨[], rfl, fun i hi => by simp at hi⟩
  | n + 1, h => by
    obtain ⟨l, hl, hq⟩ := row6_ofS n fun i hi => h i (by omega)
    obtain ⟨t, ht⟩ := h n (by omega)
    refine ⟨l ++ [t], by simp [hl], fun i hi => ?_⟩
    rcases Nat.lt_or_ge i l.length with hlt | hge
    · rw [List.getElem_append_left hlt]; exact hq i hlt
    · have e : i = n := by simp at hi; omega
      subst e
      rw [List.getElem_append_right (by omega)]
      simpa [hl] using ht
theorem spot6_noneS {w : World} {a : Addr} {v : Value} (h : w.cell? a = some v) : a.spot = none := by
  unfold World.cell? at h
  split at h
  · split at h
    · cases h
    · rename_i hs; simpa using hs
  · cases h
theorem weights6_memS {P : Program} {e : TypeId} : ∀ (L : List (DataW H)) (d : DataW H), d ∈ L → ∀ q ∈ DataW.weights P e d, q ∈ DataW.weightsAll P e L
  | [], d, h, _, _ => by cases h
  | a :: r, d, h, q, hq => by
    rw [DataW.weightsAll, List.mem_append]
    rcases List.mem_cons.1 h with rfl | h
    · exact .inl hq
    · exact .inr (weights6_memS r d h q hq)
/-- What reads as a term is one. -/
theorem open_termS {W : World} {base : Nat} {sp : Nat → Bool} {hd : Bool} : ∀ (N fuel : Nat), fuel ≤ N → ∀ {cs : List Value} {x : DataW H × List MemPlace}, DataW.trod enc Try.prog W base sp hd fuel 24 cs = some x →
    (∀ k ∈ DataW.weights Try.prog 24 x.1, k ≤ reachBytes) → ∃ t A c, cs = cellsE t A c ∧ EIn W Any t A := by
  intro N
  induction N with
  | zero => intro fuel hf cs x h; obtain ⟨_, _, _, _, m, _, e, _⟩ := open6_partsS h; omega
  | succ N ih =>
    intro fuel hf cs x h hw
    obtain ⟨k, n, s, v, m, y, e, rfl, hv, rfl, hn0, hn1⟩ := open6_partsS h
    have hwv : ∀ q ∈ DataW.weights Try.prog 22 y.1, q ≤ reachBytes := fun q hq => hw q (by
      rw [DataW.weights, Try.underlying24]
      simp [DataW.weightsEach, DataW.weights, hq])
    have hs : s.size ≤ 140737488351232 := by
      have := hw s.data.toList.length (by
        rw [DataW.weights, Try.underlying24]
        simp [DataW.weightsEach, DataW.weights])
      simpa [reachBytes] using this
    rcases DataW.trod_slice Try.underlying22 hv with ⟨e1, rfl⟩ | ⟨p, len, cap, elems, rest, m', em, e1, rfl, hb, hl, hm, hlen, hel, _, _⟩
    · obtain rfl := (List.cons.inj e1).1
      exact ⟨.node k n s [], none, 0, rfl, ein_mk hs hn0 hn1 (by simp) (by rw [ELIn]; trivial)⟩
    · obtain rfl := (List.cons.inj e1).1
      have hwe : ∀ (i : Nat) (y' : DataW H × List MemPlace), elems[i]? = some y' → ∀ q ∈ DataW.weights Try.prog 24 y'.1, q ≤ reachBytes := fun i y' hy q hq => hwv q (by
        rw [DataW.weights, Try.underlying22]
        have := weights6_memS (elems.map (·.1)) y'.1 (List.mem_map_of_mem (List.mem_of_getElem? hy)) q hq
        simp [this])
      have hlen' : len ≤ 140737488351232 := by
        have := hwv ((elems.length + rest.length) * 56) (by
          rw [DataW.weights, Try.underlying22]
          simp [bE56S])
        have : (elems.length + rest.length) * 56 ≤ 140737488351232 := this
        omega
      obtain ⟨l, hll, hq⟩ := row6_ofS (Q := fun i t => ∃ A c, W.cells? base (p.add (i * 4)) 4 = some (cellsE t A c) ∧ EIn W Any t A ) len fun i hi => by
        have h1 := hel i hi
        rw [cE4S] at h1
        obtain ⟨y', hy'⟩ : ∃ y', elems[i]? = some y' := ⟨_, List.getElem?_eq_getElem (by omega)⟩
        rw [hy', Option.bind_eq_some_iff] at h1
        obtain ⟨cs', hc', ht'⟩ := h1
        obtain ⟨t, A, c, rfl, hT⟩ := ih m' (by omega) ht' (hwe i y' hy')
        exact ⟨t, A, c, hc', hT⟩
      subst hll
      refine ⟨.node k n s l, some p, cap, (by simp only [cellsE, Te.kind, Te.n, Te.name, Te.parts]; rw [capF_of hl]), ein_mk hs hn0 hn1 hlen' ?_⟩
      cases l with
      | nil => trivial
      | cons t0 r =>
        have hps : p.spot = none := by
          obtain ⟨A, c, hc, _⟩ := hq 0 (by simp)
          have := cells6_getS hc 0 (by omega)
          have := spot6_noneS (this.trans (rfl : (cellsE _ _ _)[0]? = some _))
          simpa [Addr.add] using this
        obtain ⟨pb, po, ps⟩ := p
        dsimp only at hps
        subst hps
        refine ELIn.mk (t0 :: r) 0 fun i hi => ?_
        obtain ⟨A, c, hc, hT⟩ := hq i hi
        have hcell : ∀ j, j < 4 → W.cell? ⟨pb, po + i * 4 + j, none⟩ = (cellsE ((t0 :: r)[i]'hi) A c)[j]? := fun j hj => by
          have ea : ((⟨pb, po, none⟩ : Addr).add (i * 4)).add j = ⟨pb, po + i * 4 + j, none⟩ := by
            by_cases hi0 : i * 4 = 0 <;> by_cases hj0 : j = 0 <;> simp [Addr.add, hi0, hj0]
          rw [← cells6_getS hc j hj, ea]
        rw [Nat.zero_add]
        exact ⟨pb, po, A, c, ⟨rfl, trivial⟩, hcell 0 (by omega), hcell 1 (by omega), hcell 2 (by omega), hcell 3 (by omega), hT⟩
/-- The end of a row without variables whose call left all that was there as it was. -/
theorem post_leftS {P : Program} {f : Func} {s : ChangeSpec} {apart fresh handsOn again : Bool} {W W' : World} {args : Array Value} {v : Value} {ds : List (DataW H)} {before : List MemPlace}
    (hW : DataW.Whole enc P f.params.toList s.vars apart W args.toList ds [] before)
    (hres : ∀ (b : Nat) (sp : Nat → Bool) (hd : Bool), DataW.TrodAll enc P W' b sp hd f.resultTypes.toList (v.resultList f.resultTypes.size) (s.fn H (ds ++ [])).results [])
    (hargs : ∀ sp : Nat → Bool, (∀ p ∈ before, sp p.block = true) → DataW.TrodAll enc P W' 0 sp true f.params.toList args.toList (s.fn H (ds ++ [])).args before)
    (hvars : ∀ sp : Nat → Bool, DataW.TrodVars enc P W' sp s.vars (s.fn H (ds ++ [])).vars [])
    (hb : Below W.heap.size W W')
    (hok : ∀ (j : Nat) (t : TypeId) (r : Value), f.resultTypes[j]? = some t → (v.resultList f.resultTypes.size)[j]? = some r → Value.okWide P W' .any 0 t r) :
    s.post enc P f apart fresh handsOn again W args v W' := by
  have hlt : ∀ p ∈ before, p.block < W.heap.size := fun p hp => hW.lt p hp
  refine ⟨ds, [], before, [], before, [], hW, hres _ _ _, hargs _ (fun p hp => by simpa using hlt p hp), hvars _, World.keptBut_mono (fun p hp => ⟨hp, .inr (.inl hp)⟩) (hb.frame (· ∈ before)), fun _ => ?_⟩
  obtain ⟨_, _, _, _, _, hz, hn⟩ := hW
  refine ⟨hok, _, _, ([] ++ before) ++ [], ⟨[] ++ before, [], trodAll_append (hargs _ (fun _ _ => rfl)) (hres _ _ _), hvars _, rfl, ?_, ?_⟩, ?_⟩
  · intro b off hp
    have hin : MemPlace.cell b off ∈ before := by simpa using hp
    rw [hb.frozen (hlt _ hin)]
    exact hz b off hin
  · intro ha
    simpa using hn ha
  · intro p hp _
    simpa using hp
/-- A term among the arguments. -/
theorem term_argS {W : World} {base b0 : Nat} {sp : Nat → Bool} {hd : Bool} {v : Value} {d : DataW H} {ps : List MemPlace} (hval : Value.okWide Try.prog W .any b0 24 v)
    (h : DataW.Trod enc Try.prog W base sp hd 24 v d ps) (hw : ∀ k ∈ DataW.weights Try.prog 24 d, k ≤ reachBytes) : ∃ t A c, v = ev t A c ∧ EIn W Any t A := by
  obtain ⟨cs, rfl, _⟩ := okWide_struct Try.underlying24 hval
  obtain ⟨fuel, hf⟩ := h
  obtain ⟨t, A, c, hcs, hT⟩ := open_termS fuel fuel (Nat.le_refl _) hf hw
  refine ⟨t, A, c, ?_, hT⟩
  have : cs = #[.int .i64 t.kind, .int .i64 t.n, .string t.name, .slice A t.parts.length (capF t.parts.length c)] := Array.ext' hcs
  rw [this]
  rfl
/-- It reads behind the call as it read before. -/
theorem term_againS {W W' : World} {v : Value} {d : DataW H} {ps : List MemPlace} (h : DataW.Trod enc Try.prog W 0 (fun _ => true) true 24 v d ps) (hb : Below W.heap.size W W') (hlt : ∀ x ∈ ps, x.block < W.heap.size)
    {sp : Nat → Bool} (hs : ∀ x ∈ ps, sp x.block = true) : DataW.Trod enc Try.prog W' 0 sp true 24 v d ps :=
  WideElems.Trod_stays (by kernel_rfl) (by kernel_rfl) (of_decide_eq_true (by kernel_rfl)) h (fun x hx => hb.same (hlt x hx)) hs
end
end Lx
end Go.Proofs.Ytikchgigakbeiaa
namespace Go.Proofs.Ytikchgigakbeiaa
open Go.ChangeShapes Go.WideShapes Go.ChangeAt Go.RowKit
namespace Lx
set_option maxRecDepth 100000
section
variable {H : Type} {enc : TypeId × Value → H}
/-- A row of terms among the arguments. -/
theorem list_argS {W : World} {base b0 : Nat} {sp : Nat → Bool} {hd : Bool} {v : Value} {d : DataW H} {ps : List MemPlace} (hval : Value.okWide Try.prog W .any b0 22 v)
    (h : DataW.Trod enc Try.prog W base sp hd 22 v d ps) (hw : ∀ k ∈ DataW.weights Try.prog 22 d, k ≤ reachBytes) : ∃ (l : List Te) (A : Option Addr) (c : Nat), v = .slice A l.length c ∧ l.length ≤ 140737488351232 ∧ ELIn W Any l A 0 := by
  obtain ⟨fuel, hf⟩ := h
  obtain ⟨cs, hcs⟩ : ∃ cs, cs = [v] := ⟨_, rfl⟩
  have hf : DataW.trod enc Try.prog W base sp hd fuel 22 [v] = some (d, ps) := by
    cases v
    case agg cs =>
      exfalso
      unfold Value.okWide at hval
      rw [Try.underlying22] at hval
      unfold Cell.okWide at hval
      rw [Try.underlying22] at hval
      unfold Cell.ok at hval
      rw [Try.underlying22] at hval
      exact hval
    all_goals exact hf
  rcases DataW.trod_slice Try.underlying22 hf with ⟨e1, h1⟩ | ⟨p, len, cap, elems, rest, m', em, e1, h1, hb, hl, hm, hlen, hel, _, _⟩
  · obtain rfl := (List.cons.inj e1).1
    exact ⟨[], none, 0, rfl, by simp, by rw [ELIn]; trivial⟩
  · obtain rfl := (List.cons.inj e1).1
    injection h1 with h1 h2
    subst h1
    have hwe : ∀ (i : Nat) (y' : DataW H × List MemPlace), elems[i]? = some y' → ∀ q ∈ DataW.weights Try.prog 24 y'.1, q ≤ reachBytes := fun i y' hy q hq => hw q (by
      rw [DataW.weights, Try.underlying22]
      have := weights6_memS (elems.map (·.1)) y'.1 (List.mem_map_of_mem (List.mem_of_getElem? hy)) q hq
      simp [this])
    have hlen' : len ≤ 140737488351232 := by
      have := hw ((elems.length + rest.length) * 56) (by
        rw [DataW.weights, Try.underlying22]
        simp [bE56S])
      have : (elems.length + rest.length) * 56 ≤ 140737488351232 := this
      omega
    obtain ⟨l, hll, hq⟩ := row6_ofS (Q := fun i t => ∃ A c, W.cells? base (p.add (i * 4)) 4 = some (cellsE t A c) ∧ EIn W Any t A) len fun i hi => by
      have h1 := hel i hi
      rw [cE4S] at h1
      obtain ⟨y', hy'⟩ : ∃ y', elems[i]? = some y' := ⟨_, List.getElem?_eq_getElem (by omega)⟩
      rw [hy', Option.bind_eq_some_iff] at h1
      obtain ⟨cs', hc', ht'⟩ := h1
      obtain ⟨t, A, c, rfl, hT⟩ := open_termS m' m' (Nat.le_refl _) ht' (hwe i y' hy')
      exact ⟨t, A, c, hc', hT⟩
    subst hll
    refine ⟨l, some p, cap, rfl, hlen', ?_⟩
    cases l with
    | nil => rw [ELIn]; trivial
    | cons t0 r =>
      have hps : p.spot = none := by
        obtain ⟨A, c, hc, _⟩ := hq 0 (by simp)
        have := cells6_getS hc 0 (by omega)
        have := spot6_noneS (this.trans (rfl : (cellsE _ _ _)[0]? = some _))
        simpa [Addr.add] using this
      obtain ⟨pb, po, ps'⟩ := p
      dsimp only at hps
      subst hps
      refine ELIn.mk (t0 :: r) 0 fun i hi => ?_
      obtain ⟨A, c, hc, hT⟩ := hq i hi
      have hcell : ∀ j, j < 4 → W.cell? ⟨pb, po + i * 4 + j, none⟩ = (cellsE ((t0 :: r)[i]'hi) A c)[j]? := fun j hj => by
        have ea : ((⟨pb, po, none⟩ : Addr).add (i * 4)).add j = ⟨pb, po + i * 4 + j, none⟩ := by
          by_cases hi0 : i * 4 = 0 <;> by_cases hj0 : j = 0 <;> simp [Addr.add, hi0, hj0]
        rw [← cells6_getS hc j hj, ea]
      rw [Nat.zero_add]
      exact ⟨pb, po, A, c, ⟨rfl, trivial⟩, hcell 0 (by omega), hcell 1 (by omega), hcell 2 (by omega), hcell 3 (by omega), hT⟩
theorem list_againS {W W' : World} {v : Value} {d : DataW H} {ps : List MemPlace} (h : DataW.Trod enc Try.prog W 0 (fun _ => true) true 22 v d ps) (hb : Below W.heap.size W W') (hlt : ∀ x ∈ ps, x.block < W.heap.size)
    {sp : Nat → Bool} (hs : ∀ x ∈ ps, sp x.block = true) : DataW.Trod enc Try.prog W' 0 sp true 22 v d ps :=
  WideElems.Trod_stays (by kernel_rfl) (by kernel_rfl) (of_decide_eq_true (by kernel_rfl)) h (fun x hx => hb.same (hlt x hx)) hs
end
end Lx
end Go.Proofs.Ytikchgigakbeiaa
namespace Go.Proofs.Ytikchgigakbeiaa
open Go Go.RowKit
namespace Lx
set_option maxRecDepth 100000
section
variable {P : Program} {ops : Array Oper} {Q : Exit → Act → World → Prop} {n : Nat}
/-- What is walked plainly is walked within the wide fence. -/
theorem ops_in (hQ : ¬ LetsOut Q) : ∀ (is : List Nat) (a : Act) (w : World), wpOps P ops Q is a w → wpOpsIn Fence.wide n P ops Q is a w := by
  intro is
  induction is with
  | nil => exact fun a w h => h
  | cons i rest ih =>
    intro a w h
    simp only [wpOps, wpOpsIn] at h ⊢
    cases ho : ops[i]? with
    | none => simp only [ho] at h ⊢; exact ih a w h
    | some o =>
      simp only [ho] at h ⊢
      split
      · rename_i hw
        simp only [hw, if_true] at h
        have h := h.resolve_right fun hh => hQ hh.2
        refine ⟨fun _ _ => trivial, ?_⟩
        show o.uponIn Fence.wide n P a _ Q ((o.semAt none a.eval).run P w)
        rw [Oper.semAt_none]
        unfold Oper.wp at h
        generalize (execOp a.eval o).run P w = r at h ⊢
        cases r with
        | ok x w' =>
          cases x <;> simp only [Oper.upon, Oper.uponIn] at h ⊢
          case value v => exact ih _ _ h
          case skip => exact ih _ _ h
          case defer d => exact ih _ _ h
          case enter f args => exact ⟨fun hd => (by cases hd), callsIn_wide.2 (Calls.mono h fun e w'' he => by cases e <;> first | exact ih _ _ he | exact he)⟩
          case row row args => exact ⟨fun hd => (by cases hd), fun c cs _ => let ⟨v, w'', r, s⟩ := h c cs; ⟨v, w'', ih _ _ r, stepsIn_wide.2 s⟩⟩
        | halt x w' => cases x <;> simp only [Oper.upon, Oper.uponIn] at h ⊢ <;> exact h
      · rename_i hw
        simp only [hw] at h
        exact ⟨fun _ _ => trivial, ih _ _ h⟩
def noDefer (ops : Array Oper) : Bool := ops.all fun o => match o.op with | .defer _ => false | _ => true
theorem noDefer_at (h : noDefer ops = true) {i : Nat} {o : Oper} (ho : ops[i]? = some o) (c : Call) : o.op ≠ .defer c := by
  intro hc
  have hi := (Array.getElem?_eq_some_iff.1 ho).1
  have := (Array.all_eq_true.1 h) i hi
  rw [(Array.getElem?_eq_some_iff.1 ho).2, hc] at this
  cases this
theorem uponIn_round_eq {l : Nat} {o : Oper} {a : Act} {next : Act → World → Prop} (r : Result Next) : o.uponIn (Fence.wide.inRound l) n P a next Q r = o.uponIn Fence.wide n P a next Q r := by
  cases r with
  | ok x w => cases x <;> rfl
  | halt x w => cases x <;> rfl
/-- Within a round all but a defer is as everywhere. -/
theorem ops_round {l : Nat} (hnd : noDefer ops = true) : ∀ (is : List Nat) (a : Act) (w : World), wpOpsIn Fence.wide n P ops Q is a w → wpOpsIn (Fence.wide.inRound l) n P ops Q is a w := by
  intro is
  induction is with
  | nil => exact fun a w h => h
  | cons i rest ih =>
    intro a w h
    simp only [wpOpsIn] at h ⊢
    cases ho : ops[i]? with
    | none => simp only [ho] at h ⊢; exact ih a w h
    | some o =>
      simp only [ho] at h ⊢
      split
      · rename_i hw
        simp only [hw, if_true] at h
        have h2 := Oper.wpIn_mono ih h
        refine ⟨fun _ _ => trivial, ?_⟩
        rw [uponIn_round_eq]
        have h3 := h2.2
        have e1 : o.semAt Fence.wide.round a.eval = execOp a.eval o := Oper.semAt_none _ _
        have e2 : o.semAt (Fence.wide.inRound l).round a.eval = execOp a.eval o := Oper.semAt_some _ _ _ (noDefer_at hnd ho)
        rw [e1] at h3
        rw [e2]
        exact h3
      · rename_i hw
        simp only [hw] at h
        exact ⟨fun _ _ => trivial, ih _ _ h.2⟩
theorem region_round0 {l id : Nat} {a : Act} {w : World} (hm : P.follows .mixedOrders = true) (hnd : noDefer ops = true)
    (h : wpAnyIn Fence.wide n P .any ops Q ops.size (Array.replicate ops.size false) a w.drew) : (Code.region id ops true).wpIn (Fence.wide.inRound l) n P Q a w :=
  wpIn_region_draw fun t => by
    simp only [Region.schedule, hm, Bool.true_or, if_true]
    exact ops_round hnd _ _ _ (wpAnyIn_sound ops.size t _ a _ h)
theorem region_K_round {S : World → Prop} {l id : Nat} {a : Act} {w : World} (last : Nat) (hm : P.follows .mixedOrders = true) (hnd : noDefer ops = true) (hQ : ¬ LetsOut Q) (hS : S w.drew)
    (h : S w.drew → wpAnyK P .any ops Q S last ops.size (Array.replicate ops.size false) a w.drew) : (Code.region id ops true).wpIn (Fence.wide.inRound l) n P Q a w :=
  wpIn_region_draw fun t => by
    simp only [Region.schedule, hm, Bool.true_or, if_true]
    exact ops_round hnd _ _ _ (ops_in hQ _ _ _ (wpAny_sound ops.size t _ a _ (wpAny_of_K _ _ _ _ (h hS))))
theorem region_K_wide {S : World → Prop} {id : Nat} {a : Act} {w : World} (last : Nat) (hm : P.follows .mixedOrders = true) (hS : S w.drew)
    (h : S w.drew → wpAnyK P .any ops Q S last ops.size (Array.replicate ops.size false) a w.drew) : (Code.region id ops true).wpIn Fence.wide n P Q a w :=
  wpIn_wide.2 (wp_region_K last hm hS h)

/-! ### The statement, and a round -/
/-- The loop's record. -/
def recOf (fn : FuncId) (a : Act) (ps : Array Tmp) (assign body : Code) (D : Nat) (st : LoopState) (pe : Option Code) : Loop :=
  { state := st, pending := pe, fn, tmps := a.tmps, params := ps, assign, body, defers := D }
def markOf (D : Nat) : Deferred := { target := .collected D, args := #[] }
/-- What is asked behind the function that is ranged over: the record is ready, and on behind the statement; or a jump pends. -/
def behind (P : Program) (n : Nat) (Q : Exit → Act → World → Prop) (fn : FuncId) (a : Act) (ps : Array Tmp) (assign body : Code) (D : Nat) (W : World) : Prop :=
  (W.heap[D + 1]? = some (.loop (recOf fn a ps assign body D .ready none)) ∧ Q .normal { a with defers := markOf D :: a.defers } (W.putObj (D + 1) (.loop (recOf fn a ps assign body D .exhausted none)))) ∨
  (∃ c, W.heap[D + 1]? = some (.loop (recOf fn a ps assign body D .done (some c))) ∧ c.wpIn Fence.wide n P Q { a with defers := markOf D :: a.defers } (W.putObj (D + 1) (.loop (recOf fn a ps assign body D .exhausted (some c)))))
/-- The world in which the function that is ranged over is called. -/
def laidL (w : World) (fn : FuncId) (a : Act) (ps : Array Tmp) (assign body : Code) : World := (w.alloc (.deferred (some []))).alloc (.loop (recOf fn a ps assign body w.heap.size .ready none))
theorem range_in {g : Operand} {ps : Array Tmp} {assign body : Code} {a : Act} {w : World} {gf : Nat} {lb : Array Value} (hg : a.eval g = .func (.func gf) #[] lb) (eg : ∀ args w, (callFunc gf args).run P w = .ok (.enter gf args) w)
    (h : ∀ fn, Calls P gf (#[.func (.yield (w.heap.size + 1)) #[] #[]] ++ lb) (laidL w fn a ps assign body) fun e W => (∃ v, e = .returned v) ∧ behind P n Q fn a ps assign body w.heap.size W) :
    (Code.rangeFunc g ps assign body).wpIn Fence.wide n P Q a w := by
  refine wpIn_rangeFunc ?_
  intro fn _
  refine ⟨w.heap.size + 1, [{ target := .collected w.heap.size, args := #[] }], laidL w fn a ps assign body, { target := .fn (.func gf) lb, args := #[.func (.yield (w.heap.size + 1)) #[] #[]] }, laidL w fn a ps assign body, gf,
    #[.func (.yield (w.heap.size + 1)) #[] #[]] ++ lb, laidL w fn a ps assign body, ?_, ?_, ?_, ?_, (fun h => by cases h), ?_⟩
  · exact run_enterLoop_outer _ _ _ _ _
  · simp only [resolve, hg]
    simp [go_sem]
  · intro f' _; trivial
  · simp [invoke, go_sem, eg]
  · refine callsIn_wide.2 (Calls.mono (h fn) ?_)
    rintro e W ⟨⟨v, rfl⟩, (⟨hl, hq⟩ | ⟨c, hl, hq⟩)⟩
    · exact ⟨none, _, run_endLoop (P := P) hl (by simp [recOf]), hq⟩
    · exact ⟨some c, _, run_endLoop (P := P) hl (by simp [recOf]), hq⟩
/-- How a round's body may be left: off its end, or by a return. -/
def roundQ (l : Nat) (rec : LoopState → Option Code → Loop) (R : Ending → World → Prop) : Exit → Act → World → Prop
  | .normal, _, W => W.heap[l]? = some (.loop (rec .busy none)) ∧ R (.returned (.bool true)) (W.putObj l (.loop (rec .ready none)))
  | .ret, _, W => W.heap[l]? = some (.loop (rec .busy none)) ∧ R (.returned (.bool false)) (W.putObj l (.loop (rec .done (some .ret))))
  | _, _, _ => False
theorem roundQ_out {l : Nat} {rec : LoopState → Option Code → Loop} {R : Ending → World → Prop} : ¬ LetsOut (roundQ l rec R) := fun ⟨_, _, h⟩ => h
theorem yield_in {l : Nat} {fn : FuncId} {a : Act} {ps : Array Tmp} {assign body : Code} {D : Nat} {args : Array Value} {W : World} {R : Ending → World → Prop}
    (hl : W.heap[l]? = some (.loop (recOf fn a ps assign body D .ready none))) (hps : args.size = ps.size)
    (h : assign.wpIn (Fence.wide.inRound l) n P (Exit.then (fun a₁ W₁ => W₁.heap[l]? = some (.loop (recOf fn a ps assign body D .ready none)) ∧
        body.wpIn (Fence.wide.inRound l) n P (roundQ l (recOf fn a ps assign body D) R) a₁ (W₁.putObj l (.loop (recOf fn a ps assign body D .busy none)))) (fun _ _ _ => False))
      { tmps := (ps.zip args).foldl (fun t (p, v) => t.setIfInBounds p v) a.tmps, defers := [] } W) :
    YieldAt Fence.wide n P l args W R := by
  have hy := run_yield (P := P) (args := args) hl (by simpa [recOf] using hps)
  refine ⟨fn, _, assign, body, hy, roundIn_of_wpIn trivial ?_⟩
  refine wpIn_mono h ?_
  intro e a₁ W₁ he
  cases e with
  | normal =>
    obtain ⟨hl1, hb⟩ := he
    refine ⟨_, run_beginRound hl1 (by simp [recOf]), wpIn_mono hb ?_⟩
    intro e a₂ W₂ he
    cases e with
    | normal =>
      obtain ⟨hl2, hR⟩ := he
      exact ⟨_, _, run_endRound (P := P) none hl2, hR⟩
    | ret =>
      obtain ⟨hl2, hR⟩ := he
      exact ⟨_, _, run_endRound (P := P) (some .ret) hl2, hR⟩
    | exit id => exact he.elim
    | goto t => exact he.elim
    | panic c => exact he.elim
    | outgrown => exact he.elim
  | ret => exact he.elim
  | exit id => exact he.elim
  | goto t => exact he.elim
  | panic c => exact he.elim
  | outgrown => exact he.elim
/-- The same, the record a letter, and no jump but a return. -/
def behindR (Q : Exit → Act → World → Prop) (a : Act) (D : Nat) (rec : LoopState → Option Code → Loop) (W : World) : Prop :=
  (W.heap[D + 1]? = some (.loop (rec .ready none)) ∧ Q .normal { a with defers := markOf D :: a.defers } (W.putObj (D + 1) (.loop (rec .exhausted none)))) ∨
  (W.heap[D + 1]? = some (.loop (rec .done (some .ret))) ∧ Q .ret { a with defers := markOf D :: a.defers } (W.putObj (D + 1) (.loop (rec .exhausted (some .ret)))))
theorem range_rec {g : Operand} {ps : Array Tmp} {assign body : Code} {a : Act} {w : World} {gf : Nat} {lb : Array Value} (hg : a.eval g = .func (.func gf) #[] lb) (eg : ∀ args w, (callFunc gf args).run P w = .ok (.enter gf args) w)
    (h : ∀ fn rec, Hid (rec = recOf fn a ps assign body w.heap.size) → Calls P gf (#[.func (.yield (w.heap.size + 1)) #[] #[]] ++ lb) ((w.alloc (.deferred (some []))).alloc (.loop (rec .ready none))) fun e W => (∃ v, e = .returned v) ∧ behindR Q a w.heap.size rec W) :
    (Code.rangeFunc g ps assign body).wpIn Fence.wide n P Q a w :=
  range_in hg eg fun fn => (h fn _ (Lib.hid rfl)).mono fun e W hh => ⟨hh.1, by
    rcases hh.2 with ⟨h1, h2⟩ | ⟨h1, h2⟩
    · exact .inl ⟨h1, h2⟩
    · exact .inr ⟨.ret, h1, wpIn_ret h2⟩⟩
theorem yield_rec {l : Nat} {fn : FuncId} {a : Act} {ps : Array Tmp} {assign body : Code} {D : Nat} {args : Array Value} {W : World} {R : Ending → World → Prop} {rec : LoopState → Option Code → Loop}
    (hrec : Hid (rec = recOf fn a ps assign body D)) (hl : W.heap[l]? = some (.loop (rec .ready none))) (hps : args.size = ps.size)
    (h : assign.wpIn (Fence.wide.inRound l) n P (Exit.then (fun a₁ W₁ => W₁.heap[l]? = some (.loop (rec .ready none)) ∧ body.wpIn (Fence.wide.inRound l) n P (roundQ l rec R) a₁ (W₁.putObj l (.loop (rec .busy none)))) (fun _ _ _ => False))
      { tmps := (ps.zip args).foldl (fun t (p, v) => t.setIfInBounds p v) a.tmps, defers := [] } W) :
    YieldAt Fence.wide n P l args W R := by
  have e := hrec.out
  subst e
  exact yield_in hl hps h
/-- What ends normally, and in no other way. -/
def calm (Q : Exit → Act → World → Prop) : Exit → Act → World → Prop
  | .normal, a, w => Q .normal a w
  | _, _, _ => False
theorem calm_in {a : Act} {w : World} (h : Q .normal a w) : calm Q .normal a w := h
theorem calm_out : ∀ e a w, calm Q e a w → Q e a w
  | .normal, _, _, h => h
  | .ret, _, _, h => h.elim
  | .exit _, _, _, h => h.elim
  | .goto _, _, _, h => h.elim
  | .panic _, _, _, h => h.elim
  | .outgrown, _, _, h => h.elim
theorem region_H_round {S : World → Prop} {l id : Nat} {a : Act} {w : World} (hm : P.follows .mixedOrders = true) (hnd : noDefer ops = true) (hS : S w.drew)
    (h : S w.drew → wpAnyH P .any ops (calm Q) S ops.size (Array.replicate ops.size false) a w.drew) : (Code.region id ops true).wpIn (Fence.wide.inRound l) n P Q a w :=
  wpIn_mono (wpIn_region_draw fun t => by
    simp only [Region.schedule, hm, Bool.true_or, if_true]
    exact ops_round hnd _ _ _ (ops_in (fun ⟨_, _, h⟩ => h) _ _ _ (wpAny_sound ops.size t _ a _ (wpAny_of_held _ _ _ _ (h hS))))) calm_out
theorem region_H_wide {S : World → Prop} {id : Nat} {a : Act} {w : World} (hm : P.follows .mixedOrders = true) (hS : S w.drew)
    (h : S w.drew → wpAnyH P .any ops (calm Q) S ops.size (Array.replicate ops.size false) a w.drew) : (Code.region id ops true).wpIn Fence.wide n P Q a w :=
  wpIn_mono (wpIn_wide.2 (wp_region_held_drew hm hS h)) calm_out
theorem region_round {l id : Nat} {a : Act} {w : World} (hm : P.follows .mixedOrders = true) (hnd : noDefer ops = true)
    (h : wpAnyIn Fence.wide n P .any ops (calm Q) ops.size (Array.replicate ops.size false) a w.drew) : (Code.region id ops true).wpIn (Fence.wide.inRound l) n P Q a w :=
  wpIn_mono (region_round0 hm hnd h) calm_out
/-- A function's end behind one loop, and behind two. -/
theorem ends1 {fn : Func} {R : Ending → World → Prop} {tmps : Array Value} {D : Nat} {W : World} {v : Value} (hD : W.heap[D]? = some (.deferred (some [])))
    (hv : (results fn tmps).run P (W.putObj D (.deferred none)) = .ok v (W.putObj D (.deferred none))) (hR : R (.returned v) (W.putObj D (.deferred none))) :
    LeavesInM Fence.wide n P fn tmps R [markOf D] .returning W :=
  ⟨by simp, .inl ⟨_, _, rfl, run_takeDeferred hD, ⟨_, hv, hR⟩⟩⟩
theorem ends2 {fn : Func} {R : Ending → World → Prop} {tmps : Array Value} {D E : Nat} {W : World} {v : Value} (hD : W.heap[D]? = some (.deferred (some []))) (hE : W.heap[E]? = some (.deferred (some []))) (hne : E ≠ D)
    (hv : (results fn tmps).run P ((W.putObj D (.deferred none)).putObj E (.deferred none)) = .ok v ((W.putObj D (.deferred none)).putObj E (.deferred none))) (hR : R (.returned v) ((W.putObj D (.deferred none)).putObj E (.deferred none))) :
    LeavesInM Fence.wide n P fn tmps R [markOf D, markOf E] .returning W :=
  ⟨by simp, .inl ⟨_, _, rfl, run_takeDeferred hD, ends1 ((World.putObj_heap_other hne).trans hE) hv hR⟩⟩
/-- The depth is of no moment within the wide fence. -/
theorem YieldAt.depth {m m' l : Nat} {args : Array Value} {W : World} {R : Ending → World → Prop} (h : YieldAt Fence.wide m P l args W R) : YieldAt Fence.wide m' P l args W R := by
  obtain ⟨fn, tmps, assign, body, hy, hR⟩ := h
  exact ⟨fn, tmps, assign, body, hy, hR.1, fun c cs _ => hR.2 c cs (room_wide _)⟩
end
/-! ### What has turned -/
/-- From A on, Z being what is somebody else's: nothing has turned but what is Z's, what E allows, and new blocks; Z' is Z and new ones. -/
structure Gz (E Z : Nat → Prop) (A : World) (Z' : Nat → Prop) (B : World) : Prop where
  os : B.os = A.os
  tape : B.tape = A.tape
  output : B.output = A.output
  size : A.heap.size ≤ B.heap.size
  same : ∀ k, k < A.heap.size → ¬ Z k → ¬ E k → B.heap[k]? = A.heap[k]?
  ext : ∀ k, Z' k → Z k ∨ A.heap.size ≤ k
variable {E E' Z Z' Z'' : Nat → Prop} {A B C : World}
theorem Gz.refl (E Z : Nat → Prop) (A : World) : Gz E Z A Z A := ⟨rfl, rfl, rfl, Nat.le_refl _, fun _ _ _ _ => rfl, fun _ h => .inl h⟩
/-- What comes behind may turn more of what is new. -/
theorem Gz.tail (h : Gz E Z A Z' B) (k : Gz E' Z' B Z'' C) (hE : ∀ i, i < A.heap.size → E' i → E i) : Gz E Z A Z'' C :=
  ⟨k.os.trans h.os, k.tape.trans h.tape, k.output.trans h.output, Nat.le_trans h.size k.size,
    fun i hi hz he => (k.same i (Nat.lt_of_lt_of_le hi h.size) (fun hz' => by exact (h.ext i hz').elim hz (fun h' => absurd hi (by omega))) (fun he' => he (hE i hi he'))).trans (h.same i hi hz he),
    fun i hz => (k.ext i hz).elim (h.ext i) (fun h' => .inr (Nat.le_trans h.size h'))⟩
theorem Gz.trans (h : Gz E Z A Z' B) (k : Gz E Z' B Z'' C) : Gz E Z A Z'' C := h.tail k fun _ _ he => he
theorem Gz.more (h : Gz E Z A Z' B) (hE : ∀ i, E i → E' i) : Gz E' Z A Z' B := ⟨h.os, h.tape, h.output, h.size, fun i hi hz he => h.same i hi hz fun h' => he (hE i h'), h.ext⟩
theorem Gz.alloc (h : Gz E Z A Z' B) (o : Obj) : Gz E Z A Z' (B.alloc o) :=
  ⟨h.os, h.tape, h.output, by rw [World.size_alloc]; have := h.size; omega, fun i hi hz he => (Below.heap_alloc B o i (by have := h.size; omega)).trans (h.same i hi hz he), h.ext⟩
theorem Gz.drew (h : Gz E Z A Z' B) : Gz E Z A Z' B.drew := ⟨h.os, h.tape, h.output, h.size, h.same, h.ext⟩
theorem Gz.put (h : Gz E Z A Z' B) {l : Nat} (o : Obj) (hl : A.heap.size ≤ l ∨ E l) : Gz E Z A Z' (B.putObj l o) :=
  ⟨h.os, h.tape, h.output, by rw [World.putObj_size]; exact h.size, fun i hi hz he => (World.putObj_heap_other (fun e => by subst e; exact hl.elim (fun h' => by omega) he)).trans (h.same i hi hz he), h.ext⟩
theorem Gz.below (h : Gz E Z A Z' B) {k : World} {m : Nat} (hb : Below m B k) (hm : A.heap.size ≤ m) : Gz E Z A Z' k :=
  ⟨hb.os.trans h.os, hb.tape.trans h.tape, hb.output.trans h.output, Nat.le_trans h.size hb.size, fun i hi hz he => (hb.block i (by omega)).trans (h.same i hi hz he), h.ext⟩
theorem Gz.of_below {m : Nat} (hb : Below m A B) (hm : A.heap.size ≤ m) : Gz E Z A Z B := (Gz.refl E Z A).below hb hm
theorem Gz.toBelow {m : Nat} (h : Gz E Z A Z' B) (hz : ∀ k, k < m → k < A.heap.size ∧ ¬ Z k ∧ ¬ E k) : Below m A B :=
  ⟨h.os, h.tape, h.output, h.size, fun k hk => let ⟨a, b, c⟩ := hz k hk; h.same k a b c⟩
theorem Gz.heap (h : Gz E Z A Z' B) {k : Nat} {o : Obj} (hk : A.heap[k]? = some o) (hz : ¬ Z k) (he : ¬ E k) : B.heap[k]? = some o :=
  (h.same k (Array.getElem?_eq_some_iff.1 hk).1 hz he).trans hk
theorem Gz.lies (h : Gz E Z A Z' B) {k : Nat} {t : TypeId} {cs : Array Value} (hk : A.heap[k]? = some (.cells cs t)) (hz : ¬ Z k) (he : ¬ E k) : B.heap[k]? = some (.cells cs t) := h.heap hk hz he
theorem Gz.not (h : Gz E Z A Z' B) {k : Nat} (hk : k < A.heap.size) (hz : ¬ Z k) : ¬ Z' k := fun h' => (h.ext k h').elim hz (fun h'' => by omega)
end Lx
end Go.Proofs.Ytikchgigakbeiaa
namespace Go.Proofs.Ytikchgigakbeiaa
open Go Go.RowKit
namespace Lx
set_option maxRecDepth 100000
theorem ubinders_any (k n : Int) (s : ByteArray) (A : Option Addr) (m c : Nat) (w : World) :
    Calls Try.prog 27 #[.agg #[.int .i64 k, .int .i64 n, .string s, .slice A m c]] w fun e w' => e = .returned (.int .i64 (moreE k n)) ∧ Below w.heap.size w w' := by
  have hb : Below w.heap.size w (w.alloc (.cells #[.int .i64 k, .int .i64 n, .string s, .slice A m c] 24)) := (Below.refl _ w).alloc (Nat.le_refl _) _
  rcases (by omega : k = 2 ∨ k = 6 ∨ (k ≠ 2 ∧ k ≠ 6)) with rfl | rfl | ⟨h2, h6⟩
  · go_enter Try.func27, Try.ntmps27
    go_wp2_with fail
    go_ret
    exact ⟨rfl, hb⟩
  · go_enter Try.func27, Try.ntmps27
    go_wp2_with fail
    go_ret
    exact ⟨rfl, hb⟩
  · have e2 : (k == 2) = false := by simpa using h2
    have e6 : (k == 6) = false := by simpa using h6
    have HE : Hid (moreE k n = 0) := by
      refine Lib.hid ?_
      simp [moreE, h2, h6]
    clear h2 h6
    go_enter Try.func27, Try.ntmps27
    go_wp2_with fail
    go_ret
    exact ⟨ret_int HE.out.symm, hb⟩
/-- How many binders are told. -/
def toldN (k n : Int) : Nat := min (moreE k n).toNat 8
theorem told_any (k n : Int) (s : ByteArray) (A : Option Addr) (m c : Nat) (w : World) :
    Calls Try.prog 37 #[.agg #[.int .i64 k, .int .i64 n, .string s, .slice A m c]] w fun e w' => e = .returned (.int .i64 (toldN k n)) ∧ Below w.heap.size w w' := by
  have HT : Hid ((toldN k n : Int) = min (max (moreE k n) 0) 8) := Lib.hid (by rw [toldN]; omega)
  have hB := fun W => ubinders_any k n s A m c W
  have hb : Below w.heap.size w (w.alloc (.cells #[.int .i64 k, .int .i64 n, .string s, .slice A m c] 24)) := (Below.refl _ w).alloc (Nat.le_refl _) _
  generalize moreE k n = q at HT hB
  go_enter Try.func37, Try.ntmps37
  go_wp2_with (go_at_call 27; refine (hB _).mono ?_; rintro e w1 ⟨rfl, hb1⟩)
  go_ret
  exact ⟨ret_int HT.out.symm, hb.trans (hb1.mono (by simp))⟩
/-- Block bm is a map whose numbers are those of C; it has at most N entries. -/
def MapIs (w : World) (bm N : Nat) (C : Int → Int) : Prop :=
  ∃ (n : Nat) (D : DataW Unit), w.ownsMap Try.prog 3 (plainElem Try.prog 3) bm n D ∧ n ≤ N ∧ ∀ x : Int, D.atKey (.int .i64 x) (.lit (.int .i64 0)) = .lit (.int .i64 (C x))
theorem MapIs.heap {w w' : World} {bm N : Nat} {C : Int → Int} (h : MapIs w bm N C) (hb : w'.heap[bm]? = w.heap[bm]?) : MapIs w' bm N C := by
  obtain ⟨n, D, ⟨es, clock, hw, F, hs, hD⟩, hn, hC⟩ := h
  exact ⟨n, D, ⟨es, clock, hb.trans hw, F, hs, hD⟩, hn, hC⟩
theorem MapIs.lt {w : World} {bm N : Nat} {C : Int → Int} (h : MapIs w bm N C) : bm < w.heap.size := by obtain ⟨n, D, hw, _⟩ := h; exact hw.lt
theorem MapIs.below {w w' : World} {bm N B : Nat} {C : Int → Int} (h : MapIs w bm N C) (hb : Below B w w') (hB : bm < B) : MapIs w' bm N C := h.heap (hb.block bm hB)
theorem MapIs.made (w : World) : MapIs (w.alloc (.map #[] 0)) w.heap.size 0 fun _ => 0 :=
  ⟨0, .map [], World.ownsMap_made w _ _ _, Nat.le_refl _, fun _ => rfl⟩
theorem lit_wf {x : Int} (h0 : -9223372036854775808 ≤ x) (h1 : x ≤ 9223372036854775807) : (Lit.int .i64 x).wf = true := by simp [Lit.wf, IntKind.min, IntKind.max, IntKind.signed, IntKind.bits]; omega
theorem infoI : (Try.prog.info? 3).map (fun i => (i.zero, i.size, i.bytes)) = some (some (.int .i64 0), 1, 8) := by kernel_rfl
def rowC (C : Int → Int) (b : Int) (n : Nat) : List Int := (List.range n).map fun (i : Nat) => C (b + (i : Int))
theorem rowC_succ (C : Int → Int) (b : Int) (n : Nat) : rowC C b (n + 1) = rowC C b n ++ [C (b + (n : Int))] := by simp [rowC, List.range_succ]
theorem rowC_len (C : Int → Int) (b : Int) (n : Nat) : (rowC C b n).length = n := by simp [rowC]
def vI (l : List Int) : List Value := l.map (Value.int .i64)
theorem vI_snoc (l : List Int) (x : Int) : vI (l ++ [x]) = vI l ++ [.int .i64 x] := by simp [vI]
set_option maxHeartbeats 4000000 in
theorem places_any (bm N : Nat) (C : Int → Int) (b : Int) (n : Nat) (w : World) (hM : MapIs w bm N C) (hn : n ≤ 8) (hb0 : -4611686018427387904 ≤ b) (hb1 : b ≤ 4611686018427387904) :
    Calls Try.prog 36 #[.map (some bm), .int .i64 b, .int .i64 n] w fun e w' => ∃ v, e = .returned v ∧ w'.ownsRow w.heap.size 3 1 v n (vI (rowC C b n)) ∧ Below w.heap.size w w' := by
  have hbm := hM.lt
  obtain ⟨q, D, hown, _, hC⟩ := hM
  have HO : Hid (w.ownsMap Try.prog 3 (plainElem Try.prog 3) bm q D) := Lib.hid hown
  have HC : Hid (∀ x : Int, D.atKey (.int .i64 x) (.lit (.int .i64 0)) = .lit (.int .i64 (C x))) := Lib.hid hC
  obtain ⟨i0, hi0, hz0, hz1, hz2⟩ := info_parts infoI
  clear hC hown
  go_enter Try.func36, Try.ntmps36
  go_wp2_with fail
  go_loopw [7, 10] (fun v x wr => ∃ i : Nat, i ≤ n ∧ x = .int .i64 i ∧ wr.ownsRow w.heap.size 3 1 v i (vI (rowC C b i)) ∧ Below w.heap.size w wr) (fun _ x _ => n - (intOf x).toNat)
  case atStart => exact ⟨0, by omega, rfl, World.ownsRow_nil _ _ _ _, Below.refl _ _⟩
  case round =>
    obtain ⟨i, hi, rfl, hrow, hbw⟩ := hrel
    have hbs := hbw.size
    by_cases hlt : i < n
    · have ho2 : wr.ownsMap Try.prog 3 (plainElem Try.prog 3) bm q D := by
        obtain ⟨es, clock, hw, F, hs, hD⟩ := HO.out
        exact ⟨es, clock, (hbw.block bm hbm).trans hw, F, hs, hD⟩
      have hkw : (Lit.int .i64 (b + (i : Int))).wf = true := lit_wf (by omega) (by omega)
      go_wp2_with (first
        | (at_lookup; refine wpList_lookup_own_int _ rfl _ _ 50 rfl 3 3 .i64 (Maps.int_keyed Try.underlying3) Try.underlying50 Try.underlying3 (Try.zeroValue3 _) bm q D rfl ho2 _ _ rfl (Maps.keyOf_int_mk Try.underlying3 hkw) ?_; intro cc hat hwc; obtain rfl : cc = C (b + (i : Int)) := (by rw [HC.out] at hat; injection hat with hat; injection hat with _ hat; exact hat.symm))
        | (at_builtin; refine wpList_append_own _ rfl _ _ 28 rfl w.heap.size 3 i0 (.int .i64 0) 1 8 Try.underlying28 hi0 hz0 hz1 hz2 rfl (by decide) _ _ _ rfl (hrow.alloc _) ⟨wr.heap.size, 0, none⟩ 1 1 [.int .i64 (C (b + (i : Int)))] rfl rfl (cell_one_new _ _ _) (by simp [Value.oneCell']) (by simp only [maxLen]; omega) (by omega) (by simp; omega) ?_; intro v' w1 hown' hgrow _))
      have hb3 : Below w.heap.size w w1 := (hbw.alloc (by omega) _).grown hgrow (by simp; omega) (fun q hq => (hrow.lt q hq).1)
      go_roundw
      case rel => exact ⟨i + 1, by omega, by go_num, by rw [rowC_succ, vI_snoc]; exact hown', hb3⟩
      case measure => simp [intOf]; omega
    · go_wp2_with fail
      go_ret
      obtain rfl : i = n := by omega
      exact ⟨_, rfl, hrow, hbw⟩
theorem backT_any (A : Option Addr) (m c : Nat) (w : World) :
    Calls Try.prog 35 #[.slice A m c] w fun e w' => e = .returned (.func (.func 48) #[] #[.pointer (some ⟨w.heap.size, 0, none⟩)]) ∧ w' = w.alloc (.cells #[.slice A m c] 22) := by
  go_enter Try.func35, Try.ntmps35
  go_wp2_with fail
  go_ret
  exact ⟨rfl, rfl⟩
theorem backI_any (A : Option Addr) (m c : Nat) (w : World) :
    Calls Try.prog 38 #[.slice A m c] w fun e w' => e = .returned (.func (.func 49) #[] #[.pointer (some ⟨w.heap.size, 0, none⟩)]) ∧ w' = w.alloc (.cells #[.slice A m c] 28) := by
  go_enter Try.func38, Try.ntmps38
  go_wp2_with fail
  go_ret
  exact ⟨rfl, rfl⟩
theorem usesF_any (k n : Int) (s : ByteArray) (A : Option Addr) (m c : Nat) (w : World) :
    Calls Try.prog 24 #[.agg #[.int .i64 k, .int .i64 n, .string s, .slice A m c]] w fun e w' => e = .returned (.func (.func 33) #[] #[.pointer (some ⟨w.heap.size, 0, none⟩)]) ∧ w' = w.alloc (.cells #[.int .i64 k, .int .i64 n, .string s, .slice A m c] 24) := by
  go_enter Try.func24, Try.ntmps24
  go_wp2_with fail
  go_ret
  exact ⟨rfl, rfl⟩
end Lx
end Go.Proofs.Ytikchgigakbeiaa
namespace Go.Proofs.Ytikchgigakbeiaa
open Go Go.RowKit
attribute [local go_sem] Oper.semAt_some
namespace Lx
set_option maxRecDepth 100000
/-- The values av lie as terms from ⟨g, o⟩ on. -/
def LieT (W : World) (g o m : Nat) (av : Nat → Value) : Prop :=
  ∀ j, j < m → ∃ (k n : Int) (s : ByteArray) (A' : Option Addr) (len cap : Nat), av j = .agg #[.int .i64 k, .int .i64 n, .string s, .slice A' len cap] ∧
    W.cell? ⟨g, o + j * 4, none⟩ = some (.int .i64 k) ∧ W.cell? ⟨g, o + j * 4 + 1, none⟩ = some (.int .i64 n) ∧ W.cell? ⟨g, o + j * 4 + 2, none⟩ = some (.string s) ∧ W.cell? ⟨g, o + j * 4 + 3, none⟩ = some (.slice A' len cap)
set_option maxHeartbeats 2000000 in
theorem backT_in (l bx g o m c : Nat) (A : Option Addr) (av : Nat → Value) (J : Nat → World → Prop) (Jx : World → Prop) (hm : m ≤ 140737488351232) (hA : 0 < m → A = some ⟨g, o, none⟩)
    (hJ : ∀ i W, J i W → W.cell? ⟨bx, 0, none⟩ = some (.slice A m c) ∧ LieT W g o m av)
    (hY : ∀ i W, i < m → J (i + 1) W → YieldAt Fence.wide 0 Try.prog l #[.int .i64 i, av i] W fun e W' => (e = .returned (.bool true) ∧ J i W') ∨ (e = .returned (.bool false) ∧ Jx W'))
    (W : World) (h0 : J m W) :
    Calls Try.prog 48 #[.func (.yield l) #[] #[], .pointer (some ⟨bx, 0, none⟩)] W fun e W' => (∃ v, e = .returned v) ∧ (J 0 W' ∨ Jx W') := by
  have hc0 := (hJ m W h0).1
  refine (callsIn_wide (n := 2)).1 ?_
  refine callsIn_of_wp Try.func48 rfl trivial ?_ rfl
  simp only [Try.ntmps48, List.size_toArray, List.length_cons, List.length_nil, Nat.reduceAdd, Nat.reduceSub, Array.replicate_succ, Array.replicate_zero, List.push_toArray, List.append_toArray, List.nil_append, List.cons_append]
  gi_wp2
  gi_loopw [3] (fun p wr => ∃ i : Nat, i ≤ m ∧ p = .int .i64 ((i : Int) - 1) ∧ J i wr) (fun p _ => (intOf p + 1).toNat)
  case atStart => exact ⟨m, Nat.le_refl _, rfl, h0⟩
  case round =>
    obtain ⟨i, hi, rfl, hj⟩ := hrel
    cases i with
    | zero =>
      gi_wp2
      go_end0
      exact ⟨⟨_, rfl⟩, .inl hj⟩
    | succ i =>
      obtain ⟨hc, hL⟩ := hJ _ _ hj
      obtain ⟨k, n, s, A', len, cap, hv, d0, d1, d2, d3⟩ := hL i (by omega)
      obtain rfl := hA (by omega)
      obtain ⟨fn, tmps, assign, body, hy, hR⟩ := YieldAt.depth (m' := 1) (hY i wr (by omega) hj)
      rw [hv] at hy
      have e1 : ((i + 1 : Nat) : Int) - 1 = (i : Int) := by omega
      rw [e1]
      clear hJ hY h0 hc0
      gi_wp2
      refine hR.mono ?_
      rintro e W3 (⟨rfl, hJ3⟩ | ⟨rfl, hJx3⟩)
      · gi_wp2
        go_roundw
        case rel => exact ⟨i, by omega, by first | rfl | go_num, hJ3⟩
        case measure => simp [intOf]
      · gi_wp2
        refine bodyPost_ret (results_none rfl _ _ _) rfl ?_
        exact ⟨⟨_, rfl⟩, .inr hJx3⟩
/-- The numbers of f lie from ⟨g, o⟩ on. -/
def LieI (W : World) (g o m : Nat) (f : Nat → Int) : Prop := ∀ j, j < m → W.cell? ⟨g, o + j, none⟩ = some (.int .i64 (f j))
set_option maxHeartbeats 2000000 in
theorem backI_in (l bx g o m c : Nat) (A : Option Addr) (f : Nat → Int) (J : Nat → World → Prop) (Jx : World → Prop) (hm : m ≤ 140737488351232) (hA : 0 < m → A = some ⟨g, o, none⟩)
    (hJ : ∀ i W, J i W → W.cell? ⟨bx, 0, none⟩ = some (.slice A m c) ∧ LieI W g o m f)
    (hY : ∀ i W, i < m → J (i + 1) W → YieldAt Fence.wide 0 Try.prog l #[.int .i64 i, .int .i64 (f i)] W fun e W' => (e = .returned (.bool true) ∧ J i W') ∨ (e = .returned (.bool false) ∧ Jx W'))
    (W : World) (h0 : J m W) :
    Calls Try.prog 49 #[.func (.yield l) #[] #[], .pointer (some ⟨bx, 0, none⟩)] W fun e W' => (∃ v, e = .returned v) ∧ (J 0 W' ∨ Jx W') := by
  have hc0 := (hJ m W h0).1
  refine (callsIn_wide (n := 2)).1 ?_
  refine callsIn_of_wp Try.func49 rfl trivial ?_ rfl
  simp only [Try.ntmps49, List.size_toArray, List.length_cons, List.length_nil, Nat.reduceAdd, Nat.reduceSub, Array.replicate_succ, Array.replicate_zero, List.push_toArray, List.append_toArray, List.nil_append, List.cons_append]
  gi_wp2
  gi_loopw [3] (fun p wr => ∃ i : Nat, i ≤ m ∧ p = .int .i64 ((i : Int) - 1) ∧ J i wr) (fun p _ => (intOf p + 1).toNat)
  case atStart => exact ⟨m, Nat.le_refl _, rfl, h0⟩
  case round =>
    obtain ⟨i, hi, rfl, hj⟩ := hrel
    cases i with
    | zero =>
      gi_wp2
      go_end0
      exact ⟨⟨_, rfl⟩, .inl hj⟩
    | succ i =>
      obtain ⟨hc, hL⟩ := hJ _ _ hj
      have d0 := hL i (by omega)
      obtain rfl := hA (by omega)
      obtain ⟨fn, tmps, assign, body, hy, hR⟩ := YieldAt.depth (m' := 1) (hY i wr (by omega) hj)
      have e1 : ((i + 1 : Nat) : Int) - 1 = (i : Int) := by omega
      rw [e1]
      clear hJ hY h0 hc0
      gi_wp2
      refine hR.mono ?_
      rintro e W3 (⟨rfl, hJ3⟩ | ⟨rfl, hJx3⟩)
      · gi_wp2
        go_roundw
        case rel => exact ⟨i, by omega, by first | rfl | go_num, hJ3⟩
        case measure => simp [intOf]
      · gi_wp2
        refine bodyPost_ret (results_none rfl _ _ _) rfl ?_
        exact ⟨⟨_, rfl⟩, .inr hJx3⟩
end Lx
end Go.Proofs.Ytikchgigakbeiaa
