/-
  Texts that lie one behind the other: Nw NlQ NlS HeldK NlT NlU.
-/
import Derived.Test.YtceblpjlklogpaaC2
import Derived.Test.YtceblpjlklogpaaProg
import Derived.Deep.RegionHeld
namespace Go.Proofs.Ytceblpjlklogpaa
namespace Lx
set_option maxRecDepth 100000
/-- A port has another one. -/
def setNV (ns : List Nd) (p q : Int × Int) : List Nd := ns.set p.1.toNat { ndAt ns p.1.toNat with «to» := (ndAt ns p.1.toNat).to.set p.2.toNat q }
def peerNV (ns : List Nd) (p : Int × Int) : (Int × Int) × Int := if hasV ns p = true then (toAt ns p, 0) else ((0, 0), 130)
def linkNV (ns : List Nd) (p q : Int × Int) : List Nd × Int := if hasV ns p = true ∧ hasV ns q = true ∧ p ≠ q then (setNV (setNV ns p q) q p, 0) else (ns, 130)
def moveNV (ns : List Nd) (p q : Int × Int) : List Nd × Int :=
  if hasV ns p = true ∧ hasV ns q = true ∧ p ≠ q ∧ hasV ns (toAt ns p) = true then if toAt ns p = q then (ns, 0) else linkNV ns q (toAt ns p) else (ns, 130)
def joinNV (ns : List Nd) (p q : Int × Int) : List Nd × Int :=
  if hasV ns p = true ∧ hasV ns q = true ∧ p ≠ q ∧ hasV ns (toAt ns p) = true ∧ hasV ns (toAt ns q) = true then if toAt ns p = q then (ns, 0) else linkNV ns (toAt ns p) (toAt ns q) else (ns, 130)
theorem hasV_iff (ns : List Nd) (p : Int × Int) : hasV ns p = true ↔ 0 ≤ p.1 ∧ p.1 < ns.length ∧ 0 ≤ p.2 ∧ p.2 < (ndAt ns p.1.toNat).to.length := by rw [hasV, decide_eq_true_eq]
theorem setNV_len (ns : List Nd) (p q : Int × Int) : (setNV ns p q).length = ns.length := by simp [setNV]
/-- Nodes but for what they are linked to. -/
theorem setNV_at (ns : List Nd) (p q : Int × Int) (j : Nat) : ndAt (setNV ns p q) j = if p.1.toNat = j ∧ j < ns.length then { ndAt ns j with «to» := (ndAt ns j).to.set p.2.toNat q } else ndAt ns j := by
  rw [setNV, ndAt_set]
  split
  · rename_i h; rw [h.1]
  · rfl
theorem setNV_kind (ns : List Nd) (p q : Int × Int) (j : Nat) : (ndAt (setNV ns p q) j).kind = (ndAt ns j).kind ∧ (ndAt (setNV ns p q) j).to.length = (ndAt ns j).to.length ∧ (ndAt (setNV ns p q) j).alts = (ndAt ns j).alts := by
  rw [setNV_at]
  split <;> simp
theorem hasV_setN (ns : List Nd) (p q r : Int × Int) : hasV (setNV ns p q) r = hasV ns r := by
  rw [hasV, hasV, setNV_len, (setNV_kind ns p q _).2.1]
theorem getD_set {l : List (Int × Int)} {i j : Nat} {q : Int × Int} (h : j < l.length) : (l.set i q).getD j (0, 0) = if i = j then q else l.getD j (0, 0) := by
  simp only [List.getD_eq_getElem?_getD, List.getElem?_set]
  by_cases e : i = j
  · subst e; simp [h]
  · simp [e]
theorem toAt_setN {ns : List Nd} {p q r : Int × Int} (hp : hasV ns p = true) (hr : hasV ns r = true) : toAt (setNV ns p q) r = if r = p then q else toAt ns r := by
  obtain ⟨p1, p2, p3, p4⟩ := (hasV_iff ns p).1 hp
  obtain ⟨r1, r2, r3, r4⟩ := (hasV_iff ns r).1 hr
  obtain ⟨pa, pb⟩ := p
  obtain ⟨ra, rb⟩ := r
  simp only at p1 p2 p3 p4 r1 r2 r3 r4
  rw [toAt, toAt, setNV_at]
  simp only [Prod.mk.injEq]
  by_cases e : pa.toNat = ra.toNat
  · rw [if_pos ⟨e, by omega⟩]
    simp only
    rw [getD_set (by omega)]
    by_cases e2 : pb.toNat = rb.toNat
    · rw [if_pos e2, if_pos ⟨by omega, by omega⟩]
    · rw [if_neg e2, if_neg (by omega)]
  · rw [if_neg (by omega), if_neg (by omega)]
theorem setNV_self {ns : List Nd} {p q : Int × Int} (hp : hasV ns p = true) (h : toAt ns p = q) : setNV ns p q = ns := by
  obtain ⟨p1, p2, p3, p4⟩ := (hasV_iff ns p).1 hp
  refine nd_ext (setNV_len ns p q) fun j hj => ?_
  rw [setNV_at]
  split
  · rename_i e
    have h2 : (ndAt ns j).to.set p.2.toNat q = (ndAt ns j).to := by
      apply List.ext_getElem?
      intro k
      rw [List.getElem?_set]
      split
      · rename_i e2
        have hl : k < (ndAt ns j).to.length := by rw [← e.1]; omega
        rw [← e2]
        rw [← e2] at hl
        rw [if_pos hl, ← h, toAt, e.1]
        simp [hl]
      · rfl
    rw [h2]
  · rfl
/-- Have all ports but some the same links? -/
def othersN (ns ms : List Nd) (but : List (Int × Int)) : Prop :=
  ns.length = ms.length ∧ ∀ i, i < ns.length → (ndAt ns i).to.length = (ndAt ms i).to.length ∧ (ndAt ns i).kind = (ndAt ms i).kind ∧ ∀ k, k < (ndAt ns i).to.length → ((i : Int), (k : Int)) ∈ but ∨ (ndAt ns i).to.getD k (0, 0) = (ndAt ms i).to.getD k (0, 0)
theorem othersN_of {ns ms : List Nd} {but : List (Int × Int)} (h1 : ns.length = ms.length) (h2 : ∀ i, (ndAt ms i).kind = (ndAt ns i).kind ∧ (ndAt ms i).to.length = (ndAt ns i).to.length) (h3 : ∀ r, hasV ns r = true → r ∈ but ∨ toAt ms r = toAt ns r) : othersN ns ms but := by
  refine ⟨h1, fun i hi => ⟨(h2 i).2.symm, (h2 i).1.symm, fun k hk => ?_⟩⟩
  rcases h3 ((i : Int), (k : Int)) ((hasV_iff _ _).2 ⟨by simp, by simpa using hi, by simp, by simpa using hk⟩) with h | h
  · exact .inl h
  · exact .inr (by simpa [toAt] using h.symm)
theorem peer_ok {ns : List Nd} {p : Int × Int} (h : hasV ns p = true) : peerNV ns p = (toAt ns p, 0) := by rw [peerNV, if_pos h]
theorem link_ok {ns : List Nd} {p q : Int × Int} (hp : hasV ns p = true) (hq : hasV ns q = true) (hn : p ≠ q) : linkNV ns p q = (setNV (setNV ns p q) q p, 0) := by rw [linkNV, if_pos ⟨hp, hq, hn⟩]
theorem has2 (ns : List Nd) (p q p' q' r : Int × Int) : hasV (setNV (setNV ns p q) p' q') r = hasV ns r := by rw [hasV_setN, hasV_setN]
theorem len2 (ns : List Nd) (p q p' q' : Int × Int) : (setNV (setNV ns p q) p' q').length = ns.length := by rw [setNV_len, setNV_len]
theorem kind2 (ns : List Nd) (p q p' q' : Int × Int) (i : Nat) : (ndAt (setNV (setNV ns p q) p' q') i).kind = (ndAt ns i).kind ∧ (ndAt (setNV (setNV ns p q) p' q') i).to.length = (ndAt ns i).to.length := by
  obtain ⟨a, b, _⟩ := setNV_kind (setNV ns p q) p' q' i
  obtain ⟨c, d, _⟩ := setNV_kind ns p q i
  exact ⟨a.trans c, b.trans d⟩
/-- What two ports have that were linked, and all others. -/
theorem to2 {ns : List Nd} {p q r : Int × Int} (hp : hasV ns p = true) (hq : hasV ns q = true) (hr : hasV ns r = true) : toAt (setNV (setNV ns p q) q p) r = if r = q then p else if r = p then q else toAt ns r := by
  rw [toAt_setN (by rw [hasV_setN]; exact hq) (by rw [hasV_setN]; exact hr), toAt_setN hp hr]
theorem others2 {ns : List Nd} {p q : Int × Int} (hp : hasV ns p = true) (hq : hasV ns q = true) : othersN ns (setNV (setNV ns p q) q p) [p, q] :=
  othersN_of (len2 ns p q q p).symm (kind2 ns p q q p) fun r hr => by
    rw [to2 hp hq hr]
    by_cases e : r = q
    · exact .inl (by simp [e])
    · by_cases e2 : r = p
      · exact .inl (by simp [e2])
      · exact .inr (by rw [if_neg e, if_neg e2])
/-- P13.1: linked again, the other way round. -/
theorem link_again {ns : List Nd} {p q : Int × Int} (hp : hasV ns p = true) (hq : hasV ns q = true) (hn : p ≠ q) : linkNV (setNV (setNV ns p q) q p) q p = (setNV (setNV ns p q) q p, 0) := by
  rw [link_ok (by rw [has2]; exact hq) (by rw [has2]; exact hp) (fun e => hn e.symm)]
  have h1 : toAt (setNV (setNV ns p q) q p) q = p := by rw [to2 hp hq hq, if_pos rfl]
  have h2 : toAt (setNV (setNV ns p q) q p) p = q := by rw [to2 hp hq hp, if_neg hn, if_pos rfl]
  rw [setNV_self (by rw [has2]; exact hq) h1, setNV_self (by rw [has2]; exact hp) h2]
/-- Of a net that may be: what a port is linked to. -/
theorem checked_link {ns : List Nd} {cap : Int} (h : checkV ns cap = true) {p : Int × Int} (hp : hasV ns p = true) : hasV ns (toAt ns p) = true ∧ toAt ns p ≠ p ∧ toAt ns (toAt ns p) = p := by
  obtain ⟨p1, p2, p3, p4⟩ := (hasV_iff ns p).1 hp
  have h1 := (at_node (node_of h p.1.toNat (by omega))).2.2.2
  have h2 := of_decide_eq_true h1 p.2.toNat (by omega)
  have e : (((p.1.toNat : Nat) : Int), ((p.2.toNat : Nat) : Int)) = p := by
    obtain ⟨a, b⟩ := p
    simp only at p1 p3 ⊢
    rw [Int.toNat_of_nonneg p1, Int.toNat_of_nonneg p3]
  rw [portOk, e] at h2
  simp only [Bool.and_eq_true, Bool.not_eq_true', beq_eq_false_iff_ne, beq_iff_eq] at h2
  exact ⟨h2.2.1, h2.1, h2.2.2⟩
/-- P13.3 of moving. -/
theorem move_ok {ns : List Nd} {cap : Int} (h : checkV ns cap = true) {p q : Int × Int} (hp : hasV ns p = true) (hq : hasV ns q = true) (hn : p ≠ q) :
    moveNV ns p q = if toAt ns p = q then (ns, 0) else (setNV (setNV ns q (toAt ns p)) (toAt ns p) q, 0) := by
  obtain ⟨a1, _, _⟩ := checked_link h hp
  rw [moveNV, if_pos ⟨hp, hq, hn, a1⟩]
  split
  · rfl
  · rename_i e
    rw [link_ok hq a1 (fun e2 => e e2.symm)]
theorem join_ok {ns : List Nd} {cap : Int} (h : checkV ns cap = true) {p q : Int × Int} (hp : hasV ns p = true) (hq : hasV ns q = true) (hn : p ≠ q) :
    toAt ns p ≠ toAt ns q ∧ joinNV ns p q = if toAt ns p = q then (ns, 0) else (setNV (setNV ns (toAt ns p) (toAt ns q)) (toAt ns q) (toAt ns p), 0) := by
  obtain ⟨a1, _, a3⟩ := checked_link h hp
  obtain ⟨b1, _, b3⟩ := checked_link h hq
  have hne : toAt ns p ≠ toAt ns q := fun e => hn (by rw [← a3, ← b3, e])
  refine ⟨hne, ?_⟩
  rw [joinNV, if_pos ⟨hp, hq, hn, a1, b1⟩]
  split
  · rfl
  · rw [link_ok a1 b1 hne]
/-- What was moved, and is moved back. -/
theorem move_back {ns : List Nd} {cap : Int} (h : checkV ns cap = true) {p q : Int × Int} (hp : hasV ns p = true) (hq : hasV ns q = true) (hn : p ≠ q) (ha : toAt ns p ≠ q) :
    ∃ ks, moveNV (setNV (setNV ns q (toAt ns p)) (toAt ns p) q) q p = (ks, 0) ∧ hasV ks p = true ∧ hasV ks (toAt ns p) = true ∧ toAt ks p = toAt ns p ∧ toAt ks (toAt ns p) = p ∧ othersN ns ks [q] ∧ ks.length = ns.length := by
  obtain ⟨a1, a2, a3⟩ := checked_link h hp
  obtain ⟨a, ea⟩ : ∃ a, a = toAt ns p := ⟨_, rfl⟩
  rw [← ea] at a1 a2 a3 ha ⊢
  have m1 : toAt (setNV (setNV ns q a) a q) q = a := by rw [to2 hq a1 hq, if_neg (fun e => ha e.symm), if_pos rfl]
  have g1 : moveNV (setNV (setNV ns q a) a q) q p = (setNV (setNV (setNV (setNV ns q a) a q) p a) a p, 0) := by
    rw [moveNV, m1, if_pos ⟨by rw [has2]; exact hq, by rw [has2]; exact hp, fun e => hn e.symm, by rw [has2]; exact a1⟩, if_neg a2, link_ok (by rw [has2]; exact hp) (by rw [has2]; exact a1) (fun e => a2 e.symm)]
  have key : ∀ r, hasV ns r = true → toAt (setNV (setNV (setNV (setNV ns q a) a q) p a) a p) r = if r = a then p else if r = p then a else if r = q then a else toAt ns r := fun r hr => by
    rw [to2 (by rw [has2]; exact hp) (by rw [has2]; exact a1) (by rw [has2]; exact hr), to2 hq a1 hr]
    split
    · rfl
    · rename_i e1
      rfl
  refine ⟨_, g1, by rw [has2, has2]; exact hp, by rw [has2, has2]; exact a1, ?_, ?_, ?_, by rw [len2, len2]⟩
  · rw [key p hp, if_neg (fun e => a2 e.symm), if_pos rfl]
  · rw [key a a1, if_pos rfl]
  · refine othersN_of (by rw [len2, len2]) (fun i => ⟨(kind2 _ _ _ _ _ i).1.trans (kind2 _ _ _ _ _ i).1, (kind2 _ _ _ _ _ i).2.trans (kind2 _ _ _ _ _ i).2⟩) fun r hr => ?_
    rw [key r hr]
    by_cases e1 : r = a
    · right; rw [if_pos e1, e1, a3]
    · by_cases e2 : r = p
      · right; rw [if_neg e1, if_pos e2, e2, ea]
      · by_cases e3 : r = q
        · left; simp [e3]
        · right; rw [if_neg e1, if_neg e2, if_neg e3]
/-- Where one is not there, or both are one, nothing is done. -/
theorem none_link {ns : List Nd} {p q : Int × Int} (h : ¬ (hasV ns p = true ∧ hasV ns q = true ∧ p ≠ q)) : linkNV ns p q = (ns, 130) ∧ moveNV ns p q = (ns, 130) ∧ joinNV ns p q = (ns, 130) :=
  ⟨if_neg h, if_neg fun e => h ⟨e.1, e.2.1, e.2.2.1⟩, if_neg fun e => h ⟨e.1, e.2.1, e.2.2.1⟩⟩
end Lx
end Go.Proofs.Ytceblpjlklogpaa
namespace Go.Proofs.Ytceblpjlklogpaa
open Go Go.RowKit
namespace Lx
set_option maxRecDepth 100000
theorem ToIn.left {w : World} {X : Nat → Prop} {a b : List (Int × Int)} {A : Option Addr} (h : ToIn w X (a ++ b) A) : ToIn w X a A := fun j hj => by
  have := h j (by simp; omega)
  rw [List.getElem_append_left hj] at this
  exact this
theorem ToIn.right {w : World} {X : Nat → Prop} {a b : List (Int × Int)} {g o : Nat} (h : ToIn w X (a ++ b) (some ⟨g, o, none⟩)) : ToIn w X b (some ⟨g, o + a.length * 2, none⟩) := fun j hj => by
  obtain ⟨g', o', ⟨e, hX⟩, h0, h1⟩ := h (a.length + j) (by simp; omega)
  cases e
  rw [List.getElem_append_right (by omega)] at h0 h1
  simp only [Nat.add_sub_cancel_left] at h0 h1
  refine ⟨g, _, ⟨rfl, hX⟩, ?_, ?_⟩
  · rw [show o + a.length * 2 + j * 2 = o + (a.length + j) * 2 by omega]; exact h0
  · rw [show o + a.length * 2 + j * 2 + 1 = o + (a.length + j) * 2 + 1 by omega]; exact h1
theorem own_curC {w : World} {base g : Nat} {e : TypeId} {size n c : Nat} {xs : List Value} (h : w.ownsRow base e size (.slice (some ⟨g, 0, none⟩) n c) n xs) : ∃ cur, n ≤ c ∧ Lies w g e cur ∧ cur.size = c * size ∧ cur.toList.take (n * size) = xs ∧ base ≤ g ∧ c ≤ maxLen := by
  rcases h.2 with ⟨h1, _⟩ | ⟨g', cap, cur, h1, h2, h3, h4, h5, h6, h7⟩
  · cases h1
  · injection h1 with h1 _ h8
    injection h1 with h1
    injection h1 with h1
    subst h1 h8
    exact ⟨cur, h4, h3, h6, h7, h2, h5⟩
theorem two_cells {w : World} {g : Nat} {t : TypeId} {a b : Value} (h : Lies w g t #[a, b]) : w.cell? ⟨g, 0, none⟩ = some a ∧ w.cell? ⟨g, 1, none⟩ = some b := ⟨h.cell 0, h.cell 1⟩
theorem lies_put2 {w : World} {g : Nat} {t : TypeId} {a b : Value} (h : Lies w g t #[a, b]) (c d : Value) : Lies ((w.setCell ⟨g, 0, none⟩ c).setCell ⟨g, 1, none⟩ d) g t #[c, d] := by
  have := (h.put 0 c).put 1 d
  simpa using this
/-- Where the ports of node j begin. -/
def offN (l : List Nd) (j : Nat) : Nat := (portsOf (l.take j)).length
theorem offN_succ (l : List Nd) (j : Nat) (h : j < l.length) : offN l (j + 1) = offN l j + (ndAt l j).to.length := by
  rw [offN, offN, portsOf_take l j h, List.length_append]
theorem portsOf_app (l m : List Nd) : portsOf (l ++ m) = portsOf l ++ portsOf m := by
  induction l with
  | nil => rfl
  | cons a r ih => simp only [List.cons_append, portsOf, ih, List.append_assoc]
theorem portsOf_split (l : List Nd) (j : Nat) (h : j < l.length) : portsOf l = portsOf (l.take j) ++ ((ndAt l j).to ++ portsOf (l.drop (j + 1))) := by
  rw [← portsOf_drop l j h, ← portsOf_app, List.take_append_drop]
theorem offN_end (l : List Nd) (j : Nat) (h : j < l.length) : offN l j + (ndAt l j).to.length ≤ (portsOf l).length := by
  have := congrArg List.length (portsOf_split l j h)
  simp only [List.length_append] at this
  rw [offN]
  omega
/-- A node's own port among those of all. -/
theorem portsOf_at (l : List Nd) (j k : Nat) (h : j < l.length) (hk : k < (ndAt l j).to.length) : (portsOf l)[offN l j + k]? = some ((ndAt l j).to.getD k (0, 0)) := by
  rw [portsOf_split l j h, offN, List.getElem?_append_right (by omega), Nat.add_sub_cancel_left, List.getElem?_append_left hk]
  simp [hk]
theorem offN_mono (l : List Nd) : ∀ (i j : Nat), i < j → j ≤ l.length → offN l i + (ndAt l i).to.length ≤ offN l j
  | i, 0, h, _ => by omega
  | i, j + 1, h, hj => by
    rw [offN_succ l j (by omega)]
    by_cases e : i = j
    · subst e; omega
    · have := offN_mono l i j (by omega) (by omega)
      omega
theorem offN_set (l : List Nd) (p q : Int × Int) : ∀ j, j ≤ l.length → offN (setNV l p q) j = offN l j
  | 0, _ => by simp [offN, portsOf]
  | j + 1, h => by rw [offN_succ _ _ (by rw [setNV_len]; omega), offN_succ _ _ (by omega), offN_set l p q j (by omega), (setNV_kind l p q j).2.1]
theorem offN_all (l : List Nd) : offN l l.length = (portsOf l).length := by rw [offN, List.take_length]
/-- All ports, where one has another one. -/
theorem portsOf_set (l : List Nd) (p q : Int × Int) (hp : hasV l p = true) : portsOf (setNV l p q) = (portsOf l).set (offN l p.1.toNat + p.2.toNat) q := by
  obtain ⟨p1, p2, p3, p4⟩ := (hasV_iff l p).1 hp
  have hpl : p.1.toNat < l.length := by omega
  have hpk : p.2.toNat < (ndAt l p.1.toNat).to.length := by omega
  have e1 : portsOf (setNV l p q) = portsOf (l.take p.1.toNat) ++ ((ndAt l p.1.toNat).to.set p.2.toNat q ++ portsOf (l.drop (p.1.toNat + 1))) := by
    rw [portsOf_split (setNV l p q) p.1.toNat (by rw [setNV_len]; exact hpl), setNV_at, if_pos ⟨rfl, hpl⟩]
    simp only [setNV]
    rw [List.take_set_of_le (Nat.le_refl _), List.drop_set_of_lt (Nat.lt_succ_self _)]
  rw [e1]
  conv => rhs; rw [portsOf_split l p.1.toNat hpl]
  rw [offN, List.set_append_right _ _ (by omega), Nat.add_sub_cancel_left, List.set_append_left _ _ hpk]
theorem cellsTo_set : ∀ (l : List (Int × Int)) (k : Nat) (a b : Int), k < l.length → cellsTo (l.set k (a, b)) = ((cellsTo l).set (k * 2) (.int .i64 a)).set (k * 2 + 1) (.int .i64 b)
  | [], k, a, b, h => by simp at h
  | x :: r, 0, a, b, _ => rfl
  | x :: r, k + 1, a, b, h => by
    rw [List.set_cons_succ, cellsTo, cellsTo_set r k a b (by simpa using h), cellsTo, show (k + 1) * 2 = k * 2 + 1 + 1 by omega]
    rfl
/-- Block G is a row of nodes of the call's own: of the first k all lies in blocks of its own, their ports in block gp, one node's behind the other's. -/
structure Cut (w : World) (D G gp m : Nat) (l : List Nd) (k : Nat) (cs ps : Array Value) : Prop where
  lies : Lies w G 43 cs
  plies : Lies w gp 26 ps
  size : m * 6 ≤ cs.size
  len : m = l.length
  own : D ≤ G ∧ D ≤ gp ∧ gp ≠ G
  pc : ∀ (j : Nat) (u : Value), (cellsTo (portsOf l))[j]? = some u → ps[j]? = some u
  new : ∀ j, j < k → ∃ B b C c, (∀ q, q < 6 → cs[j * 6 + q]? = (cellsNd (ndAt l j) B b C c)[q]?) ∧ NdB (ndAt l j) ∧ AltIn w (fun g => D ≤ g ∧ g ≠ G ∧ g ≠ gp) (ndAt l j).alts B ∧ ((ndAt l j).to ≠ [] → C = some ⟨gp, offN l j * 2, none⟩)
  old : ∀ j, k ≤ j → j < m → ∃ B b C c, (∀ q, q < 6 → cs[j * 6 + q]? = (cellsNd (ndAt l j) B b C c)[q]?) ∧ NdIn w (fun g => g ≠ G ∧ g ≠ gp) (ndAt l j) B C
section
variable {w w' : World} {D G gp m k : Nat} {l : List Nd} {cs ps : Array Value}
theorem Cut.below (h : Cut w D G gp m l k cs ps) {E : Nat} (hb : Below E w w') (hE : w.heap.size ≤ E) : Cut w' D G gp m l k cs ps := by
  refine ⟨h.lies.below hb (by have := h.lies.lt; omega), h.plies.below hb (by have := h.plies.lt; omega), h.size, h.len, h.own, h.pc, fun j hj => ?_, fun j hj hjm => ?_⟩
  · obtain ⟨B, b, C, c, h5, h6, h7, h8⟩ := h.new j hj
    exact ⟨B, b, C, c, h5, h6, h7.below hb hE, h8⟩
  · obtain ⟨B, b, C, c, h5, h6⟩ := h.old j hj hjm
    exact ⟨B, b, C, c, h5, h6.below hb hE⟩
/-- The ports of a node of its own. -/
theorem Cut.to_ (h : Cut w D G gp m l k cs ps) {X : Nat → Prop} (hX : X gp) {j : Nat} (hj : j < m) {C : Option Addr} (hC : (ndAt l j).to ≠ [] → C = some ⟨gp, offN l j * 2, none⟩) : ToIn w X (ndAt l j).to C := fun i hi => by
  have hn : (ndAt l j).to ≠ [] := fun e => by rw [e] at hi; simp at hi
  have hl := h.len
  have e := portsOf_at l j i (by omega) hi
  have hlt : offN l j + i < (portsOf l).length := by have := offN_end l j (by omega); omega
  rw [List.getElem?_eq_getElem hlt] at e
  have e2 : (portsOf l)[offN l j + i]'hlt = (ndAt l j).to[i]'hi := by
    rw [Option.some.inj e]; simp [hi]
  obtain ⟨c0, c1⟩ := cellsTo_at (portsOf l) (offN l j + i) hlt
  rw [e2] at c0 c1
  refine ⟨gp, offN l j * 2, ⟨hC hn, hX⟩, ?_, ?_⟩
  · rw [h.plies.cell, show offN l j * 2 + i * 2 = (offN l j + i) * 2 by omega]; exact h.pc _ _ c0
  · rw [h.plies.cell, show offN l j * 2 + i * 2 + 1 = (offN l j + i) * 2 + 1 by omega]; exact h.pc _ _ c1
theorem Cut.half (h : Cut w D G gp m l m cs ps) : Half w (fun g => D ≤ g ∧ g ≠ G) G m l m cs := by
  refine ⟨h.lies, h.size, fun j hj => ?_, fun j hj hjm => absurd hjm (by omega)⟩
  obtain ⟨B, b, C, c, h5, h6, h7, h8⟩ := h.new j hj
  exact ⟨B, b, C, c, h5, h6, h7.keep (keep_wide fun g hg _ => ⟨hg.1, hg.2.1⟩), h.to_ ⟨h.own.2.1, h.own.2.2⟩ hj h8⟩
/-- All are there. -/
theorem Cut.row (h : Cut w D G gp m l m cs ps) : NdsIn w (fun g => D ≤ g) l (some ⟨G, 0, none⟩) := h.half.row h.len h.own.1 (fun _ hg _ => hg.1)
/-- One node as it lies. -/
theorem Cut.get (h : Cut w D G gp m l m cs ps) {j : Nat} (hj : j < m) (hn : 0 < (ndAt l j).to.length) : ∃ c, w.cell? ⟨G, j * 6 + 5, none⟩ = some (.slice (some ⟨gp, offN l j * 2, none⟩) (ndAt l j).to.length (capN (ndAt l j).to.length c)) := by
  obtain ⟨B, b, C, c, h5, _, _, h8⟩ := h.new j hj
  have hC := h8 (fun e => by rw [e] at hn; simp at hn)
  subst hC
  exact ⟨c, by rw [h.lies.cell]; exact h5 5 (by omega)⟩
/-- One port has another one. -/
theorem Cut.put (h : Cut w D G gp m l m cs ps) (p : Int × Int) (a b : Int) (hp : hasV l p = true) :
    ∃ ps', Cut ((w.setCell ⟨gp, (offN l p.1.toNat + p.2.toNat) * 2, none⟩ (.int .i64 a)).setCell ⟨gp, (offN l p.1.toNat + p.2.toNat) * 2 + 1, none⟩ (.int .i64 b)) D G gp m (setNV l p (a, b)) m cs ps' := by
  obtain ⟨p1, p2, p3, p4⟩ := (hasV_iff l p).1 hp
  have hl := h.len
  have hne := h.own.2.2
  have hlt : offN l p.1.toNat + p.2.toNat < (portsOf l).length := by have := offN_end l p.1.toNat (by omega); omega
  refine ⟨_, (h.lies.far (p := ⟨gp, _, none⟩) (fun e => hne e.symm) _).far (p := ⟨gp, _, none⟩) (fun e => hne e.symm) _, (h.plies.put _ _).put _ _, h.size, by rw [setNV_len]; exact hl, h.own, ?_, fun j hj => ?_, fun j hj hjm => absurd hjm (by omega)⟩
  · intro j u hu
    rw [portsOf_set l p (a, b) hp, cellsTo_set _ _ _ _ hlt] at hu
    have hc := cellsTo_len (portsOf l)
    have hps : ∀ i, i < (cellsTo (portsOf l)).length → i < ps.size := fun i hi => by
      have := h.pc i _ (List.getElem?_eq_getElem hi)
      exact (Array.getElem?_eq_some_iff.1 this).1
    simp only [Array.getElem?_setIfInBounds, Array.size_setIfInBounds]
    simp only [List.getElem?_set, List.length_set] at hu
    have h1 := hps ((offN l p.1.toNat + p.2.toNat) * 2) (by omega)
    have h2 := hps ((offN l p.1.toNat + p.2.toNat) * 2 + 1) (by omega)
    by_cases e1 : (offN l p.1.toNat + p.2.toNat) * 2 + 1 = j
    · rw [if_pos e1, if_pos (by omega)] at hu
      rw [if_pos e1, if_pos (by omega)]
      exact hu
    · rw [if_neg e1] at hu ⊢
      by_cases e2 : (offN l p.1.toNat + p.2.toNat) * 2 = j
      · rw [if_pos e2, if_pos (by omega)] at hu
        rw [if_pos e2, if_pos (by omega)]
        exact hu
      · rw [if_neg e2] at hu ⊢
        exact h.pc j u hu
  · obtain ⟨B, b', C, c, h5, h6, h7, h8⟩ := h.new j hj
    obtain ⟨k1, k2, k3⟩ := setNV_kind l p (a, b) j
    have hcl : cellsNd (ndAt (setNV l p (a, b)) j) B b' C c = cellsNd (ndAt l j) B b' C c := by
      rw [setNV_at]
      split
      · simp [cellsNd]
      · rfl
    refine ⟨B, b', C, c, fun q hq => by rw [hcl]; exact h5 q hq, ?_, ?_, fun hn => ?_⟩
    · rw [setNV_at]
      split
      · exact ⟨h6.1, h6.2.1, by simpa using h6.2.2⟩
      · exact h6
    · rw [k3]
      exact (h7.keep (keep_set _ _ (by simp))).keep (keep_set _ _ (by simp))
    · rw [offN_set l p (a, b) j (by omega)]
      exact h8 (fun e => hn (List.eq_nil_of_length_eq_zero (by rw [k2, e]; rfl)))
theorem Cut.far (h : Cut w D G gp m l m cs ps) (p : Addr) (hp : p.block < D) (u : Value) : Cut (w.setCell p u) D G gp m l m cs ps := by
  have ho := h.own
  refine ⟨h.lies.far (p := p) (by omega) u, h.plies.far (p := p) (by omega) u, h.size, h.len, h.own, h.pc, fun j hj => ?_, fun j hj hjm => absurd hjm (by omega)⟩
  obtain ⟨B, b, C, c, h5, h6, h7, h8⟩ := h.new j hj
  exact ⟨B, b, C, c, h5, h6, h7.keep (keep_set p u (by omega)), h8⟩
theorem Cut.less {E : Nat} (h : Cut w D G gp m l m cs ps) (hE : E ≤ D) : Cut w E G gp m l m cs ps := by
  have ho := h.own
  refine ⟨h.lies, h.plies, h.size, h.len, ⟨by omega, by omega, ho.2.2⟩, h.pc, fun j hj => ?_, fun j hj hjm => absurd hjm (by omega)⟩
  obtain ⟨B, b, C, c, h5, h6, h7, h8⟩ := h.new j hj
  exact ⟨B, b, C, c, h5, h6, h7.keep (keep_wide fun g hg _ => ⟨by omega, hg.2⟩), h8⟩
/-- The next node. -/
theorem Cut.step (h : Cut w D G gp m l k cs ps) (hk : k < m) (hD : D ≤ w.heap.size) {cs' : Array Value} (hfar : ∀ g, g ≠ G → g < w.heap.size → w'.heap[g]? = w.heap[g]?) (hL : Lies w' G 43 cs') (hs : cs'.size = cs.size)
    {B C : Option Addr} {b c : Nat} (h1 : ∀ q, q < 6 → cs'[k * 6 + q]? = (cellsNd (ndAt l k) B b C c)[q]?) (h2 : ∀ j, (j < k * 6 ∨ k * 6 + 6 ≤ j) → cs'[j]? = cs[j]?) (hB : NdB (ndAt l k))
    (hA : AltIn w' (fun g => w.heap.size ≤ g) (ndAt l k).alts B) (hC : (ndAt l k).to ≠ [] → C = some ⟨gp, offN l k * 2, none⟩) : Cut w' D G gp m l (k + 1) cs' ps := by
  have hgp := h.plies.lt
  have hG := h.lies.lt
  have hcell : ∀ g j, g ≠ G → g < w.heap.size → w'.cell? ⟨g, j, none⟩ = w.cell? ⟨g, j, none⟩ := fun g j h1 h2 => World.cell?_of_block (hfar g h1 h2)
  refine ⟨hL, (hfar gp h.own.2.2 hgp).trans h.plies, by rw [hs]; exact h.size, h.len, h.own, h.pc, fun j hj => ?_, fun j hj hjm => ?_⟩
  · by_cases e : j = k
    · subst e
      exact ⟨B, b, C, c, h1, hB, hA.keep (keep_wide fun g hg _ => ⟨by omega, by omega, by omega⟩), hC⟩
    · obtain ⟨B', b', C', c', h5, h6, h7, h8⟩ := h.new j (by omega)
      exact ⟨B', b', C', c', fun q hq => by rw [h2 _ (by omega)]; exact h5 q hq, h6, h7.keep (fun g i hg hlt => ⟨hcell g i hg.2.1 hlt, hg⟩), h8⟩
  · obtain ⟨B', b', C', c', h5, h6⟩ := h.old j (by omega) hjm
    exact ⟨B', b', C', c', fun q hq => by rw [h2 _ (by omega)]; exact h5 q hq, h6.keep (fun g i hg hlt => ⟨hcell g i hg.1 hlt, hg⟩)⟩
end
end Lx
end Go.Proofs.Ytceblpjlklogpaa
namespace Go.Proofs.Ytceblpjlklogpaa
open Go Go.RowKit
namespace Lx
set_option maxRecDepth 100000
/-- What copied.Net answers. -/
def GivesCut (l : List Nd) (m : Nat) (cap : Int) (w : World) (e : Ending) (w' : World) : Prop :=
  ∃ G gp c' cs ps, e = .returned (.agg #[.slice (some ⟨G, 0, none⟩) m c', .int .i64 cap]) ∧ Cut w' w.heap.size G gp m l m cs ps ∧ cs.size = c' * 6 ∧ m ≤ c' ∧ c' ≤ maxLen ∧ Below w.heap.size w w'
def GivesC (l : List Nd) (m : Nat) (cap : Int) (w : World) (e : Ending) (w' : World) : Prop :=
  ∃ G c' cs, e = .returned (.agg #[.slice (some ⟨G, 0, none⟩) m c', .int .i64 cap]) ∧ Half w' (fun g => w.heap.size ≤ g ∧ g ≠ G) G m l m cs ∧ cs.size = c' * 6 ∧ m ≤ c' ∧ c' ≤ maxLen ∧ w.heap.size ≤ G ∧ Below w.heap.size w w'
theorem GivesCut.c {l : List Nd} {m : Nat} {cap : Int} {w w' : World} {e : Ending} (h : GivesCut l m cap w e w') : GivesC l m cap w e w' := by
  obtain ⟨G, gp, c', cs, ps, he, hC, h1, h2, h3, h4⟩ := h
  exact ⟨G, c', cs, he, hC.half, h1, h2, h3, hC.own.1, h4⟩
theorem res_net1 {fn : Func} {p : Tmp} (h : fn.results = #[.cell p 24]) {tmps : Array Value} {g : Nat} {a b : Value} {w : World} (hp : tmps.getD p undef = .pointer (some ⟨g, 0, none⟩)) (L : Lies w g 24 #[a, b]) :
    (results fn tmps).run Try.prog w = .ok (.agg #[a, b]) w := by
  have hl := run_loadVar_row (P := Try.prog) w g 24 24 #[a, b] (0, 0) _ L Try.underlying24 rfl (by kernel_rfl)
  have hp' : tmps[p]?.getD undef = .pointer (some ⟨g, 0, none⟩) := by simpa using hp
  simp only [results, h]
  simp [hp', asAddr, hl]
/-- A net without nodes. -/
theorem net_none (A : Option Addr) (c : Nat) (cap : Int) (w : World) :
    Calls Try.prog 28 #[.agg #[.slice A 0 c, .int .i64 cap]] w fun e w' => ∃ A' c', e = .returned (.agg #[.slice A' 0 c', .int .i64 cap]) ∧ Below w.heap.size w w' := by
  obtain ⟨W, hW⟩ : ∃ W, W = ((w.alloc (.cells #[.slice A 0 c, .int .i64 cap] 24)).alloc (.cells #[.slice none 0 0, .int .i64 0] 24)) := ⟨_, rfl⟩
  have hbW : Below w.heap.size w W := by rw [hW]; exact ((Below.refl _ w).alloc (Nat.le_refl _) _).alloc (by simp) _
  have hWs : W.heap.size = w.heap.size + 2 := by rw [hW]; simp
  have L1 : Lies W w.heap.size 24 #[.slice A 0 c, .int .i64 cap] := by rw [hW]; exact (Lies.new _ _ _).old _
  have R1 : Lies W (w.heap.size + 1) 24 #[.slice none 0 0, .int .i64 0] := by rw [hW]; simpa using Lies.new (w.alloc (.cells #[.slice A 0 c, .int .i64 cap] 24)) 24 #[.slice none 0 0, .int .i64 0]
  have HC : Hid (Calls Try.prog 36 #[.slice A 0 c] W fun e w' => ∃ A' c', e = .returned (.slice A' 0 c') ∧ Below W.heap.size W w') := Lib.hid (by
    cases A with
    | none =>
      have heq : ∀ W, (binOp .eql 22 (.slice none 0 c) (.slice none 0 0)).run Try.prog W = .ok (.bool true) W := fun W => by kernel_rfl
      clear L1 R1 hW
      go_enter Try.func36, Try.ntmps36
      go_wp2_with fail
      go_ret
      exact ⟨_, _, rfl, Below.refl _ _⟩
    | some ad =>
      refine (cloneN_any [] ad 0 c [] W rfl (by omega) (fun j u hu => by simp at hu) (fun u hu => by simp at hu)).mono ?_
      rintro e w' ⟨g', c', rfl, _, hb⟩
      exact ⟨_, _, rfl, hb⟩)
  obtain ⟨x0, x1⟩ := two_cells L1
  have HL1 := Lib.hid L1
  have HR1 := Lib.hid R1
  have HBW := Lib.hid hbW
  clear L1 R1 hbW
  go_enter Try.func28, Try.ntmps28
  go_upto_region 1 with fail
  rw [← hW]
  clear hW
  go_wp2_with fail
  refine HC.out.mono ?_
  rintro e w2 ⟨A', c', rfl, hb2⟩
  clear HC x0 x1
  have L2 := HL1.out.below hb2 HL1.out.lt
  have R2 := HR1.out.below hb2 HR1.out.lt
  have f0 := L2.frozen 0
  obtain ⟨y0, y1⟩ := two_cells L2
  have HL2 := Lib.hid L2
  have HR2 := Lib.hid R2
  have HB2 := Lib.hid (HBW.out.trans (hb2.mono HBW.out.size))
  clear L2 R2 HL1 HR1 HBW hb2
  go_upto_region 2 with fail
  obtain ⟨V3, hV3⟩ : ∃ V, V = w2.setCell ⟨w.heap.size, 0, none⟩ (.slice A' 0 c') := ⟨_, rfl⟩
  have L3 : Lies V3 w.heap.size 24 #[.slice A' 0 c', .int .i64 cap] := by
    rw [hV3]
    have := HL2.out.put 0 (.slice A' 0 c')
    simpa using this
  have R3 : Lies V3 (w.heap.size + 1) 24 #[.slice none 0 0, .int .i64 0] := by rw [hV3]; exact HR2.out.far (p := ⟨w.heap.size, 0, none⟩) (by simp) _
  have hb3 : Below w.heap.size w V3 := by rw [hV3]; exact HB2.out.setCell (p := ⟨w.heap.size, 0, none⟩) (Nat.le_refl _) _
  rw [← hV3]
  clear hV3 HL2 HR2 HB2 y0 y1 f0
  have HP := Lib.hid (allPorts_any [] A' 0 c' V3 rfl (by omega) (fun i hi => by simp at hi) NdsIn.nil)
  obtain ⟨y0, y1⟩ := two_cells L3
  have HL3 := Lib.hid L3
  have HR3 := Lib.hid R3
  have HB3 := Lib.hid hb3
  clear L3 R3 hb3
  go_wp2_with fail
  refine HP.out.mono ?_
  rintro e w4 ⟨gp, np, cp, ps, rfl, _, _, _, _, _, hb4⟩
  have L4 := HL3.out.below hb4 HL3.out.lt
  have R4 := HR3.out.below hb4 HR3.out.lt
  have hb5 := HB3.out.trans (hb4.mono HB3.out.size)
  clear HP y0 y1 HL3 HR3 HB3 hb4
  obtain ⟨y0, y1⟩ := two_cells L4
  have HL4 := Lib.hid L4
  have HR4 := Lib.hid R4
  have HB5 := Lib.hid hb5
  clear L4 R4 hb5
  go_wp2_with fail
  go_loopw [17] (fun y wr => y = .int .i64 0 ∧ wr = w4) (fun _ _ => 0)
  case atStart => exact ⟨rfl, rfl⟩
  case round =>
    obtain ⟨rfl, rfl⟩ := hrel
    have g0 := HR4.out.frozen 0
    have g1 := HR4.out.frozen 1
    obtain ⟨r0, r1⟩ := two_cells HR4.out
    go_wp2_with fail
    have hR9 := lies_put2 HR4.out (.slice A' 0 c') (.int .i64 cap)
    refine bodyPost_ret (res_net1 (p := 2) Try.results28 rfl hR9) rfl ⟨A', c', rfl, (HB5.out.setCell (p := ⟨w.heap.size + 1, 0, none⟩) (by show w.heap.size ≤ w.heap.size + 1; omega) _).setCell (p := ⟨w.heap.size + 1, 1, none⟩) (by show w.heap.size ≤ w.heap.size + 1; omega) _⟩
set_option maxHeartbeats 16000000 in
theorem net_any (l : List Nd) (A : Option Addr) (m c : Nat) (cap : Int) (w : World) (hm : m = l.length) (hm0 : 0 < m) (hm2 : m ≤ 100000) (hk : ∀ i, i < l.length → (ndAt l i).to.length ≤ 100000 ∧ (ndAt l i).alts.length ≤ 100000) (hN : NdsIn w AnyB l A) :
    Calls Try.prog 28 #[.agg #[.slice A m c, .int .i64 cap]] w (GivesCut l m cap w) := by
  obtain ⟨W, hW⟩ : ∃ W, W = ((w.alloc (.cells #[.slice A m c, .int .i64 cap] 24)).alloc (.cells #[.slice none 0 0, .int .i64 0] 24)) := ⟨_, rfl⟩
  have hbW : Below w.heap.size w W := by rw [hW]; exact ((Below.refl _ w).alloc (Nat.le_refl _) _).alloc (by simp) _
  have hWs : W.heap.size = w.heap.size + 2 := by rw [hW]; simp
  have L1 : Lies W w.heap.size 24 #[.slice A m c, .int .i64 cap] := by rw [hW]; exact (Lies.new _ _ _).old _
  have R1 : Lies W (w.heap.size + 1) 24 #[.slice none 0 0, .int .i64 0] := by rw [hW]; simpa using Lies.new (w.alloc (.cells #[.slice A m c, .int .i64 cap] 24)) 24 #[.slice none 0 0, .int .i64 0]
  obtain ⟨g, o, _, _, _, _, _, _, rfl, _, _⟩ := NdsIn.get hN 0 (by omega)
  have hNW : NdsIn W (fun g => g < w.heap.size) l (some ⟨g, o, none⟩) := hN.keep (fun b j _ hlt => ⟨hbW.cell (p := ⟨b, j, none⟩) hlt, hlt⟩)
  obtain ⟨xs, hrow, hxc, hx1⟩ := NdsIn.row hNW
  have hxl : xs.length = m * 6 := by rw [hrow.1, hm]
  have HC := Lib.hid (cloneN_any l ⟨g, o, none⟩ m c xs W hxl (by omega) (fun j u hu => by rw [nadd]; exact hxc j u hu) hx1)
  have HROW := Lib.hid hrow
  have HM := Lib.hid hm
  have HK := Lib.hid hk
  obtain ⟨x0, x1⟩ := two_cells L1
  have HL1 := Lib.hid L1
  have HR1 := Lib.hid R1
  have HBW := Lib.hid hbW
  clear hN hrow hxc hx1 hm hk hNW L1 R1 hbW
  go_enter Try.func28, Try.ntmps28
  go_upto_region 1 with fail
  rw [← hW]
  clear hW
  go_wp2_with fail
  refine HC.out.mono ?_
  rintro e w2 ⟨G, c', rfl, ho, hb2⟩
  clear HC x0 x1
  obtain ⟨cur, hmc, hL, hcs, htk, hGb, hcm⟩ := own_curC ho
  have hGlt := hL.lt
  have L2 := HL1.out.below hb2 HL1.out.lt
  have R2 := HR1.out.below hb2 HR1.out.lt
  have f0 := L2.frozen 0
  obtain ⟨y0, y1⟩ := two_cells L2
  have HL2 := Lib.hid L2
  have HR2 := Lib.hid R2
  have HB2 := Lib.hid (HBW.out.trans (hb2.mono HBW.out.size))
  have HOLD : Hid (∀ j, j < m → ∃ B b C cc, (∀ q, q < 6 → cur[j * 6 + q]? = (cellsNd (ndAt l j) B b C cc)[q]?) ∧ NdIn w2 (fun g => g < w.heap.size) (ndAt l j) B C) := Lib.hid fun j hjm => by
    have hjl : j < l.length := by have := HM.out; omega
    obtain ⟨B, b, C, cc, h5, h6⟩ := HROW.out.2 j hjl
    rw [← ndAt_lt hjl] at h5 h6
    refine ⟨B, b, C, cc, fun q hq => ?_, h6.below hb2 (Nat.le_refl _)⟩
    rw [← h5 q hq, ← htk, List.getElem?_take_of_lt (by omega)]
    simp
  have HN2 : Hid (NdsIn w2 (fun g => g ≠ w.heap.size) l (some ⟨G, 0, none⟩)) := Lib.hid ((HROW.out.keep (keep_below hb2 (Nat.le_refl _))).owned ho (fun q hq => by omega) (fun q hq _ => by omega))
  have HLG := Lib.hid hL
  clear ho htk hL HROW L2 R2 HL1 HR1 HBW hb2
  go_upto_region 2 with fail
  obtain ⟨V3, hV3⟩ : ∃ V, V = w2.setCell ⟨w.heap.size, 0, none⟩ (.slice (some ⟨G, 0, none⟩) m c') := ⟨_, rfl⟩
  have L3 : Lies V3 w.heap.size 24 #[.slice (some ⟨G, 0, none⟩) m c', .int .i64 cap] := by
    rw [hV3]
    have := HL2.out.put 0 (.slice (some ⟨G, 0, none⟩) m c')
    simpa using this
  have R3 : Lies V3 (w.heap.size + 1) 24 #[.slice none 0 0, .int .i64 0] := by rw [hV3]; exact HR2.out.far (p := ⟨w.heap.size, 0, none⟩) (by simp) _
  have hb3 : Below w.heap.size w V3 := by rw [hV3]; exact HB2.out.setCell (p := ⟨w.heap.size, 0, none⟩) (Nat.le_refl _) _
  have hG3 : Lies V3 G 43 cur := by rw [hV3]; exact HLG.out.far (p := ⟨w.heap.size, 0, none⟩) (by show G ≠ w.heap.size; omega) _
  have hN3 : NdsIn V3 (fun g => g ≠ w.heap.size) l (some ⟨G, 0, none⟩) := by rw [hV3]; exact HN2.out.keep (keep_set _ _ (by simp))
  have hO3 : ∀ j, j < m → ∃ B b C cc, (∀ q, q < 6 → cur[j * 6 + q]? = (cellsNd (ndAt l j) B b C cc)[q]?) ∧ NdIn V3 (fun g => g < w.heap.size) (ndAt l j) B C := fun j hj => by
    obtain ⟨B, b, C, cc, h5, h6⟩ := HOLD.out j hj
    exact ⟨B, b, C, cc, h5, by rw [hV3]; exact h6.keep (keep_set _ _ (by show ¬ w.heap.size < w.heap.size; omega))⟩
  rw [← hV3]
  clear hV3 HL2 HR2 HB2 y0 y1 f0 HLG HN2 HOLD
  have HP := Lib.hid (allPorts_any l (some ⟨G, 0, none⟩) m c' V3 HM.out hm2 (fun i hi => (HK.out i hi).1) hN3.any)
  obtain ⟨y0, y1⟩ := two_cells L3
  have HL3 := Lib.hid L3
  have HR3 := Lib.hid R3
  have HB3 := Lib.hid hb3
  have HG3 := Lib.hid hG3
  have HO3 := Lib.hid hO3
  clear L3 R3 hb3 hG3 hO3 hN3
  go_wp2_with fail
  refine HP.out.mono ?_
  rintro e w4 ⟨gp, np, cp, ps, rfl, hnp, hncp, hgp, hpl, hpc, hb4⟩
  have L4 := HL3.out.below hb4 HL3.out.lt
  have R4 := HR3.out.below hb4 HR3.out.lt
  have hb5 := HB3.out.trans (hb4.mono HB3.out.size)
  have hGs := HG3.out.lt
  have hCut : Cut w4 (w.heap.size + 2) G gp m l 0 cur ps := by
    refine ⟨HG3.out.below hb4 hGs, hpl, by rw [hcs]; exact Nat.mul_le_mul_right 6 hmc, HM.out, ⟨by omega, by have := HB3.out.size; omega, by omega⟩, hpc, fun j hj => absurd hj (Nat.not_lt_zero _), fun j _ hjm => ?_⟩
    obtain ⟨B, b, C, cc, h5, h6⟩ := HO3.out j hjm
    exact ⟨B, b, C, cc, h5, (h6.below hb4 (Nat.le_refl _)).keep (keep_wide fun q hq _ => ⟨by omega, by have := HB3.out.size; omega⟩)⟩
  have HINV : Hid (np = (portsOf (l.drop 0)).length ∧ np ≤ cp ∧ (portsOf (l.drop 0) ≠ [] → 0 = offN l 0 * 2) ∧ (∃ cs, Cut w4 (w.heap.size + 2) G gp m l 0 cs ps ∧ cs.size = c' * 6) ∧ Lies w4 w.heap.size 24 #[.slice (some ⟨G, 0, none⟩) m c', .int .i64 cap] ∧ Lies w4 (w.heap.size + 1) 24 #[.slice none 0 0, .int .i64 0] ∧ Below w.heap.size w w4) := Lib.hid ⟨by simpa using hnp, hncp, fun _ => by simp [offN, portsOf], ⟨cur, hCut, hcs⟩, L4, R4, hb5⟩
  clear HP y0 y1 HL3 HR3 HB3 hb4 HG3 HO3 hCut hnp hncp hpl hpc hcs hb5 R4
  obtain ⟨y0, y1⟩ := two_cells L4
  clear L4
  go_wp2_with fail
  go_loopw [3, 17] (fun v y wr => ∃ (i oq n cq : Nat), i ≤ m ∧ y = .int .i64 i ∧ v = .slice (some ⟨gp, oq, none⟩) n cq ∧ n ≤ 10000000000 ∧ Hid (n = (portsOf (l.drop i)).length ∧ n ≤ cq ∧ (portsOf (l.drop i) ≠ [] → oq = offN l i * 2) ∧ (∃ cs, Cut wr (w.heap.size + 2) G gp m l i cs ps ∧ cs.size = c' * 6) ∧ Lies wr w.heap.size 24 #[.slice (some ⟨G, 0, none⟩) m c', .int .i64 cap] ∧ Lies wr (w.heap.size + 1) 24 #[.slice none 0 0, .int .i64 0] ∧ Below w.heap.size w wr)) (fun _ y _ => m - (intOf y).toNat)
  case atStart =>
    refine ⟨0, 0, np, cp, Nat.zero_le _, rfl, rfl, ?_, HINV⟩
    have h1 := portsOf_le l 100000 (fun i hi => (HK.out i hi).1) l.length (Nat.le_refl _)
    rw [List.take_length] at h1
    have h2 := HINV.out.1
    rw [List.drop_zero] at h2
    have := HM.out
    have h3 : l.length * 100000 ≤ 100000 * 100000 := Nat.mul_le_mul_right _ (by omega)
    omega
  case round =>
    clear HINV y0 y1
    obtain ⟨i, oq, n, cq, hi, rfl, rfl, hn9, hV⟩ := hrel
    rename World => wo
    by_cases hlt : i < m
    · have hil : i < l.length := by have := HM.out; omega
      obtain ⟨hv1, hv2, hv3, ⟨cs, hv4, hv5⟩, hv6, hv7, hv8⟩ := hV.out
      obtain ⟨B, bb, C, cc, hcq, hNd⟩ := hv4.old i (Nat.le_refl _) hlt
      have hks := HK.out i hil
      have hpd := portsOf_drop l i hil
      obtain ⟨x, hx⟩ : ∃ x, x = ndAt l i := ⟨_, rfl⟩
      have HX := Lib.hid hx
      rw [← hx] at hcq hNd hks hpd
      have x3 := (hv4.lies.cell (i * 6 + 3)).trans (hcq 3 (by omega))
      have f3 := hv4.lies.frozen (i * 6 + 3)
      simp only [cellsNd, List.getElem?_cons_zero, List.getElem?_cons_succ] at x3
      have HS := Lib.hid (strClone_any x.name wo (by have := hNd.1.1; omega))
      have hsz4 := hv4.size
      have hoL := hv4.lies.lt
      have hoB := hv6.lt
      have hoR := hv7.lt
      have hoP := hv4.plies.lt
      have hown : w.heap.size + 2 ≤ G ∧ w.heap.size + 2 ≤ gp ∧ gp ≠ G := hv4.own
      obtain ⟨n0, n1⟩ := two_cells hv6
      have HNd := Lib.hid hNd
      have HPD := Lib.hid hpd
      have HCQ := Lib.hid hcq
      have HCUT := Lib.hid hv4
      have HLB := Lib.hid hv6
      have HRB := Lib.hid hv7
      have HBW := Lib.hid hv8
      have HV1 := Lib.hid hv1
      have HV3 := Lib.hid hv3
      have HV5 := Lib.hid hv5
      clear hx hNd hpd hcq hv1 hv3 hv5 hv4 hv6 hv7 hv8 hV
      go_wp2_with fail
      refine HS.out.mono ?_
      rintro e w4 ⟨rfl, hb4⟩
      clear HS x3 f3 n0 n1
      have hL4 := HCUT.out.lies.below hb4 hoL
      have x3 := (hL4.cell (i * 6 + 3)).trans (HCQ.out 3 (by omega))
      simp only [cellsNd, List.getElem?_cons_zero, List.getElem?_cons_succ] at x3
      have f3 := hL4.frozen (i * 6 + 3)
      have HL4 := Lib.hid hL4
      clear hL4
      go_upto_region 8 with fail
      obtain ⟨V5, hV5⟩ : ∃ V, V = w4.setCell ⟨G, i * 6 + 3, none⟩ (.string x.name) := ⟨_, rfl⟩
      have L5 : Lies V5 G 43 cs := by rw [hV5]; exact lies_same HL4.out (by rw [← HL4.out.cell]; exact x3)
      have hfar5 : ∀ q, q ≠ G → q < wo.heap.size → V5.heap[q]? = wo.heap[q]? := fun q hq hql => by rw [hV5]; exact (Below.heap_setCell w4 _ _ q hq).trans (hb4.block q hql)
      have hs5 : wo.heap.size ≤ V5.heap.size := by rw [hV5]; simpa [World.setCell] using hb4.size
      have HB5 : Hid (Below w.heap.size w V5) := Lib.hid (by rw [hV5]; exact (HBW.out.trans (hb4.mono HBW.out.size)).setCell (p := ⟨G, i * 6 + 3, none⟩) (by show w.heap.size ≤ G; omega) _)
      rw [← hV5]
      clear hV5 f3 x3 HL4 hb4 HBW
      have x4 := (L5.cell (i * 6 + 4)).trans (HCQ.out 4 (by omega))
      simp only [cellsNd, List.getElem?_cons_zero, List.getElem?_cons_succ] at x4
      have HA := Lib.hid (copiedAlts_any x.alts B x.alts.length (capN x.alts.length bb) V5 rfl (by omega) (HNd.out.2.1.keep (fun q j hq hql => ⟨World.cell?_of_block (hfar5 q hq.1 hql), trivial⟩)))
      have HFAR5 := Lib.hid hfar5
      have HL5 := Lib.hid L5
      clear L5 hfar5
      go_wp2_with fail
      refine HA.out.mono ?_
      rintro e w6 ⟨A', ca, rfl, hA6, hb6⟩
      clear HA x4
      have hl5 := HL5.out.lt
      have L6 := HL5.out.below hb6 hl5
      have x4 := (L6.cell (i * 6 + 4)).trans (HCQ.out 4 (by omega))
      simp only [cellsNd, List.getElem?_cons_zero, List.getElem?_cons_succ] at x4
      have f4 := L6.frozen (i * 6 + 4)
      have HL6 := Lib.hid L6
      clear L6
      go_upto_region 9 with fail
      obtain ⟨V7, hV7⟩ : ∃ V, V = w6.setCell ⟨G, i * 6 + 4, none⟩ (.slice A' x.alts.length (capN x.alts.length ca)) := ⟨_, rfl⟩
      have L7 : Lies V7 G 43 (cs.setIfInBounds (i * 6 + 4) (.slice A' x.alts.length (capN x.alts.length ca))) := by rw [hV7]; exact HL6.out.put _ _
      have hfar7 : ∀ q, q ≠ G → q < wo.heap.size → V7.heap[q]? = wo.heap[q]? := fun q hq hql => by rw [hV7]; exact ((Below.heap_setCell w6 _ _ q hq).trans (hb6.block q (by omega))).trans (HFAR5.out q hq hql)
      have hA7 : AltIn V7 (fun g => wo.heap.size ≤ g) x.alts A' := by
        rw [hV7]
        exact (hA6.keep (keep_set _ _ (by show ¬ V5.heap.size ≤ G; omega))).keep (keep_wide fun q hq _ => by omega)
      have HB7 : Hid (Below w.heap.size w V7) := Lib.hid (by rw [hV7]; exact (HB5.out.trans (hb6.mono HB5.out.size)).setCell (p := ⟨G, i * 6 + 4, none⟩) (by show w.heap.size ≤ G; omega) _)
      rw [← hV7]
      clear hV7 x4 f4 hb6 hA6 HB5 HL6 HL5 HFAR5
      obtain ⟨cs7, hcs7⟩ : ∃ q, q = cs.setIfInBounds (i * 6 + 4) (.slice A' x.alts.length (capN x.alts.length ca)) := ⟨_, rfl⟩
      rw [← hcs7] at L7
      have h75 : cs7[i * 6 + 5]? = some (.slice C x.to.length (capN x.to.length cc)) := by
        rw [hcs7, Array.getElem?_setIfInBounds, if_neg (by omega)]
        exact HCQ.out 5 (by omega)
      have x5 := (L7.cell (i * 6 + 5)).trans h75
      have f5 := L7.frozen (i * 6 + 5)
      have hT7 : ToIn V7 (fun _ => True) x.to C := HNd.out.2.2.keep (fun q j hq hql => ⟨World.cell?_of_block (hfar7 q hq.1 hql), trivial⟩)
      have HL7 := Lib.hid L7
      have HT7 := Lib.hid hT7
      have HA7 := Lib.hid hA7
      have HF7 := Lib.hid hfar7
      have HC7 := Lib.hid hcs7
      have H75 := Lib.hid h75
      have hwos : w.heap.size + 2 ≤ wo.heap.size := by omega
      clear L7 hT7 hA7 hfar7 hcs7 h75 hks
      cases C with
      | none =>
        have heq : ∀ U, (binOp .neq 41 (.slice none x.to.length (capN x.to.length cc)) (.slice none 0 0)).run Try.prog U = .ok (.bool false) U := fun U => by kernel_rfl
        have hto : x.to = [] := by
          cases hq : x.to with
          | nil => rfl
          | cons z r =>
            have h9 := HT7.out
            rw [hq] at h9
            obtain ⟨_, _, ⟨e, _⟩, _⟩ := h9 0 (by simp)
            cases e
        have HTO := Lib.hid hto
        clear hto
        go_wp2_with fail
        go_roundw
        case rel =>
          go_light
          have hpd := HPD.out
          rw [HTO.out, List.nil_append] at hpd
          refine ⟨i + 1, oq, n, cq, by omega, by go_num, rfl, by omega, Lib.hid ⟨by rw [HV1.out, hpd], hv2, fun h => ?_, ⟨cs7, ?_, by rw [HC7.out, Array.size_setIfInBounds]; exact HV5.out⟩, (HF7.out _ (by omega) hoB).trans HLB.out, (HF7.out _ (by omega) hoR).trans HRB.out, HB7.out⟩⟩
          · rw [offN_succ l i hil, ← HX.out, HTO.out]
            exact HV3.out (by rw [hpd]; exact h)
          · refine HCUT.out.step hlt hwos HF7.out HL7.out (by rw [HC7.out, Array.size_setIfInBounds]) (B := A') (C := none) (b := ca) (c := cc) (fun q hq => ?_) (fun j hj => ?_) (by rw [← HX.out]; exact HNd.out.1) (by rw [← HX.out]; exact HA7.out) (fun h => absurd (by rw [← HX.out]; exact HTO.out) h)
            · rw [← HX.out, HC7.out, Array.getElem?_setIfInBounds]
              have h9 := HCQ.out q hq
              rcases (by omega : q = 0 ∨ q = 1 ∨ q = 2 ∨ q = 3 ∨ q = 4 ∨ q = 5) with rfl | rfl | rfl | rfl | rfl | rfl
              all_goals first
                | (rw [if_neg (by omega), h9]; rfl)
                | (rw [if_pos rfl, if_pos (by omega)]; rfl)
            · rw [HC7.out, Array.getElem?_setIfInBounds, if_neg (by omega)]
        case measure => simp [intOf]; omega
      | some ad =>
        have heq : ∀ U, (binOp .neq 41 (.slice (some ad) x.to.length (capN x.to.length cc)) (.slice none 0 0)).run Try.prog U = .ok (.bool true) U := fun U => by kernel_rfl
        have hnn : x.to.length ≤ n := by
          have h1 := HV1.out
          rw [HPD.out, List.length_append] at h1
          omega
        obtain ⟨mt, hmt⟩ : ∃ mt, mt = x.to.length := ⟨_, rfl⟩
        have HMT := Lib.hid hmt
        rw [← hmt] at x5 heq hnn
        clear hmt
        have hnq : n ≤ cq := hv2
        go_upto_region 11 with fail
        clear heq
        go_region
        obtain ⟨o2, ho2⟩ : ∃ o2, o2 = (if cq = mt then oq else oq + mt * 2) := ⟨_, rfl⟩
        rw [show (if cq = mt then (some ⟨gp, oq, none⟩ : Option Addr) else some ⟨gp, oq + mt * 2, none⟩) = some ⟨gp, o2, none⟩ by rw [ho2]; split <;> rfl]
        have HO2 := Lib.hid ho2
        clear ho2
        obtain ⟨V8, hV8⟩ : ∃ V, V = (V7.setCell ⟨G, i * 6 + 5, none⟩ (.slice (some ⟨gp, oq, none⟩) mt mt)).drew := ⟨_, rfl⟩
        have L8 : Lies V8 G 43 (cs7.setIfInBounds (i * 6 + 5) (.slice (some ⟨gp, oq, none⟩) mt mt)) := by
          rw [hV8]
          exact (HL7.out.put _ _).drew
        have hfar8 : ∀ q, q ≠ G → q < wo.heap.size → V8.heap[q]? = wo.heap[q]? := fun q hq hql => by rw [hV8]; exact (Below.heap_setCell V7 ⟨G, i * 6 + 5, none⟩ _ q hq).trans (HF7.out q hq hql)
        have hA8 : AltIn V8 (fun g => wo.heap.size ≤ g) x.alts A' := by
          rw [hV8]
          exact (HA7.out.keep (keep_set _ _ (by show ¬ wo.heap.size ≤ G; omega))).keep (fun q _ hq _ => ⟨rfl, hq⟩)
        have hb8 : Below w.heap.size w V8 := by rw [hV8]; exact (HB7.out.setCell (p := ⟨G, i * 6 + 5, none⟩) (by show w.heap.size ≤ G; omega) _).drew
        rw [← hV8]
        clear hV8 x5 f5
        have HL8 := Lib.hid L8
        have HF8 := Lib.hid hfar8
        have HA8 := Lib.hid hA8
        have HB8 := Lib.hid hb8
        clear L8 hfar8 hA8 hb8 HF7 HA7 HB7 HL7
        go_wp2_with fail
        go_roundw
        case rel =>
          go_light
          have h1 := HV1.out
          rw [HPD.out, List.length_append, ← HMT.out] at h1
          have hs9 : (cs7.setIfInBounds (i * 6 + 5) (.slice (some ⟨gp, oq, none⟩) mt mt)).size = cs.size := by rw [Array.size_setIfInBounds, HC7.out, Array.size_setIfInBounds]
          have ht9 : x.to ≠ [] → oq = offN l i * 2 := fun h => HV3.out (by rw [HPD.out]; exact fun e => h (List.append_eq_nil_iff.1 e).1)
          refine ⟨i + 1, o2, n - mt, cq - mt, by omega, by go_num, rfl, by omega, Lib.hid ⟨by omega, by omega, fun h => ?_, ⟨_, ?_, by rw [hs9]; exact HV5.out⟩, (HF8.out _ (by omega) hoB).trans HLB.out, (HF8.out _ (by omega) hoR).trans HRB.out, HB8.out⟩⟩
          · rw [offN_succ l i hil, ← HX.out, ← HMT.out, HO2.out]
            have h2 := List.length_pos_iff.2 h
            rw [if_neg (by omega), HV3.out (by rw [HPD.out]; exact fun e => h (List.append_eq_nil_iff.1 e).2)]
            omega
          · refine HCUT.out.step hlt hwos HF8.out HL8.out hs9 (B := A') (C := some ⟨gp, oq, none⟩) (b := ca) (c := mt) (fun q hq => ?_) (fun j hj => ?_) (by rw [← HX.out]; exact HNd.out.1) (by rw [← HX.out]; exact HA8.out) (fun h => by rw [ht9 (by rw [HX.out]; exact h)])
            · rw [← HX.out, HC7.out, Array.getElem?_setIfInBounds, Array.getElem?_setIfInBounds]
              have h9 := HCQ.out q hq
              have hmm : mt = x.to.length := HMT.out
              rcases (by omega : q = 0 ∨ q = 1 ∨ q = 2 ∨ q = 3 ∨ q = 4 ∨ q = 5) with rfl | rfl | rfl | rfl | rfl | rfl
              all_goals first
                | (rw [if_neg (by omega), if_neg (by omega), h9]; rfl)
                | (rw [if_neg (by omega), if_pos rfl, if_pos (by omega)]; rfl)
                | (rw [if_pos rfl, if_pos (by simp; omega)]; simp only [cellsNd, List.getElem?_cons_zero, List.getElem?_cons_succ]; rw [← hmm, capN_of (Nat.le_refl _)])
            · rw [HC7.out, Array.getElem?_setIfInBounds, if_neg (by omega), Array.getElem?_setIfInBounds, if_neg (by omega)]
        case measure => simp [intOf]; omega
    · have him : i = m := by omega
      subst him
      obtain ⟨_, _, _, ⟨cs, hv4, hv5⟩, hv6, hv7, hv8⟩ := hV.out
      obtain ⟨n0, n1⟩ := two_cells hv6
      obtain ⟨r0, r1⟩ := two_cells hv7
      have g0 := hv7.frozen 0
      have g1 := hv7.frozen 1
      have HC9 := Lib.hid hv4
      have HB9 := Lib.hid hv8
      have HR9 := Lib.hid hv7
      clear hv6 hv7 hv4 hv8 hV
      go_wp2_with fail
      have hR9 := lies_put2 HR9.out (.slice (some ⟨G, 0, none⟩) i c') (.int .i64 cap)
      have hc9 := ((HC9.out.far ⟨w.heap.size + 1, 0, none⟩ (by show w.heap.size + 1 < w.heap.size + 2; omega) (.slice (some ⟨G, 0, none⟩) i c')).far ⟨w.heap.size + 1, 1, none⟩ (by show w.heap.size + 1 < w.heap.size + 2; omega) (.int .i64 cap)).less (show w.heap.size ≤ w.heap.size + 2 by omega)
      exact bodyPost_ret (res_net1 (p := 2) Try.results28 rfl hR9) rfl ⟨G, gp, c', cs, ps, rfl, hc9, hv5, hmc, hcm, (HB9.out.setCell (p := ⟨w.heap.size + 1, 0, none⟩) (by show w.heap.size ≤ w.heap.size + 1; omega) _).setCell (p := ⟨w.heap.size + 1, 1, none⟩) (by show w.heap.size ≤ w.heap.size + 1; omega) _⟩
end Lx
end Go.Proofs.Ytceblpjlklogpaa
namespace Go.Proofs.Ytceblpjlklogpaa
open Go
namespace Lx
set_option maxRecDepth 100000
section
variable {P : Program} {ops : Array Oper} {Q : Exit → Act → World → Prop} {md : Region.Mode} {S : World → Prop} {last : Nat}

/-- Whatever order is picked from here on, and S holds behind every operation but the last. -/
def wpAnyK (P : Program) (md : Region.Mode) (ops : Array Oper) (Q : Exit → Act → World → Prop) (S : World → Prop) (last : Nat) : Nat → Array Bool → Act → World → Prop
  | 0, listed, a, w => Region.ready md ops listed = [] ∧ Q .normal a w
  | fuel + 1, listed, a, w =>
    (Region.ready md ops listed = [] → Q .normal a w) ∧
    ∀ i ∈ Region.ready md ops listed, wpOp P ops Q i (fun a' w' => (i ≠ last → S w') ∧ wpAnyK P md ops Q S last fuel (listed.setIfInBounds i true) a' w') a w
theorem wpAny_of_K : ∀ (fuel : Nat) (listed : Array Bool) (a : Act) (w : World), wpAnyK P md ops Q S last fuel listed a w → wpAny P md ops Q fuel listed a w
  | 0, _, _, _, h => h
  | fuel + 1, _, _, _, h => ⟨h.1, fun i hi => wpOp_mono (fun a' w' h' => wpAny_of_K fuel _ a' w' h'.2) (h.2 i hi)⟩
/-- The last operation waits for number i. -/
def waitsB (md : Region.Mode) (ops : Array Oper) (last i : Nat) : Bool :=
  match ops[last]? with
  | some o => o.after.any fun e => Region.binds md e && e.on == i
  | none => false
theorem waits_ready {i : Nat} {listed : Array Bool} (h : waitsB md ops last i = true) (hl : last ∈ Region.ready md ops listed) : listed.getD i false = true := by
  obtain ⟨_, o, ho, hall⟩ := mem_ready.1 hl
  unfold waitsB at h
  rw [ho] at h
  obtain ⟨e, he, hb⟩ := Array.any_eq_true'.1 h
  simp only [Bool.and_eq_true, beq_iff_eq] at hb
  have := hall e he hb.1
  rwa [hb.2] at this
theorem unlisted {i : Nat} {listed : Array Bool} (h : listed.getD i true = false) : listed.getD i false ≠ true := by
  intro h'
  rcases Nat.lt_or_ge i listed.size with hl | hl
  · simp [hl] at h h'; rw [h] at h'; cases h'
  · simp [Array.getElem?_eq_none hl] at h
theorem wpAnyK_first {i : Nat} {oi : Oper} {v : Value} (hi : ops[i]? = some oi) (hsel : ∀ (j : Nat) (o : Oper) cs b, ops[j]? = some o → o.op ≠ .select cs b)
    (hQ : ∀ c a w, Q (.panic c) (a.put oi.dst v) w → Q (.panic c) a w) (hwt : waitsB md ops last i = true) :
    ∀ (fuel : Nat) (listed : Array Bool) (a : Act) (w : World),
      (∀ j oj, ops[j]? = some oj → j ≠ i → listed.getD j true = false → (∀ e ∈ oj.after, Region.binds md e = true → e.on ≠ i) → oi.apart ops oj = true) →
      i ∈ Region.ready md ops listed → YieldsIf P ops S oi v a → S w →
      wpAnyK P md ops Q S last fuel (listed.setIfInBounds i true) (a.put oi.dst v) w → wpAnyK P md ops Q S last (fuel + 1) listed a w := by
  intro fuel
  induction fuel with
  | zero =>
    intro listed a w _ hr hy hS H
    refine ⟨fun h => (by rw [h] at hr; cases hr), fun j hj => ?_⟩
    by_cases hji : j = i
    · subst hji; exact hy.wpOp hi hS ⟨fun _ => hS, H⟩
    · have := ready_mono hj hji
      rw [H.1] at this
      cases this
  | succ fuel ih =>
    intro listed a w hfree hr hy hS H
    refine ⟨fun h => (by rw [h] at hr; cases hr), fun j hj => ?_⟩
    by_cases hji : j = i
    · subst hji; exact hy.wpOp hi hS ⟨fun _ => hS, H⟩
    · have hjl : j ≠ last := fun e => by
        subst e
        exact unlisted (mem_ready.1 hr).1 (waits_ready hwt hj)
      have h1 := H.2 j (ready_mono hj hji)
      obtain ⟨hjun, oj, hoj, hall⟩ := mem_ready.1 hj
      have hnot : ∀ e ∈ oj.after, Region.binds md e = true → e.on ≠ i := fun e he hb heq => by
        have h1 := hall e he hb
        rw [heq] at h1
        exact unlisted (mem_ready.1 hr).1 h1
      have h2 := wpOp_putIf hoj (hfree j oj hoj hji hjun hnot) (fun cs b => hsel i oi cs b hi) (fun cs b => hsel j oj cs b hoj) hQ hy h1
      have hfree' : ∀ k ok, ops[k]? = some ok → k ≠ i → (listed.setIfInBounds j true).getD k true = false →
          (∀ e ∈ ok.after, Region.binds md e = true → e.on ≠ i) → oi.apart ops ok = true := fun k ok hk hki hun hno => by
        refine hfree k ok hk hki ?_ hno
        by_cases hjk : j = k
        · subst hjk; exact hjun
        · rw [getD_set_ne true hjk] at hun; exact hun
      refine wpOp_mono (fun a' w' h3 => ⟨h3.2.1, ih (listed.setIfInBounds j true) a' w' hfree' (ready_mono hr (Ne.symm hji)) h3.1 (h3.2.1 hjl) ?_⟩) h2
      rw [Array.setIfInBounds_comm _ _ hji]
      exact h3.2.2
theorem wpAnyK_take {i : Nat} {oi : Oper} {v : Value} {fuel : Nat} {listed : Array Bool} {a : Act} {w : World} (hi : ops[i]? = some oi)
    (hs : Region.noSelect ops = true) (hwt : waitsB md ops last i = true) (hf : Region.free md ops listed i = true) (hr : (Region.ready md ops listed).contains i = true)
    (hQ : ∀ c a w, Q (.panic c) (a.put oi.dst v) w → Q (.panic c) a w) (hy : YieldsIf P ops S oi v a) (hS : S w)
    (h : wpAnyK P md ops Q S last fuel (listed.setIfInBounds i true) (a.put oi.dst v) w) : wpAnyK P md ops Q S last (fuel + 1) listed a w :=
  wpAnyK_first hi (Region.noSelect_spec hs) hQ hwt fuel listed a w (Region.free_spec hi hf) (by simpa using hr) hy hS h
/-- One operation alone may come up. -/
theorem wpAnyK_one {i : Nat} {o : Oper} {fuel : Nat} {listed : Array Bool} {a : Act} {w : World} (ho : ops[i]? = some o) (hg : o.guard = none) (hr : Region.ready md ops listed = [i])
    (h : ∀ K' : Act → World → Prop, Shut (∀ a w, (i ≠ last → S w) → ((i ≠ last → S w) → wpAnyK P md ops Q S last fuel (listed.setIfInBounds i true) a w) → K' a w) → Oper.wp P o a w K' Q) :
    wpAnyK P md ops Q S last (fuel + 1) listed a w := by
  refine ⟨fun h0 => (by rw [hr] at h0; cases h0), fun j hj => ?_⟩
  rw [hr] at hj
  obtain rfl : j = i := by simpa using hj
  refine wpOp_step ho fun K' hK => ?_
  rw [if_pos (by simp [Region.wanted, hg])]
  exact h K' (fun a w hS hW => hK a w ⟨hS, hW hS⟩)
theorem wpAnyK_done {listed : Array Bool} {a : Act} {w : World} (hr : Region.ready md ops listed = []) (h : Q .normal a w) : ∀ fuel, wpAnyK P md ops Q S last fuel listed a w
  | 0 => ⟨hr, h⟩
  | _ + 1 => ⟨fun _ => h, by rw [hr]; simp⟩
theorem wp_region_K {id : Nat} {a : Act} {w : World} (last : Nat) (hm : P.follows .mixedOrders = true) (hS : S w.drew)
    (h : S w.drew → wpAnyK P .any ops Q S last ops.size (Array.replicate ops.size false) a w.drew) : (Code.region id ops true).wp P Q a w :=
  wp_region_any hm (wpAny_of_K _ _ _ _ (h hS))
end
end Lx
end Go.Proofs.Ytceblpjlklogpaa
namespace Go.Proofs.Ytceblpjlklogpaa
open Go Go.RowKit
namespace Lx
set_option maxRecDepth 100000
theorem res_node {fn : Func} {p : Tmp} (h : fn.results = #[.cell p 43]) {tmps : Array Value} {g : Nat} {a b c d e f : Value} {w : World} (hp : tmps.getD p undef = .pointer (some ⟨g, 0, none⟩)) (L : Lies w g 43 #[a, b, c, d, e, f]) :
    (results fn tmps).run Try.prog w = .ok (.agg #[a, b, c, d, e, f]) w := by
  have hl := run_loadVar_row (P := Try.prog) w g 43 43 #[a, b, c, d, e, f] (0, 0) _ L Try.underlying43 rfl (by kernel_rfl)
  have hp' : tmps[p]?.getD undef = .pointer (some ⟨g, 0, none⟩) := by simpa using hp
  simp only [results, h]
  simp [hp', asAddr, hl]
/-- What a function that makes a node answers. -/
def GivesNd (x : Nd) (w : World) (e : Ending) (w' : World) : Prop :=
  ∃ B b C c, e = .returned (ndv x B b C c) ∧ NdIn w' (fun g => w.heap.size ≤ g) x B C ∧ Below w.heap.size w w'
theorem zero_cells (n j : Nat) (h : j < n) : (madeCells #[.int .i64 0, .int .i64 0] n)[j]? = some (.int .i64 0) := by
  unfold madeCells
  rw [Array.getElem?_map, Array.getElem?_eq_getElem (by simpa using h)]
  simp only [Array.getElem_range, Option.map_some]
  show some (#[Value.int .i64 0, Value.int .i64 0][j % 2]!) = _
  have h2 : j % 2 = 0 ∨ j % 2 = 1 := by omega
  rcases h2 with h2 | h2 <;> rw [h2] <;> rfl
theorem lies_put6 {w : World} {G : Nat} {t : TypeId} {p0 p1 p2 p3 p4 p5 : Value} (h : Lies w G t #[p0, p1, p2, p3, p4, p5]) (a b c d e f : Value) : Lies (put6 w G 0 a b c d e f) G t #[a, b, c, d, e, f] := by
  have := (((((h.put 0 a).put 1 b).put 2 c).put 3 d).put 4 e).put 5 f
  simpa [put6] using this
end Lx
end Go.Proofs.Ytceblpjlklogpaa
namespace Go.Proofs.Ytceblpjlklogpaa
open Go Go.RowKit
namespace Lx
set_option maxRecDepth 100000
theorem trim_step {l : List Nd} {q : Nat} (hq : q < l.length) (h0 : (ndAt l q).kind = 0) : trimV (l.take (q + 1)) = trimV (l.take q) := by
  rw [List.take_succ_eq_append_getElem hq]
  exact trimV_zero _ _ (by rw [← ndAt_lt hq]; exact h0)
theorem trim_stop {l : List Nd} {q : Nat} (hq : q < l.length) (h0 : (ndAt l q).kind ≠ 0) : trimV (l.take (q + 1)) = l.take (q + 1) := by
  rw [List.take_succ_eq_append_getElem hq]
  exact trimV_full _ _ (by rw [← ndAt_lt hq]; exact h0)
end Lx
end Go.Proofs.Ytceblpjlklogpaa
