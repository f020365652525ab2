/-
  Texts that lie one behind the other: Q Nice Inv Join ParseT Fix3 Places.
-/
import Derived.Test.YteabbkhlgnoliaaGreatDoorK5
import Derived.Test.YteabbkhlgnoliaaGreatDoorK1
import Derived.Test.YteabbkhlgnoliaaGreatDoorK3
import Derived.Deep.QuietTactic
import Derived.BigQuiet
namespace Go.Proofs.YteabbkhlgnoliaaGreatDoor
namespace Lx
set_option maxRecDepth 100000
abbrev Rg (α : Type) := List Tok → Except (List Tok) (α × List Tok)
def retQ {α : Type} (a : α) : Rg α := fun l => .ok (a, l)
def stopQ {α : Type} : Rg α := fun l => .error l
def bindQ {α β : Type} (f : Rg α) (g : α → Rg β) : Rg β := fun l => match f l with
  | .error q => .error q
  | .ok (a, q) => g a q
def ifQ {α : Type} (c : Tok → Bool) (f g : Rg α) : Rg α := fun l => if c (peekV l 0) then f l else g l
theorem ifQ_t {α : Type} {c : Tok → Bool} {f g : Rg α} {l : List Tok} (h : c (peekV l 0) = true) : ifQ c f g l = f l := by unfold ifQ; rw [h]; rfl
theorem ifQ_f {α : Type} {c : Tok → Bool} {f g : Rg α} {l : List Tok} (h : c (peekV l 0) = false) : ifQ c f g l = g l := by unfold ifQ; rw [h]; rfl
def nextQ : Rg Tok
  | [] => .error []
  | t :: q => .ok (t, q)
def hereQ {α : Type} (f : Rg α) : Rg (Int × α) := fun l => match f l with
  | .error q => .error q
  | .ok (a, q) => .ok (((peekV l 0).place, a), q)
def isT (s : List UInt8) (t : Tok) : Bool := t.text == s
def isK (k : Int) (t : Tok) : Bool := decide (t.kind = k)
def takeQ (s : List UInt8) : Rg Tok := ifQ (isT s) nextQ stopQ
def takeKQ (k : Int) : Rg Tok := ifQ (isK k) nextQ stopQ
def withinQ (ex : Rg Tr) : Rg Tr := bindQ (takeQ [40]) fun _ => bindQ ex fun t => bindQ (takeQ [41]) fun _ => retQ t
def atomQ (ex : Rg Tr) : Rg Tr := ifQ (isT [40]) (withinQ ex) (ifQ atomS (bindQ nextQ fun t => retQ (leafV t)) stopQ)
def appLoopQ (ex : Rg Tr) (at_ : Int) : Nat → Tr → Rg Tr
  | 0, t => retQ t
  | n + 1, t => ifQ atomS (bindQ (atomQ ex) fun u => appLoopQ ex at_ n (.node 3 ⟨#[]⟩ 0 at_ [t, u])) (retQ t)
def conLoopQ (ex : Rg Tr) (nm : ByteArray) (pc : Int) : Nat → List Tr → Rg Tr
  | 0, pl => retQ (.node 6 nm 0 pc pl)
  | n + 1, pl => ifQ atomS (bindQ (atomQ ex) fun u => conLoopQ ex nm pc n (pl ++ [u])) (retQ (.node 6 nm 0 pc pl))
def conQ (ex : Rg Tr) : Rg Tr := bindQ nextQ fun t => conLoopQ ex ⟨t.text.toArray⟩ t.place 8 []
def appQ (N : Nat) (ex : Rg Tr) : Rg Tr := ifQ (isK 2) (conQ ex) (bindQ (hereQ (atomQ ex)) fun x => appLoopQ ex x.1 N x.2)
def opQ (sd : Rg Tr) (at_ : Int) (t : Tr) : Rg Tr := bindQ nextQ fun s => bindQ sd fun u => retQ (.node 10 ⟨s.text.toArray⟩ 0 at_ [t, u])
def isAny (ss : List (List UInt8)) (t : Tok) : Bool := ss.any fun s => t.text == s
def rowLoopQ (sd : Rg Tr) (ss : List (List UInt8)) (at_ : Int) : Nat → Tr → Rg Tr
  | 0, t => retQ t
  | n + 1, t => ifQ (isAny ss) (bindQ (opQ sd at_ t) fun v => rowLoopQ sd ss at_ n v) (retQ t)
def rowQ (N : Nat) (sd : Rg Tr) (ss : List (List UInt8)) : Rg Tr := bindQ (hereQ sd) fun x => rowLoopQ sd ss x.1 N x.2
def cmpQ (sd : Rg Tr) : Rg Tr := bindQ (hereQ sd) fun x => ifQ (isAny [[60], [61, 61]]) (opQ sd x.1 x.2) (retQ x.2)
def prodQ (N : Nat) (ex : Rg Tr) : Rg Tr := rowQ N (appQ N ex) [[42], [47]]
def sumQ (N : Nat) (ex : Rg Tr) : Rg Tr := rowQ N (prodQ N ex) [[43], [45]]
def lamQ (ex : Rg Tr) : Rg Tr := bindQ (takeQ [92]) fun x1 => bindQ (takeKQ 1) fun x2 => bindQ (takeQ [46]) fun _ => bindQ ex fun x4 => retQ (.node 2 ⟨x2.text.toArray⟩ 0 x1.place [x4])
def letQ (k : Int) (ex : Rg Tr) : Rg Tr := bindQ nextQ fun x1 => bindQ (takeKQ 1) fun x2 => bindQ (takeQ [61]) fun _ => bindQ ex fun x4 => bindQ (takeQ [105, 110]) fun _ => bindQ ex fun x6 => retQ (.node k ⟨x2.text.toArray⟩ 0 x1.place [x4, x6])
def altEndQ (ex : Rg Tr) (nm : ByteArray) (pc : Int) (pl : List Tr) : Rg Tr := bindQ (takeQ [45, 62]) fun _ => bindQ ex fun y => retQ (.node 8 nm pl.length pc (pl ++ [y]))
def altLoopQ (ex : Rg Tr) (nm : ByteArray) (pc : Int) : Nat → List Tr → Rg Tr
  | 0, pl => altEndQ ex nm pc pl
  | n + 1, pl => ifQ (isK 1) (bindQ (atomQ ex) fun u => altLoopQ ex nm pc n (pl ++ [u])) (altEndQ ex nm pc pl)
def altQ (ex : Rg Tr) : Rg Tr := bindQ (takeKQ 2) fun x => altLoopQ ex ⟨x.text.toArray⟩ x.place 8 []
def choiceEndQ (pc : Int) (pl : List Tr) : Rg Tr := bindQ (takeQ [125]) fun _ => retQ (.node 7 ⟨#[]⟩ 0 pc pl)
def choiceLoopQ (al : Rg Tr) (pc : Int) : Nat → List Tr → Rg Tr
  | 0, pl => choiceEndQ pc pl
  | n + 1, pl => ifQ (isT [124]) (bindQ (takeQ [124]) fun _ => bindQ al fun y => choiceLoopQ al pc n (pl ++ [y])) (choiceEndQ pc pl)
def choiceQ (ex : Rg Tr) : Rg Tr := bindQ (takeQ [99, 97, 115, 101]) fun x1 => bindQ ex fun x2 => bindQ (takeQ [111, 102]) fun _ => bindQ (takeQ [123]) fun _ => bindQ (altQ ex) fun x5 => choiceLoopQ (altQ ex) x1.place 7 [x2, x5]
/-- expr, with fuel. -/
def exprQ (N : Nat) : Nat → Rg Tr
  | 0 => stopQ
  | n + 1 => ifQ (isT [92]) (lamQ (exprQ N n)) (ifQ (isT [108, 101, 116]) (letQ 4 (exprQ N n)) (ifQ (isT [108, 101, 116, 114, 101, 99]) (letQ 5 (exprQ N n)) (ifQ (isT [99, 97, 115, 101]) (choiceQ (exprQ N n)) (cmpQ (sumQ N (exprQ N n))))))
/-- An answer, its error told by its place. -/
def mpQ {α : Type} (e : Int) : Except (List Tok) (α × List Tok) → Except Int (α × List Tok)
  | .error q => .error (peekV q e).place
  | .ok x => .ok x
/-- The same answers of lists of fewer tokens than m. -/
def Lk {α : Type} (e : Int) (m : Nat) (f : List Tok → Except Int (α × List Tok)) (g : Rg α) : Prop := ∀ l, l.length < m → f l = mpQ e (g l)
theorem takeV_Q (s : List UInt8) (_hs : s ≠ []) (e : Int) (l : List Tok) : takeV s e l = mpQ e (takeQ s l) := by
  cases l with
  | nil => simp [takeV, takeQ, ifQ, isT, peekV, mpQ, nextQ, stopQ]
  | cons t q =>
    cases h : t.text == s with
    | true => rw [takeQ, ifQ_t (by exact h)]; simp only [takeV, h]; rfl
    | false => rw [takeQ, ifQ_f (by exact h)]; simp only [takeV, h]; rfl
theorem takeKV_Q (k : Int) (hk : k ≠ 0) (e : Int) (l : List Tok) : takeKV k e l = mpQ e (takeKQ k l) := by
  cases l with
  | nil =>
    have h : isK k (peekV [] 0) = false := decide_eq_false (fun h => hk h.symm)
    rw [takeKQ, ifQ_f h]; rfl
  | cons t q =>
    by_cases h : t.kind = k
    · have h1 : isK k (peekV (t :: q) 0) = true := decide_eq_true h
      rw [takeKQ, ifQ_t h1]; simp only [takeKV, h]; rfl
    · have h1 : isK k (peekV (t :: q) 0) = false := decide_eq_false h
      rw [takeKQ, ifQ_f h1]; simp only [takeKV, if_neg h]; rfl
theorem bind_Q {α β : Type} {e : Int} {x : Except Int (α × List Tok)} {y : Except (List Tok) (α × List Tok)} {f : α × List Tok → Except Int (β × List Tok)} {g : α → Rg β} (h : x = mpQ e y) (hf : ∀ a q, y = .ok (a, q) → f (a, q) = mpQ e (g a q)) :
    x.bind f = mpQ e (match y with | .error q => .error q | .ok (a, q) => g a q) := by
  subst h
  cases y with
  | error q => rfl
  | ok x => exact hf x.1 x.2 rfl
theorem takeQ_len {s : List UInt8} {l : List Tok} {t : Tok} {q : List Tok} (h : takeQ s l = .ok (t, q)) : q.length + 1 = l.length := by
  cases l with
  | nil => simp only [takeQ, ifQ, nextQ, stopQ] at h; split at h <;> cases h
  | cons a r =>
    simp only [takeQ, ifQ, nextQ, stopQ] at h
    split at h
    · cases h; rfl
    · cases h
theorem takeKQ_len {k : Int} {l : List Tok} {t : Tok} {q : List Tok} (h : takeKQ k l = .ok (t, q)) : q.length + 1 = l.length := by
  cases l with
  | nil => simp only [takeKQ, ifQ, nextQ, stopQ] at h; split at h <;> cases h
  | cons a r =>
    simp only [takeKQ, ifQ, nextQ, stopQ] at h
    split at h
    · cases h; rfl
    · cases h
theorem atomS_end (e : Int) : atomS ⟨0, [], 0, e⟩ = false := by simp [atomS]
theorem mp_len {f : List Tok → PR} {g : Rg Tr} {e : Int} {l : List Tok} {t : Tr} {q : List Tok} (h : f l = mpQ e (g l)) (hg : g l = .ok (t, q)) : f l = .ok (t, q) := by rw [h, hg]; rfl
section
variable {ex : List Tok → PR} {qx : Rg Tr} {e : Int} {m : Nat}
theorem within_Q (hx : Lk e m ex qx) (l : List Tok) (hl : l.length ≤ m) : withinV ex e l = mpQ e (withinQ qx l) := by
  have h0 : withinV ex e l = (takeV [40] e l).bind fun x => (ex x.2).bind fun y => (takeV [41] e y.2).bind fun z => .ok (y.1, z.2) := by
    unfold withinV
    cases takeV [40] e l with
    | error p => rfl
    | ok x =>
      show _ = (ex x.2).bind _
      simp only
      cases ex x.2 with
      | error p => rfl
      | ok y =>
        show _ = (takeV [41] e y.2).bind _
        simp only
        cases takeV [41] e y.2 <;> rfl
  rw [h0]
  refine bind_Q (takeV_Q _ (by simp) e l) fun a q h1 => ?_
  have n1 := takeQ_len h1
  refine bind_Q (hx q (by omega)) fun b q2 h2 => ?_
  exact bind_Q (takeV_Q _ (by simp) e q2) fun c q3 h3 => rfl
theorem atom_Q (hx : Lk e m ex qx) (l : List Tok) (hl : l.length ≤ m) : atomV ex e l = mpQ e (atomQ qx l) := by
  cases l with
  | nil => simp [atomV, atomQ, ifQ, isT, peekV, mpQ, atomS_end, stopQ]
  | cons t q =>
    cases h1 : t.text == [40] with
    | true => rw [atomV_par _ _ _ _ h1, atomQ, ifQ_t (by exact h1)]; exact within_Q hx _ hl
    | false =>
      cases h2 : atomS t with
      | true => rw [atomV_leaf _ _ _ _ h1 h2, atomQ, ifQ_f (by exact h1), ifQ_t (by exact h2)]; rfl
      | false => rw [atomV_no _ _ _ _ h1 h2, atomQ, ifQ_f (by exact h1), ifQ_f (by exact h2)]; rfl
theorem peek_atom (l : List Tok) (e : Int) : atomS (peekV l e) = atomS (peekV l 0) := by
  cases l with
  | nil => simp only [peekV]; rw [atomS_end, atomS_end]
  | cons t q => rfl
theorem peek_text (l : List Tok) (e : Int) : (peekV l e).text = (peekV l 0).text := by cases l <;> rfl
theorem peek_kind (l : List Tok) (e : Int) : (peekV l e).kind = (peekV l 0).kind := by cases l <;> rfl
theorem appLoop_t {ex : List Tok → PR} {e at_ : Int} {n : Nat} {t : Tr} {l : List Tok} (h : atomS (peekV l e) = true) : appLoop ex e at_ (n + 1) t l = (atomV ex e l).bind fun y => appLoop ex e at_ n (.node 3 ⟨#[]⟩ 0 at_ [t, y.1]) y.2 := by
  simp only [appLoop, if_pos h]; cases atomV ex e l <;> rfl
theorem appLoop_f {ex : List Tok → PR} {e at_ : Int} {n : Nat} {t : Tr} {l : List Tok} (h : atomS (peekV l e) = false) : appLoop ex e at_ (n + 1) t l = .ok (t, l) := by
  simp only [appLoop, h]; rfl
theorem conLoop_t {ex : List Tok → PR} {e : Int} {nm : ByteArray} {pc : Int} {n : Nat} {pl : List Tr} {l : List Tok} (h : atomS (peekV l e) = true) : conLoop ex e nm pc (n + 1) pl l = (atomV ex e l).bind fun y => conLoop ex e nm pc n (pl ++ [y.1]) y.2 := by
  simp only [conLoop, if_pos h]; cases atomV ex e l <;> rfl
theorem conLoop_f {ex : List Tok → PR} {e : Int} {nm : ByteArray} {pc : Int} {n : Nat} {pl : List Tr} {l : List Tok} (h : atomS (peekV l e) = false) : conLoop ex e nm pc (n + 1) pl l = .ok (.node 6 nm 0 pc pl, l) := by
  simp only [conLoop, h]; rfl
theorem rowLoop_t {sd : List Tok → PR} {ss : List ByteArray} {e at_ : Int} {n : Nat} {t : Tr} {l : List Tok} (h : hasS ss ⟨(peekV l e).text.toArray⟩ = true) : rowLoop sd ss e at_ (n + 1) t l = (opP sd at_ t l).bind fun y => rowLoop sd ss e at_ n y.1 y.2 := by
  simp only [rowLoop, if_pos h]; cases opP sd at_ t l <;> rfl
theorem rowLoop_f {sd : List Tok → PR} {ss : List ByteArray} {e at_ : Int} {n : Nat} {t : Tr} {l : List Tok} (h : hasS ss ⟨(peekV l e).text.toArray⟩ = false) : rowLoop sd ss e at_ (n + 1) t l = .ok (t, l) := by
  simp only [rowLoop, h]; rfl
theorem altLoop_t {ex : List Tok → PR} {e : Int} {nm : ByteArray} {pc : Int} {n : Nat} {pl : List Tr} {l : List Tok} (h : (peekV l e).kind = 1) : altLoop ex e nm pc (n + 1) pl l = (atomV ex e l).bind fun y => altLoop ex e nm pc n (pl ++ [y.1]) y.2 := by
  simp only [altLoop, if_pos h]; cases atomV ex e l <;> rfl
theorem opP_b {sd : List Tok → PR} {at_ : Int} {t : Tr} {s : Tok} {q : List Tok} : opP sd at_ t (s :: q) = (sd q).bind fun y => .ok (.node 10 ⟨s.text.toArray⟩ 0 at_ [t, y.1], y.2) := by
  simp only [opP]; cases sd q <;> rfl
theorem appLoop_Q (hx : Lk e m ex qx) (hex : Eats ex m) (at_ : Int) : ∀ (n N : Nat) (t : Tr) (l : List Tok), l.length ≤ m → l.length < n → l.length < N → appLoop ex e at_ n t l = mpQ e (appLoopQ qx at_ N t l)
  | 0, _, t, l, hl, h1, h2 => by omega
  | n + 1, 0, t, l, hl, h1, h2 => by omega
  | n + 1, N + 1, t, l, hl, h1, h2 => by
    cases ha : atomS (peekV l 0) with
    | true =>
      rw [appLoop_t (by rw [peek_atom]; exact ha), appLoopQ, ifQ_t ha]
      refine bind_Q (atom_Q hx l hl) fun u q hq => ?_
      have := atomV_len (fun l' t q h2 => hex l' t q (Nat.lt_of_lt_of_le h2 hl)) ((atom_Q hx l hl).trans (by rw [hq]; rfl))
      exact appLoop_Q hx hex at_ n N _ q (by omega) (by omega) (by omega)
    | false => rw [appLoop_f (by rw [peek_atom]; exact ha), appLoopQ, ifQ_f ha]; rfl
theorem conLoop_Q (hx : Lk e m ex qx) (hex : Eats ex m) (nm : ByteArray) (pc : Int) : ∀ (n : Nat) (pl : List Tr) (l : List Tok), l.length ≤ m → conLoop ex e nm pc n pl l = mpQ e (conLoopQ qx nm pc n pl l)
  | 0, pl, l, hl => rfl
  | n + 1, pl, l, hl => by
    cases ha : atomS (peekV l 0) with
    | true =>
      rw [conLoop_t (by rw [peek_atom]; exact ha), conLoopQ, ifQ_t ha]
      refine bind_Q (atom_Q hx l hl) fun u q hq => ?_
      have := atomV_len (fun l' t q h2 => hex l' t q (Nat.lt_of_lt_of_le h2 hl)) ((atom_Q hx l hl).trans (by rw [hq]; rfl))
      exact conLoop_Q hx hex nm pc n _ q (by omega)
    | false => rw [conLoop_f (by rw [peek_atom]; exact ha), conLoopQ, ifQ_f ha]; rfl
theorem con_Q (hx : Lk e m ex qx) (hex : Eats ex m) (l : List Tok) (hl : l.length ≤ m) : conP ex e l = mpQ e (conQ qx l) := by
  cases l with
  | nil => rfl
  | cons t q => exact conLoop_Q hx hex _ _ 8 [] q (by simp at hl; omega)
theorem app_Q {N : Nat} (hN : m < N) (hx : Lk e m ex qx) (hex : Eats ex m) (l : List Tok) (hl : l.length ≤ m) : appV (conP ex e) ex e l = mpQ e (appQ N qx l) := by
  by_cases hk : (peekV l 0).kind = 2
  · rw [appV, if_pos (by rw [peek_kind]; exact hk), appQ, ifQ_t (by simpa [isK] using hk)]
    exact con_Q hx hex l hl
  · rw [appV, if_neg (by rw [peek_kind]; exact hk), appQ, ifQ_f (by simpa [isK] using hk)]
    unfold bindQ hereQ
    cases hq : atomQ qx l with
    | error q =>
      have h1 := (atom_Q hx l hl).trans (by rw [hq])
      rw [h1]; rfl
    | ok x =>
      obtain ⟨u, q⟩ := x
      have h1 := (atom_Q hx l hl).trans (by rw [hq])
      have h2 := atomV_len (fun l' t q h2 => hex l' t q (Nat.lt_of_lt_of_le h2 hl)) h1
      rw [h1]
      have hp : (peekV l e).place = (peekV l 0).place := by
        cases l with
        | nil => simp at h2
        | cons => rfl
      show appLoop ex e (peekV l e).place (q.length + 1) u q = _
      rw [hp]
      exact appLoop_Q hx hex _ _ N u q (by omega) (by omega) (by omega)
theorem op_Q {sd : List Tok → PR} {qs : Rg Tr} (hs : ∀ l, l.length ≤ m → sd l = mpQ e (qs l)) (at_ : Int) (t : Tr) (l : List Tok) (hl : l.length ≤ m) (hne : l ≠ []) : opP sd at_ t l = mpQ e (opQ qs at_ t l) := by
  cases l with
  | nil => exact absurd rfl hne
  | cons s q =>
    rw [opP_b]
    exact bind_Q (hs q (by simp at hl; omega)) fun u q2 _ => rfl
theorem any_S (ss : List (List UInt8)) (l : List Tok) (e : Int) : hasS (ss.map fun s => ⟨s.toArray⟩) ⟨(peekV l e).text.toArray⟩ = isAny ss (peekV l 0) := by
  rw [peek_text]
  unfold hasS isAny
  rw [List.any_map]
  congr 1
  funext s
  simp only [Function.comp, ByteArray.toList_mk]
theorem any_ne {ss : List (List UInt8)} (hs : ∀ s ∈ ss, s ≠ []) {l : List Tok} (h : isAny ss (peekV l 0) = true) : l ≠ [] := by
  rintro rfl
  simp only [isAny, peekV, List.any_eq_true, beq_iff_eq] at h
  obtain ⟨s, hs1, hs2⟩ := h
  exact hs s hs1 hs2.symm
theorem rowLoop_Q {sd : List Tok → PR} {qs : Rg Tr} {ss : List (List UInt8)} (hss : ∀ s ∈ ss, s ≠ []) (hs : ∀ l, l.length ≤ m → sd l = mpQ e (qs l)) (hsl : ∀ l t q, l.length ≤ m → sd l = .ok (t, q) → q.length < l.length) (at_ : Int) :
    ∀ (n N : Nat) (t : Tr) (l : List Tok), l.length ≤ m → l.length < n → l.length < N → rowLoop sd (ss.map fun s => ⟨s.toArray⟩) e at_ n t l = mpQ e (rowLoopQ qs ss at_ N t l)
  | 0, _, t, l, hl, h1, h2 => by omega
  | n + 1, 0, t, l, hl, h1, h2 => by omega
  | n + 1, N + 1, t, l, hl, h1, h2 => by
    cases ha : isAny ss (peekV l 0) with
    | true =>
      have hne := any_ne hss ha
      rw [rowLoop_t (by rw [any_S]; exact ha), rowLoopQ, ifQ_t ha]
      refine bind_Q (op_Q hs at_ t l hl hne) fun u q hq => ?_
      have := opP_len (fun l' t q h2 hh => hsl l' t q (by omega) hh) ((op_Q hs at_ t l hl hne).trans (by rw [hq]; rfl))
      exact rowLoop_Q hss hs hsl at_ n N _ q (by omega) (by omega) (by omega)
    | false => rw [rowLoop_f (by rw [any_S]; exact ha), rowLoopQ, ifQ_f ha]; rfl
theorem row_Q {N : Nat} (hN : m < N) {sd : List Tok → PR} {qs : Rg Tr} {ss : List (List UInt8)} (hss : ∀ s ∈ ss, s ≠ []) (hs : ∀ l, l.length ≤ m → sd l = mpQ e (qs l)) (hsl : ∀ l t q, l.length ≤ m → sd l = .ok (t, q) → q.length < l.length) (l : List Tok) (hl : l.length ≤ m) :
    rowV sd (ss.map fun s => ⟨s.toArray⟩) e l = mpQ e (rowQ N qs ss l) := by
  unfold rowV rowQ bindQ hereQ
  cases hq : qs l with
  | error q =>
    have h1 := (hs l hl).trans (by rw [hq])
    rw [h1]; rfl
  | ok x =>
    obtain ⟨u, q⟩ := x
    have h1 := (hs l hl).trans (by rw [hq])
    have h2 := hsl l u q hl h1
    rw [h1]
    have hp : (peekV l e).place = (peekV l 0).place := by
      cases l with
      | nil => simp at h2
      | cons => rfl
    show rowLoop _ _ e (peekV l e).place (q.length + 1) u q = _
    rw [hp]
    exact rowLoop_Q hss hs hsl _ _ N u q (by omega) (by omega) (by omega)
theorem prod_Q {N : Nat} (hN : m < N) (hx : Lk e m ex qx) (hex : Eats ex m) (l : List Tok) (hl : l.length ≤ m) : rowV (appV (conP ex e) ex e) [⟨#[42]⟩, ⟨#[47]⟩] e l = mpQ e (prodQ N qx l) :=
  row_Q (ss := [[42], [47]]) hN (by decide) (fun l hl => app_Q hN hx hex l hl) (fun l t q hl h => appV_len hex hl h) l hl
theorem sum_Q {N : Nat} (hN : m < N) (hx : Lk e m ex qx) (hex : Eats ex m) (l : List Tok) (hl : l.length ≤ m) : sumV ex e l = mpQ e (sumQ N qx l) :=
  row_Q (ss := [[43], [45]]) hN (by decide) (fun l hl => prod_Q hN hx hex l hl) (fun l t q hl h => rowV_len (m := m) (fun l3 t3 q3 h3 hhh => appV_len hex h3 hhh) hl h) l hl
theorem cmp_Q {N : Nat} (hN : m < N) (hx : Lk e m ex qx) (hex : Eats ex m) (l : List Tok) (hl : l.length ≤ m) : cmpV (sumV ex e) e l = mpQ e (cmpQ (sumQ N qx) l) := by
  unfold cmpV cmpQ bindQ hereQ
  cases hq : sumQ N qx l with
  | error q =>
    have h1 := (sum_Q hN hx hex l hl).trans (by rw [hq])
    rw [h1]; rfl
  | ok x =>
    obtain ⟨u, q⟩ := x
    have h1 := (sum_Q hN hx hex l hl).trans (by rw [hq])
    have h2 := sumV_len hex l u q hl h1
    rw [h1]
    have hp : (peekV l e).place = (peekV l 0).place := by
      cases l with
      | nil => simp at h2
      | cons => rfl
    have ha := any_S [[60], [61, 61]] q e
    simp only [List.map_cons, List.map_nil] at ha
    show (if hasS [⟨#[60]⟩, ⟨#[61, 61]⟩] ⟨(peekV q e).text.toArray⟩ = true then opP (sumV ex e) (peekV l e).place u q else .ok (u, q)) = _
    cases hh : isAny [[60], [61, 61]] (peekV q 0) with
    | true =>
      rw [if_pos (by rw [← hh]; exact ha), hp]
      show _ = mpQ e (ifQ _ _ _ q)
      rw [ifQ_t hh]
      exact op_Q (m := m) (fun l hl => sum_Q hN hx hex l hl) _ u q (by omega) (any_ne (ss := [[60], [61, 61]]) (by decide) hh)
    | false =>
      rw [if_neg (by rw [show hasS [⟨#[60]⟩, ⟨#[61, 61]⟩] ⟨(peekV q e).text.toArray⟩ = false from ha.trans hh]; simp)]
      show _ = mpQ e (ifQ _ _ _ q)
      rw [ifQ_f hh]; rfl
theorem lam_Q (hx : Lk e m ex qx) (l : List Tok) (hl : l.length ≤ m) : lamV ex e l = mpQ e (lamQ qx l) := by
  refine bind_Q (takeV_Q _ (by simp) e l) fun a q h1 => ?_
  have n1 := takeQ_len h1
  refine bind_Q (takeKV_Q 1 (by decide) e q) fun a2 q2 h2 => ?_
  have n2 := takeKQ_len h2
  refine bind_Q (takeV_Q _ (by simp) e q2) fun a3 q3 h3 => ?_
  have n3 := takeQ_len h3
  exact bind_Q (hx q3 (by omega)) fun a4 q4 h4 => rfl
theorem let_Q (k : Int) (hx : Lk e m ex qx) (hex : Eats ex m) (l : List Tok) (hl : l.length ≤ m) : letV k ex e l = mpQ e (letQ k qx l) := by
  cases l with
  | nil => rfl
  | cons t q0 =>
    simp only [List.length_cons] at hl
    refine bind_Q (takeKV_Q 1 (by decide) e q0) fun a2 q2 h2 => ?_
    have n2 := takeKQ_len h2
    refine bind_Q (takeV_Q _ (by simp) e q2) fun a3 q3 h3 => ?_
    have n3 := takeQ_len h3
    refine bind_Q (hx q3 (by omega)) fun a4 q4 h4 => ?_
    have n4 := hex q3 a4 q4 (by omega) (mp_len (hx q3 (by omega)) h4)
    refine bind_Q (takeV_Q _ (by simp) e q4) fun a5 q5 h5 => ?_
    have n5 := takeQ_len h5
    exact bind_Q (hx q5 (by omega)) fun a6 q6 h6 => rfl
theorem altEnd_Q (hx : Lk e m ex qx) (nm : ByteArray) (pc : Int) (pl : List Tr) (l : List Tok) (hl : l.length ≤ m) : altEnd ex e nm pc pl l = mpQ e (altEndQ qx nm pc pl l) := by
  refine bind_Q (takeV_Q _ (by simp) e l) fun a q h1 => ?_
  have n1 := takeQ_len h1
  exact bind_Q (hx q (by omega)) fun a4 q4 h4 => rfl
theorem altLoop_Q (hx : Lk e m ex qx) (hex : Eats ex m) (nm : ByteArray) (pc : Int) : ∀ (n : Nat) (pl : List Tr) (l : List Tok), l.length ≤ m → altLoop ex e nm pc n pl l = mpQ e (altLoopQ qx nm pc n pl l)
  | 0, pl, l, hl => altEnd_Q hx nm pc pl l hl
  | n + 1, pl, l, hl => by
    by_cases hk : (peekV l 0).kind = 1
    · rw [altLoop_t (by rw [peek_kind]; exact hk), altLoopQ, ifQ_t (by simpa [isK] using hk)]
      refine bind_Q (atom_Q hx l hl) fun u q hq => ?_
      have := atomV_len (fun l' t q h2 => hex l' t q (Nat.lt_of_lt_of_le h2 hl)) ((atom_Q hx l hl).trans (by rw [hq]; rfl))
      exact altLoop_Q hx hex nm pc n _ q (by omega)
    · rw [altLoop, if_neg (by rw [peek_kind]; exact hk), altLoopQ, ifQ_f (by simpa [isK] using hk)]
      exact altEnd_Q hx nm pc pl l hl
theorem alt_Q (hx : Lk e m ex qx) (hex : Eats ex m) (l : List Tok) (hl : l.length ≤ m) : altV ex e l = mpQ e (altQ qx l) := by
  refine bind_Q (takeKV_Q 2 (by decide) e l) fun a q h1 => ?_
  have n1 := takeKQ_len h1
  exact altLoop_Q hx hex _ _ 8 [] q (by omega)
theorem choiceEnd_Q (pc : Int) (pl : List Tr) (l : List Tok) : choiceEnd e pc pl l = mpQ e (choiceEndQ pc pl l) := by
  refine bind_Q (takeV_Q [125] (by simp) e l) fun a q h1 => rfl
theorem choiceLoop_Q {al : List Tok → PR} {qa : Rg Tr} (ha : ∀ l, l.length ≤ m → al l = mpQ e (qa l)) (hal : ∀ l t q, l.length ≤ m → al l = .ok (t, q) → q.length < l.length) (pc : Int) : ∀ (n : Nat) (pl : List Tr) (l : List Tok), l.length ≤ m → choiceLoop al e pc n pl l = mpQ e (choiceLoopQ qa pc n pl l)
  | 0, pl, l, hl => choiceEnd_Q pc pl l
  | n + 1, pl, l, hl => by
    cases ht : isT [124] (peekV l 0) with
    | true =>
      rw [choiceLoop, if_pos (by rw [peek_text]; exact ht), choiceLoopQ, ifQ_t ht]
      refine bind_Q (takeV_Q [124] (by simp) e l) fun a q h1 => ?_
      have n1 := takeQ_len h1
      refine bind_Q (ha q (by omega)) fun b q2 h2 => ?_
      have n2 := hal q b q2 (by omega) (mp_len (ha q (by omega)) h2)
      exact choiceLoop_Q ha hal pc n _ q2 (by omega)
    | false =>
      rw [choiceLoop, if_neg (by rw [peek_text]; show ¬ isT [124] (peekV l 0) = true; rw [ht]; simp), choiceLoopQ, ifQ_f ht]
      exact choiceEnd_Q pc pl l
theorem choice_Q (hx : Lk e m ex qx) (hex : Eats ex m) (l : List Tok) (hl : l.length ≤ m) : choiceV ex e l = mpQ e (choiceQ qx l) := by
  refine bind_Q (takeV_Q _ (by simp) e l) fun a q h1 => ?_
  have n1 := takeQ_len h1
  refine bind_Q (hx q (by omega)) fun a2 q2 h2 => ?_
  have n2 := hex q a2 q2 (by omega) (mp_len (hx q (by omega)) h2)
  refine bind_Q (takeV_Q _ (by simp) e q2) fun a3 q3 h3 => ?_
  have n3 := takeQ_len h3
  refine bind_Q (takeV_Q _ (by simp) e q3) fun a4 q4 h4 => ?_
  have n4 := takeQ_len h4
  refine bind_Q (alt_Q hx hex q4 (by omega)) fun a5 q5 h5 => ?_
  have n5 := altV_len (m := m) hex (by omega) (mp_len (alt_Q hx hex q4 (by omega)) h5)
  exact choiceLoop_Q (m := m) (fun l hl => alt_Q hx hex l hl) (fun l t q hl h => altV_len hex hl h) _ 7 _ q5 (by omega)
end
theorem expr_Q (e : Int) (N : Nat) : ∀ (n k : Nat), n ≤ k → n ≤ N → Lk e n (exprV e n) (exprQ N k)
  | 0, _, _, _, l, hl => by omega
  | n + 1, 0, hk, _, l, hl => by omega
  | n + 1, k + 1, hk, hN, l, hl => by
    have ih := expr_Q e N n k (by omega) (by omega)
    have hex := exprV_len e n
    have hl' : l.length ≤ n := by omega
    have hn : ∀ s, isT s (peekV l 0) = false → ¬ ((peekV l e).text == s) = true := fun s h => by rw [peek_text]; show ¬ isT s (peekV l 0) = true; rw [h]; simp
    have hp : ∀ s, isT s (peekV l 0) = true → ((peekV l e).text == s) = true := fun s h => by rw [peek_text]; exact h
    rw [exprV, exprQ]
    cases h1 : isT [92] (peekV l 0) with
    | true => rw [if_pos (hp _ h1), ifQ_t h1]; exact lam_Q ih l hl'
    | false =>
      rw [if_neg (hn _ h1), ifQ_f h1]
      cases h2 : isT [108, 101, 116] (peekV l 0) with
      | true => rw [if_pos (hp _ h2), ifQ_t h2]; exact let_Q 4 ih hex l hl'
      | false =>
        rw [if_neg (hn _ h2), ifQ_f h2]
        cases h3 : isT [108, 101, 116, 114, 101, 99] (peekV l 0) with
        | true => rw [if_pos (hp _ h3), ifQ_t h3]; exact let_Q 5 ih hex l hl'
        | false =>
          rw [if_neg (hn _ h3), ifQ_f h3]
          cases h4 : isT [99, 97, 115, 101] (peekV l 0) with
          | true => rw [if_pos (hp _ h4), ifQ_t h4]; exact choice_Q ih hex l hl'
          | false => rw [if_neg (hn _ h4), ifQ_f h4]; exact cmp_Q (by omega) ih hex l hl'
/-- All tokens, read whole: fuel for all that a text may have. -/
def allQ (l : List Tok) : Except (List Tok) (Tr × List Tok) := exprQ 20000 20000 l
def wholeQ (l : List Tok) : Except (List Tok) Tr :=
  match allQ l with
  | .error q => .error q
  | .ok (t, []) => .ok t
  | .ok (_, a :: q) => .error (a :: q)
theorem whole_Q (e : Int) (l : List Tok) (hl : l.length < 20000) : wholeV e l = match wholeQ l with | .error q => .error (peekV q e).place | .ok t => .ok t := by
  unfold wholeV wholeQ allQ
  rw [expr_Q e 20000 (l.length + 1) 20000 (by omega) (by omega) l (by omega)]
  cases exprQ 20000 20000 l with
  | error q => rfl
  | ok x =>
    obtain ⟨t, q⟩ := x
    cases q with
    | nil => rfl
    | cons => rfl
end Lx
end Go.Proofs.YteabbkhlgnoliaaGreatDoor
namespace Go.Proofs.YteabbkhlgnoliaaGreatDoor
namespace Lx
set_option maxRecDepth 100000
def remQ {α : Type} : Except (List Tok) (α × List Tok) → List Tok
  | .error q => q
  | .ok (_, q) => q
def appB {α : Type} (b : List Tok) : Except (List Tok) (α × List Tok) → Except (List Tok) (α × List Tok)
  | .error q => .error (q ++ b)
  | .ok (a, q) => .ok (a, q ++ b)
/-- A sign ) stands ahead. -/
def Par (b : List Tok) : Prop := ∃ t r, b = t :: r ∧ t.text = [41] ∧ t.kind = 5
structure Nice {α : Type} (f : Rg α) : Prop where
  suf : ∀ l, ∃ c, l = c ++ remQ (f l)
  cut : ∀ a b, (remQ (f a) ≠ [] ∧ f (a ++ b) = appB b (f a)) ∨ (remQ (f a) = [] ∧ ∃ c, b = c ++ remQ (f (a ++ b)))
  par : ∀ a b, Par b → f (a ++ b) = appB b (f a) ∨ (f a = .error [] ∧ ∃ c, c ≠ [] ∧ b = c ++ remQ (f (a ++ b)))
theorem remQ_nil {α : Type} {f : Rg α} (h : Nice f) : remQ (f []) = [] := by
  obtain ⟨c, hc⟩ := h.suf []
  cases hr : remQ (f []) with
  | nil => rfl
  | cons a r => rw [hr] at hc; simp at hc
theorem nice_ret {α : Type} (x : α) : Nice (retQ x) := by
  refine ⟨fun l => ⟨[], rfl⟩, fun a b => ?_, fun a b _ => .inl rfl⟩
  cases a with
  | nil => exact .inr ⟨rfl, [], rfl⟩
  | cons t q => exact .inl ⟨by simp [retQ, remQ], rfl⟩
theorem nice_stop {α : Type} : Nice (stopQ : Rg α) := by
  refine ⟨fun l => ⟨[], rfl⟩, fun a b => ?_, fun a b _ => .inl rfl⟩
  cases a with
  | nil => exact .inr ⟨rfl, [], rfl⟩
  | cons t q => exact .inl ⟨by simp [stopQ, remQ], rfl⟩
theorem nice_next : Nice nextQ := by
  have hs : ∀ l, ∃ c, l = c ++ remQ (nextQ l) := fun l => by
    cases l with
    | nil => exact ⟨[], rfl⟩
    | cons t q => exact ⟨[t], rfl⟩
  refine ⟨hs, fun a b => ?_, fun a b hb => ?_⟩
  · cases a with
    | nil => exact .inr ⟨rfl, hs b⟩
    | cons t q =>
      cases q with
      | nil => exact .inr ⟨rfl, [], rfl⟩
      | cons u q => exact .inl ⟨by simp [nextQ, remQ], rfl⟩
  · cases a with
    | nil =>
      obtain ⟨t, r, rfl, _, _⟩ := hb
      exact .inr ⟨rfl, [t], by simp, rfl⟩
    | cons t q => exact .inl rfl
theorem nice_bind {α β : Type} {f : Rg α} {g : α → Rg β} (hf : Nice f) (hg : ∀ x, Nice (g x)) : Nice (bindQ f g) := by
  have hs : ∀ l, ∃ c, remQ (f l) = c ++ remQ (bindQ f g l) := fun l => by
    unfold bindQ
    cases h : f l with
    | error q => exact ⟨[], rfl⟩
    | ok x => exact (hg x.1).suf x.2
  refine ⟨fun l => ?_, fun a b => ?_, fun a b hb => ?_⟩
  · obtain ⟨c, hc⟩ := hf.suf l
    obtain ⟨d, hd⟩ := hs l
    exact ⟨c ++ d, by rw [List.append_assoc, ← hd, ← hc]⟩
  · rcases hf.cut a b with ⟨h1, h2⟩ | ⟨h1, c, hc⟩
    · unfold bindQ
      rw [h2]
      cases h : f a with
      | error q => rw [h] at h1; exact .inl ⟨h1, rfl⟩
      | ok x => exact (hg x.1).cut x.2 b
    · refine .inr ⟨?_, ?_⟩
      · obtain ⟨d, hd⟩ := hs a
        rw [h1] at hd
        cases hr : remQ (bindQ f g a) with
        | nil => rfl
        | cons t q => rw [hr] at hd; simp at hd
      · obtain ⟨d, hd⟩ := hs (a ++ b)
        exact ⟨c ++ d, by rw [List.append_assoc, ← hd, ← hc]⟩
  · rcases hf.par a b hb with h1 | ⟨h1, c, hc, h2⟩
    · unfold bindQ
      rw [h1]
      cases h : f a with
      | error q => exact .inl rfl
      | ok x => exact (hg x.1).par x.2 b hb
    · obtain ⟨d, hd⟩ := hs (a ++ b)
      refine .inr ⟨by unfold bindQ; rw [h1], c ++ d, by simp [hc], ?_⟩
      rw [List.append_assoc, ← hd, ← h2]
/-- At a sign ) it is decided as at the end. -/
def CondP (c : Tok → Bool) : Prop := ∀ t : Tok, t.text = [41] → t.kind = 5 → c t = c ⟨0, [], 0, 0⟩
theorem ifQ_suf {α : Type} {c : Tok → Bool} {f g : Rg α} (hf : Nice f) (hg : Nice g) (l : List Tok) : ∃ d, l = d ++ remQ (ifQ c f g l) := by
  cases h : c (peekV l 0) with
  | true => rw [ifQ_t h]; exact hf.suf l
  | false => rw [ifQ_f h]; exact hg.suf l
theorem ifQ_cut {α : Type} {c : Tok → Bool} {f g : Rg α} (hf : Nice f) (hg : Nice g) (a b : List Tok) : (remQ (ifQ c f g a) ≠ [] ∧ ifQ c f g (a ++ b) = appB b (ifQ c f g a)) ∨ (remQ (ifQ c f g a) = [] ∧ ∃ d, b = d ++ remQ (ifQ c f g (a ++ b))) := by
  cases a with
  | nil =>
    refine .inr ⟨?_, ifQ_suf hf hg b⟩
    obtain ⟨d, hd⟩ := ifQ_suf (c := c) hf hg []
    cases hr : remQ (ifQ c f g []) with
    | nil => rfl
    | cons t q => rw [hr] at hd; simp at hd
  | cons t q =>
    cases h : c t with
    | true =>
      have h1 : ifQ c f g (t :: q) = f (t :: q) := ifQ_t h
      have h2 : ifQ c f g (t :: q ++ b) = f (t :: q ++ b) := ifQ_t h
      rw [h1, h2]; exact hf.cut _ _
    | false =>
      have h1 : ifQ c f g (t :: q) = g (t :: q) := ifQ_f h
      have h2 : ifQ c f g (t :: q ++ b) = g (t :: q ++ b) := ifQ_f h
      rw [h1, h2]; exact hg.cut _ _
theorem nice_if {α : Type} {c : Tok → Bool} {f g : Rg α} (hc : CondP c) (hf : Nice f) (hg : Nice g) : Nice (ifQ c f g) := by
  refine ⟨ifQ_suf hf hg, ifQ_cut hf hg, fun a b hb => ?_⟩
  have key : c (peekV (a ++ b) 0) = c (peekV a 0) := by
    cases a with
    | nil =>
      obtain ⟨t, r, rfl, h1, h2⟩ := hb
      exact hc t h1 h2
    | cons t q => rfl
  cases h : c (peekV a 0) with
  | true => rw [ifQ_t (key.trans h), ifQ_t h]; exact hf.par a b hb
  | false => rw [ifQ_f (key.trans h), ifQ_f h]; exact hg.par a b hb
theorem nice_take (s : List UInt8) (hs : s ≠ []) : Nice (takeQ s) := by
  by_cases h : s = [41]
  · refine ⟨ifQ_suf nice_next nice_stop, ifQ_cut nice_next nice_stop, fun a b hb => ?_⟩
    cases a with
    | nil =>
      obtain ⟨t, r, rfl, h1, h2⟩ := hb
      refine .inr ⟨?_, [t], by simp, ?_⟩
      · subst h; rfl
      · have h3 : takeQ s (t :: r) = nextQ (t :: r) := ifQ_t (by show (t.text == s) = true; rw [h1, h]; rfl)
        rw [List.nil_append, h3]; rfl
    | cons t q =>
      left
      cases h3 : isT s t with
      | true =>
        have h1 : takeQ s (t :: q) = nextQ (t :: q) := ifQ_t h3
        have h2 : takeQ s (t :: q ++ b) = nextQ (t :: q ++ b) := ifQ_t h3
        rw [h1, h2]; rfl
      | false =>
        have h1 : takeQ s (t :: q) = stopQ (t :: q) := ifQ_f h3
        have h2 : takeQ s (t :: q ++ b) = stopQ (t :: q ++ b) := ifQ_f h3
        rw [h1, h2]; rfl
  · refine nice_if (fun t h1 _ => ?_) nice_next nice_stop
    show (t.text == s) = (([] : List UInt8) == s)
    rw [h1, beq_eq_false_iff_ne.2 (Ne.symm h), beq_eq_false_iff_ne.2 (Ne.symm hs)]
theorem condK (k : Int) (h0 : k ≠ 0) (h5 : k ≠ 5) : CondP (isK k) := fun t _ h => by
  show decide (t.kind = k) = decide ((0 : Int) = k)
  rw [h, decide_eq_false (fun e => h5 e.symm), decide_eq_false (fun e => h0 e.symm)]
theorem condT (s : List UInt8) (h0 : s ≠ []) (h5 : s ≠ [41]) : CondP (isT s) := fun t h1 _ => by
  show (t.text == s) = (([] : List UInt8) == s)
  rw [h1, beq_eq_false_iff_ne.2 (Ne.symm h5), beq_eq_false_iff_ne.2 (Ne.symm h0)]
theorem condA : CondP atomS := fun t h1 h2 => by rw [atomS_end]; simp [atomS, h1, h2]
theorem condAny (ss : List (List UInt8)) (h0 : ([] : List UInt8) ∉ ss) (h5 : ([41] : List UInt8) ∉ ss) : CondP (isAny ss) := fun t h1 _ => by
  unfold isAny
  rw [h1]
  induction ss with
  | nil => rfl
  | cons s r ih =>
    simp only [List.mem_cons, not_or] at h0 h5
    simp only [List.any_cons]
    rw [ih h0.2 h5.2, beq_eq_false_iff_ne.2 h5.1, beq_eq_false_iff_ne.2 h0.1]
theorem nice_takeK (k : Int) (h0 : k ≠ 0) (h5 : k ≠ 5) : Nice (takeKQ k) := nice_if (condK k h0 h5) nice_next nice_stop
theorem nice_here {α : Type} {f : Rg α} (hf : Nice f) (h0 : f [] = .error []) : Nice (hereQ f) := by
  have hr : ∀ l, remQ (hereQ f l) = remQ (f l) := fun l => by unfold hereQ; cases f l <;> rfl
  refine ⟨fun l => by rw [hr]; exact hf.suf l, fun a b => ?_, fun a b hb => ?_⟩
  · cases a with
    | nil =>
      refine .inr ⟨by rw [hr]; exact remQ_nil hf, ?_⟩
      rw [hr]; exact hf.suf b
    | cons t q =>
      rcases hf.cut (t :: q) b with ⟨h1, h2⟩ | ⟨h1, h2⟩
      · refine .inl ⟨by rw [hr]; exact h1, ?_⟩
        unfold hereQ
        rw [h2]
        cases f (t :: q) <;> rfl
      · exact .inr ⟨by rw [hr]; exact h1, by rw [hr]; exact h2⟩
  · rcases hf.par a b hb with h1 | ⟨h1, c, hc, h2⟩
    · cases a with
      | nil =>
        left
        rw [h0] at h1
        unfold hereQ
        rw [h1, h0]; rfl
      | cons t q =>
        left
        unfold hereQ
        rw [h1]
        cases f (t :: q) <;> rfl
    · refine .inr ⟨by unfold hereQ; rw [h1], c, hc, by rw [hr]; exact h2⟩
section
variable {ex : Rg Tr} {N : Nat}
theorem eat_bind {α β : Type} {f : Rg α} {g : α → Rg β} (h : f [] = .error []) : bindQ f g [] = .error [] := by unfold bindQ; rw [h]
theorem nice_within (hx : Nice ex) : Nice (withinQ ex) := nice_bind (nice_take [40] (by simp)) fun _ => nice_bind hx fun _ => nice_bind (nice_take [41] (by simp)) fun _ => nice_ret _
theorem nice_atom (hx : Nice ex) : Nice (atomQ ex) := nice_if (condT [40] (by simp) (by simp)) (nice_within hx) (nice_if condA (nice_bind nice_next fun _ => nice_ret _) nice_stop)
theorem eat_atom : atomQ ex [] = .error [] := by
  rw [atomQ, ifQ_f rfl, ifQ_f (atomS_end 0)]; rfl
theorem nice_appLoop (hx : Nice ex) (at_ : Int) : ∀ (n : Nat) (t : Tr), Nice (appLoopQ ex at_ n t)
  | 0, t => nice_ret t
  | n + 1, t => nice_if condA (nice_bind (nice_atom hx) fun _u => nice_appLoop hx at_ n _) (nice_ret t)
theorem nice_conLoop (hx : Nice ex) (nm : ByteArray) (pc : Int) : ∀ (n : Nat) (pl : List Tr), Nice (conLoopQ ex nm pc n pl)
  | 0, _pl => nice_ret _
  | n + 1, _pl => nice_if condA (nice_bind (nice_atom hx) fun _u => nice_conLoop hx nm pc n _) (nice_ret _)
theorem nice_con (hx : Nice ex) : Nice (conQ ex) := nice_bind nice_next fun _t => nice_conLoop hx _ _ 8 []
theorem nice_app (hx : Nice ex) : Nice (appQ N ex) := nice_if (condK 2 (by decide) (by decide)) (nice_con hx) (nice_bind (nice_here (nice_atom hx) eat_atom) fun x => nice_appLoop hx x.1 N x.2)
theorem eat_here {α : Type} {f : Rg α} (h : f [] = .error []) : hereQ f [] = .error [] := by unfold hereQ; rw [h]
theorem eat_app : appQ N ex [] = .error [] := by
  rw [appQ, ifQ_f rfl]; exact eat_bind (eat_here eat_atom)
theorem nice_op {sd : Rg Tr} (hs : Nice sd) (at_ : Int) (t : Tr) : Nice (opQ sd at_ t) := nice_bind nice_next fun _s => nice_bind hs fun _u => nice_ret _
theorem nice_rowLoop {sd : Rg Tr} (hs : Nice sd) (ss : List (List UInt8)) (h0 : ([] : List UInt8) ∉ ss) (h5 : ([41] : List UInt8) ∉ ss) (at_ : Int) : ∀ (n : Nat) (t : Tr), Nice (rowLoopQ sd ss at_ n t)
  | 0, t => nice_ret t
  | n + 1, t => nice_if (condAny ss h0 h5) (nice_bind (nice_op hs at_ t) fun v => nice_rowLoop hs ss h0 h5 at_ n v) (nice_ret t)
theorem nice_row {sd : Rg Tr} (hs : Nice sd) (he : sd [] = .error []) (ss : List (List UInt8)) (h0 : ([] : List UInt8) ∉ ss) (h5 : ([41] : List UInt8) ∉ ss) : Nice (rowQ N sd ss) :=
  nice_bind (nice_here hs he) fun x => nice_rowLoop hs ss h0 h5 x.1 N x.2
theorem nice_prod (hx : Nice ex) : Nice (prodQ N ex) := nice_row (nice_app hx) eat_app _ (by decide) (by decide)
theorem eat_prod : prodQ N ex [] = .error [] := by rw [prodQ, rowQ]; exact eat_bind (eat_here eat_app)
theorem nice_sum (hx : Nice ex) : Nice (sumQ N ex) := nice_row (nice_prod hx) eat_prod _ (by decide) (by decide)
theorem eat_sum : sumQ N ex [] = .error [] := by rw [sumQ, rowQ]; exact eat_bind (eat_here eat_prod)
theorem nice_cmp {sd : Rg Tr} (hs : Nice sd) (he : sd [] = .error []) : Nice (cmpQ sd) := nice_bind (nice_here hs he) fun x => nice_if (condAny _ (by decide) (by decide)) (nice_op hs x.1 x.2) (nice_ret _)
theorem nice_lam (hx : Nice ex) : Nice (lamQ ex) := nice_bind (nice_take _ (by simp)) fun _ => nice_bind (nice_takeK 1 (by decide) (by decide)) fun _ => nice_bind (nice_take _ (by simp)) fun _ => nice_bind hx fun _ => nice_ret _
theorem nice_let (k : Int) (hx : Nice ex) : Nice (letQ k ex) := nice_bind nice_next fun _ => nice_bind (nice_takeK 1 (by decide) (by decide)) fun _ => nice_bind (nice_take _ (by simp)) fun _ => nice_bind hx fun _ => nice_bind (nice_take _ (by simp)) fun _ => nice_bind hx fun _ => nice_ret _
theorem nice_altEnd (hx : Nice ex) (nm : ByteArray) (pc : Int) (pl : List Tr) : Nice (altEndQ ex nm pc pl) := nice_bind (nice_take _ (by simp)) fun _ => nice_bind hx fun _ => nice_ret _
theorem nice_altLoop (hx : Nice ex) (nm : ByteArray) (pc : Int) : ∀ (n : Nat) (pl : List Tr), Nice (altLoopQ ex nm pc n pl)
  | 0, pl => nice_altEnd hx nm pc pl
  | n + 1, pl => nice_if (condK 1 (by decide) (by decide)) (nice_bind (nice_atom hx) fun u => nice_altLoop hx nm pc n _) (nice_altEnd hx nm pc pl)
theorem nice_alt (hx : Nice ex) : Nice (altQ ex) := nice_bind (nice_takeK 2 (by decide) (by decide)) fun x => nice_altLoop hx _ _ 8 []
theorem nice_choiceEnd (pc : Int) (pl : List Tr) : Nice (choiceEndQ pc pl) := nice_bind (nice_take _ (by simp)) fun _ => nice_ret _
theorem nice_choiceLoop {al : Rg Tr} (ha : Nice al) (pc : Int) : ∀ (n : Nat) (pl : List Tr), Nice (choiceLoopQ al pc n pl)
  | 0, pl => nice_choiceEnd pc pl
  | n + 1, pl => nice_if (condT _ (by simp) (by simp)) (nice_bind (nice_take _ (by simp)) fun _ => nice_bind ha fun y => nice_choiceLoop ha pc n _) (nice_choiceEnd pc pl)
theorem nice_choice (hx : Nice ex) : Nice (choiceQ ex) := nice_bind (nice_take _ (by simp)) fun _ => nice_bind hx fun _ => nice_bind (nice_take _ (by simp)) fun _ => nice_bind (nice_take _ (by simp)) fun _ => nice_bind (nice_alt hx) fun _ => nice_choiceLoop (nice_alt hx) _ 7 _
end
theorem nice_expr (N : Nat) : ∀ n, Nice (exprQ N n)
  | 0 => nice_stop
  | n + 1 => by
    have ih := nice_expr N n
    exact nice_if (condT _ (by simp) (by simp)) (nice_lam ih) (nice_if (condT _ (by simp) (by simp)) (nice_let 4 ih) (nice_if (condT _ (by simp) (by simp)) (nice_let 5 ih) (nice_if (condT _ (by simp) (by simp)) (nice_choice ih) (nice_cmp (nice_sum ih) eat_sum))))
theorem nice_all : Nice allQ := nice_expr _ _
/-- Where reading ended ahead of the end, what stands further on is of no moment; and all ahead of that is a program, or is refused at its end. -/
theorem whole_cut {c r : List Tok} {x : Tok} (h : wholeQ (c ++ x :: r) = .error (x :: r)) : (∀ r', wholeQ (c ++ x :: r') = .error (x :: r')) ∧ (wholeQ c = .error [] ∨ ∃ t, wholeQ c = .ok t) := by
  have hrem : remQ (allQ (c ++ x :: r)) = x :: r := by
    unfold wholeQ at h
    cases hq : allQ (c ++ x :: r) with
    | error q => rw [hq] at h; simp only [Except.error.injEq] at h; rw [h]; rfl
    | ok y =>
      obtain ⟨t, q⟩ := y
      rw [hq] at h
      cases q with
      | nil => cases h
      | cons a q => simp only [Except.error.injEq] at h; exact h
  constructor
  · intro r'
    have e1 : c ++ x :: r = (c ++ [x]) ++ r := by simp
    have e2 : c ++ x :: r' = (c ++ [x]) ++ r' := by simp
    rw [e1] at hrem
    rw [e2]
    rcases nice_all.cut (c ++ [x]) r with ⟨h1, h2⟩ | ⟨h1, d, hd⟩
    · rw [h2] at hrem
      have hx : remQ (allQ (c ++ [x])) = [x] := by
        have : remQ (allQ (c ++ [x])) ++ r = [x] ++ r := by
          rw [← hrem.trans (show x :: r = [x] ++ r from rfl)]
          cases allQ (c ++ [x]) <;> rfl
        exact List.append_cancel_right this
      rcases nice_all.cut (c ++ [x]) r' with ⟨_, h4⟩ | ⟨h3, _⟩
      · unfold wholeQ
        rw [h4]
        cases hq : allQ (c ++ [x]) with
        | error q => rw [hq] at hx; have hx' : q = [x] := hx; subst hx'; rfl
        | ok y =>
          obtain ⟨t, q⟩ := y
          rw [hq] at hx; have hx' : q = [x] := hx; subst hx'; rfl
      · rw [hx] at h3; cases h3
    · rw [hrem] at hd
      have := congrArg List.length hd
      simp at this
      omega
  · rcases nice_all.cut c (x :: r) with ⟨h1, h2⟩ | ⟨h1, _⟩
    · rw [h2] at hrem
      have : remQ (allQ c) ++ (x :: r) = x :: r := (show remQ (appB (x :: r) (allQ c)) = remQ (allQ c) ++ (x :: r) from by cases allQ c <;> rfl).symm.trans hrem
      have h3 : remQ (allQ c) = [] := by
        have := congrArg List.length this
        simp at this
        exact this
      exact absurd h3 h1
    · unfold wholeQ
      cases hq : allQ c with
      | error q => rw [hq] at h1; have h1' : q = [] := h1; subst h1'; exact .inl rfl
      | ok y =>
        obtain ⟨t, q⟩ := y
        rw [hq] at h1; have h1' : q = [] := h1; subst h1'; exact .inr ⟨t, rfl⟩
theorem expr_suf {N n : Nat} {l : List Tok} {t : Tr} {q : List Tok} (h : exprQ N n l = .ok (t, q)) : ∃ c, l = c ++ q := by
  obtain ⟨c, hc⟩ := (nice_expr N n).suf l
  rw [h] at hc
  exact ⟨c, hc⟩
end Lx
end Go.Proofs.YteabbkhlgnoliaaGreatDoor
namespace Go.Proofs.YteabbkhlgnoliaaGreatDoor
namespace Lx
set_option maxRecDepth 100000
mutual
/-- All places. -/
def PlT (P : Int → Prop) : Tr → Prop
  | .node _ _ _ a l => P a ∧ PlL P l
def PlL (P : Int → Prop) : List Tr → Prop
  | [] => True
  | t :: r => PlT P t ∧ PlL P r
end
mutual
theorem PlT.mono {P Q : Int → Prop} (h : ∀ p, P p → Q p) : ∀ t : Tr, PlT P t → PlT Q t
  | .node k s n a l, ht => by rw [PlT] at ht ⊢; exact ⟨h a ht.1, PlL.mono h l ht.2⟩
theorem PlL.mono {P Q : Int → Prop} (h : ∀ p, P p → Q p) : ∀ l : List Tr, PlL P l → PlL Q l
  | [], _ => by rw [PlL]; trivial
  | t :: r, ht => by rw [PlL] at ht ⊢; exact ⟨PlT.mono h t ht.1, PlL.mono h r ht.2⟩
end
theorem PlL.iff {P : Int → Prop} : ∀ l : List Tr, PlL P l ↔ ∀ t ∈ l, PlT P t
  | [] => by simp [PlL]
  | t :: r => by rw [PlL, PlL.iff r]; simp
def bal1 (t : Tok) : Int := (if t.text == [40] then 1 else 0) - (if t.text == [41] then 1 else 0)
def bal : List Tok → Int
  | [] => 0
  | t :: q => bal1 t + bal q
theorem bal_app (a b : List Tok) : bal (a ++ b) = bal a + bal b := by
  induction a with
  | nil => simp [bal]
  | cons t q ih => simp only [List.cons_append, bal, ih]; omega
def GL (l : List Tok) : Prop := ∀ t ∈ l, Good t ∧ 0 ≤ t.place
theorem GL.app_r {a b : List Tok} (h : GL (a ++ b)) : GL b := fun t ht => h t (List.mem_append_right _ ht)
theorem GL.tail {t : Tok} {q : List Tok} (h : GL (t :: q)) : GL q := fun u hu => h u (List.mem_cons_of_mem _ hu)
theorem GL.head {t : Tok} {q : List Tok} (h : GL (t :: q)) : Good t ∧ 0 ≤ t.place := h t (by simp)
/-- A token of letters or digits. -/
theorem good_ld {t : Tok} (h : Good t) (hk : t.kind ≠ 5) : runK t.text = .ok (t.kind, t.n) ∧ 0 < t.text.length ∧ ∀ c ∈ t.text, ldR (c.toNat : Int) = true := by
  obtain ⟨l, h⟩ := h
  unfold tokK at h
  split at h
  · rename_i h0
    split at h
    · rename_i k n h1
      simp only [Except.ok.injEq, Prod.mk.injEq] at h
      obtain ⟨h2, h3, h4⟩ := h
      have hall := run_take_all ldR l
      have hle := run_le ldR l
      have hpos : 0 < (l.take (run ldR l)).length := by rw [List.length_take]; omega
      rw [h4] at h1 hall hpos
      exact ⟨by rw [h1, h2, h3], hpos, hall⟩
    · cases h
  · split at h
    · simp only [Except.ok.injEq, Prod.mk.injEq] at h
      exact absurd h.1.symm hk
    · cases h
theorem good_sign {t : Tok} (h : Good t) (hk : t.kind = 5) : t.text ∈ signsS ∧ t.n = 0 := by
  obtain ⟨l, h⟩ := h
  unfold tokK at h
  split at h
  · split at h
    · rename_i k n h1
      simp only [Except.ok.injEq, Prod.mk.injEq] at h
      obtain ⟨h2, _, _⟩ := h
      rw [hk] at h2
      subst h2
      exfalso
      revert h1
      unfold runK numK
      repeat' split
      all_goals simp
    · cases h
  · split at h
    · rename_i g h1
      simp only [Except.ok.injEq, Prod.mk.injEq] at h
      obtain ⟨_, h3, h4⟩ := h
      exact ⟨by rw [← h4]; exact List.mem_of_find?_eq_some h1, h3.symm⟩
    · cases h
theorem run_all (P : Int → Bool) (t : List UInt8) (h : ∀ c ∈ t, P (c.toNat : Int) = true) : run P t = t.length := by
  have := run_app P [] rfl t h
  rwa [List.append_nil] at this
theorem good_kinds {t : Tok} (h : Good t) : t.kind = 1 ∨ t.kind = 2 ∨ t.kind = 3 ∨ t.kind = 4 ∨ t.kind = 5 := by
  by_cases hk : t.kind = 5
  · omega
  · have h1 := (good_ld h hk).1
    revert h1
    unfold runK numK
    repeat' split
    all_goals simp
    all_goals (intro h1 _; omega)
theorem good_name {t : Tok} (h : Good t) (hk : t.kind = 1) : nameV t.text = true := by
  obtain ⟨h1, h2, h3⟩ := good_ld h (by omega)
  have h4 := run_all ldR t.text h3
  rw [hk] at h1
  revert h1
  unfold runK numK
  repeat' split
  all_goals simp
  rename_i hd h16 hw hl
  intro _
  simp only [nameV, Bool.and_eq_true, decide_eq_true_eq, Bool.not_eq_true']
  exact ⟨hl, h4, by omega, by simpa using hw⟩
theorem good_conV {t : Tok} (h : Good t) (hk : t.kind = 2) : conV t.text = true := by
  obtain ⟨h1, h2, h3⟩ := good_ld h (by omega)
  have h4 := run_all ldR t.text h3
  rw [hk] at h1
  revert h1
  unfold runK numK
  repeat' split
  all_goals simp
  rename_i hd h16 hw hl
  intro _
  simp only [conV, Bool.and_eq_true, decide_eq_true_eq]
  refine ⟨?_, h4, by omega⟩
  cases ht : t.text with
  | nil => rw [ht] at h2; simp at h2
  | cons c r =>
    have h5 := h3 c (by rw [ht]; simp)
    rw [ht] at hd hl
    simp only [run] at hd hl ⊢
    cases e1 : digR (c.toNat : Int) with
    | true => rw [e1] at hd; simp at hd
    | false =>
      cases e2 : lowR (c.toNat : Int) with
      | true => rw [e2] at hl; simp at hl
      | false =>
        have : upR (c.toNat : Int) = true := by simpa [ldR, e1, e2] using h5
        rw [this]; simp
theorem good_int {t : Tok} (h : Good t) (hk : t.kind = 3) : 0 ≤ t.n ∧ t.n ≤ 999999999999999999 := by
  obtain ⟨h1, h2, h3⟩ := good_ld h (by omega)
  rw [hk] at h1
  revert h1
  unfold runK numK
  repeat' split
  all_goals simp
  intro hn
  rename_i h5 h6
  simp only [not_or] at h6
  have hall := dig_of digR t.text (by have := run_le digR t.text; omega)
  have hb := numV_bd t.text.length t.text rfl hall
  have hp : (10 : Int) ^ t.text.length ≤ 1000000000000000000 := by
    have : ∀ j : Fin 19, (10 : Int) ^ j.val ≤ 1000000000000000000 := by decide
    exact this ⟨t.text.length, by omega⟩
  rw [← hn]
  omega
theorem good_paren {t : Tok} (h : Good t) (hk : t.kind ≠ 5) (s : List UInt8) (hs : s ∈ signsS) : (t.text == s) = false := by
  obtain ⟨_, h2, h3⟩ := good_ld h hk
  cases ht : t.text == s with
  | false => rfl
  | true =>
    rw [eq_of_beq ht] at h3 h2
    exfalso
    have : ∀ s ∈ signsS, ∃ c ∈ s, ldR (c.toNat : Int) = false := by decide
    obtain ⟨c, hc, h4⟩ := this s hs
    rw [h3 c hc] at h4; cases h4
theorem bal1_ld {t : Tok} (h : Good t) (hk : t.kind ≠ 5) : bal1 t = 0 := by
  unfold bal1
  rw [good_paren h hk [40] (by decide), good_paren h hk [41] (by decide)]; rfl
theorem bal1_text {t : Tok} {s : List UInt8} (h : t.text = s) (h1 : (s == [40]) = false) (h2 : (s == [41]) = false) : bal1 t = 0 := by
  unfold bal1; rw [h, h1, h2]; rfl
theorem mayL_plain {k n : Int} (h7 : k ≠ 7) (h8 : k ≠ 8) : ∀ (l : List Tr) (i : Nat), (∀ u ∈ l, mayT u = true ∧ u.kind ≠ 8) → mayL k n i l = true
  | [], _, _ => rfl
  | t :: r, i, h => by
    rw [mayL]
    have h1 := h t (by simp)
    simp only [standsV, h7, h8, false_and, if_false, Bool.and_eq_true, decide_eq_true_eq]
    exact ⟨h1.2, h1.1, mayL_plain h7 h8 r (i + 1) fun u hu => h u (List.mem_cons_of_mem _ hu)⟩
theorem mayT_of {k n a : Int} {s : ByteArray} {l : List Tr} (h1 : nameOkV k s.data.toList = true) (h2 : partsV k n l.length = true) (h3 : 0 ≤ a) (h4 : mayL k n 0 l = true) : mayT (.node k s n a l) = true := by
  have h := fits_eq k s.data.toList n a l.length
  rw [h1, h2, decide_eq_true h3] at h
  rw [mayT]
  cases hs : shapeV k with
  | none => rw [hs] at h; cases h
  | some h0 => rw [hs] at h; simp only at h ⊢; rw [h, h4]; rfl
theorem data_mk (l : List UInt8) : (⟨l.toArray⟩ : ByteArray).data.toList = l := by simp
structure Iv (alt : Bool) (c : List Tok) (t : Tr) : Prop where
  bl : bal c = 0
  sz : sizeT t + 1 ≤ 2 * c.length
  may : mayT t = true
  kd : decide (t.kind = 8) = alt
  pl : PlT (fun p => ∃ x ∈ c, x.place = p) t
/-- What a reading reads. -/
def RdI (alt : Bool) (f : Rg Tr) : Prop := ∀ l t q, GL l → f l = .ok (t, q) → ∃ c, l = c ++ q ∧ Iv alt c t
theorem bind_ok {α β : Type} {f : Rg α} {g : α → Rg β} {l : List Tok} {b : β} {q : List Tok} (h : bindQ f g l = .ok (b, q)) : ∃ a q1, f l = .ok (a, q1) ∧ g a q1 = .ok (b, q) := by
  unfold bindQ at h
  cases hf : f l with
  | error p => rw [hf] at h; cases h
  | ok x => rw [hf] at h; exact ⟨x.1, x.2, rfl, h⟩
theorem take_ok {s : List UInt8} {l : List Tok} {t : Tok} {q : List Tok} (h : takeQ s l = .ok (t, q)) : l = t :: q ∧ t.text = s := by
  cases l with
  | nil => simp only [takeQ, ifQ, nextQ, stopQ] at h; split at h <;> cases h
  | cons a r =>
    cases hs : isT s a with
    | true =>
      have h1 : takeQ s (a :: r) = nextQ (a :: r) := ifQ_t hs
      rw [h1] at h; cases h
      exact ⟨rfl, eq_of_beq hs⟩
    | false =>
      have h1 : takeQ s (a :: r) = stopQ (a :: r) := ifQ_f hs
      rw [h1] at h; cases h
theorem takeK_ok {k : Int} {l : List Tok} {t : Tok} {q : List Tok} (h : takeKQ k l = .ok (t, q)) : l = t :: q ∧ t.kind = k := by
  cases l with
  | nil => simp only [takeKQ, ifQ, nextQ, stopQ] at h; split at h <;> cases h
  | cons a r =>
    cases hs : isK k a with
    | true =>
      have h1 : takeKQ k (a :: r) = nextQ (a :: r) := ifQ_t hs
      rw [h1] at h; cases h
      exact ⟨rfl, of_decide_eq_true hs⟩
    | false =>
      have h1 : takeKQ k (a :: r) = stopQ (a :: r) := ifQ_f hs
      rw [h1] at h; cases h
theorem next_ok {l : List Tok} {t : Tok} {q : List Tok} (h : nextQ l = .ok (t, q)) : l = t :: q := by
  cases l with
  | nil => cases h
  | cons a r => cases h; rfl
theorem ret_ok {α : Type} {a b : α} {l q : List Tok} (h : retQ a l = .ok (b, q)) : a = b ∧ l = q := by cases h; exact ⟨rfl, rfl⟩
theorem here_ok {α : Type} {f : Rg α} {l : List Tok} {x : Int × α} {q : List Tok} (h : hereQ f l = .ok (x, q)) : x.1 = (peekV l 0).place ∧ f l = .ok (x.2, q) := by
  unfold hereQ at h
  cases hf : f l with
  | error p => rw [hf] at h; cases h
  | ok y => rw [hf] at h; cases h; exact ⟨rfl, rfl⟩
theorem if_ok {α : Type} {c : Tok → Bool} {f g : Rg α} {l : List Tok} {x : Except (List Tok) (α × List Tok)} (h : ifQ c f g l = x) : (c (peekV l 0) = true ∧ f l = x) ∨ (c (peekV l 0) = false ∧ g l = x) := by
  cases hc : c (peekV l 0) with
  | true => rw [ifQ_t hc] at h; exact .inl ⟨rfl, h⟩
  | false => rw [ifQ_f hc] at h; exact .inr ⟨rfl, h⟩
theorem leaf_iv {t : Tok} (h : Good t) (hp : 0 ≤ t.place) (ha : atomS t = true) (h40 : (t.text == [40]) = false) : Iv false [t] (leafV t) ∧ t.kind ≠ 5 := by
  have hk : t.kind = 1 ∨ t.kind = 2 ∨ t.kind = 3 := by
    simp only [atomS, h40, Bool.or_false, Bool.or_eq_true, decide_eq_true_eq] at ha
    exact ha
  have hb := bal1_ld h (by omega)
  refine ⟨?_, by omega⟩
  rcases hk with hk | hk | hk
  · have e : leafV t = .node 1 ⟨t.text.toArray⟩ 0 t.place [] := by simp [leafV, hk]
    rw [e]
    exact ⟨by simp [bal, hb], by simp [sizeT, sizeL], mayT_of (by simp [nameOkV]; exact good_name h hk) (by simp [partsV]) hp rfl, by simp [Tr.kind], by simp [PlT, PlL]⟩
  · have e : leafV t = .node 6 ⟨t.text.toArray⟩ 0 t.place [] := by simp [leafV, hk]
    rw [e]
    exact ⟨by simp [bal, hb], by simp [sizeT, sizeL], mayT_of (by simp [nameOkV]; exact good_conV h hk) (by simp [partsV]) hp rfl, by simp [Tr.kind], by simp [PlT, PlL]⟩
  · have e : leafV t = .node 9 ⟨#[]⟩ t.n t.place [] := by simp [leafV, hk]
    rw [e]
    have := good_int h hk
    exact ⟨by simp [bal, hb], by simp [sizeT, sizeL], mayT_of (by simp [nameOkV]) (by simp [partsV]; omega) hp rfl, by simp [Tr.kind], by simp [PlT, PlL]⟩
theorem Iv.pl_mono {alt : Bool} {c c' : List Tok} {t : Tr} (h : Iv alt c t) (hc : ∀ x ∈ c, x ∈ c') : PlT (fun p => ∃ x ∈ c', x.place = p) t :=
  PlT.mono (fun _ ⟨x, hx, e⟩ => ⟨x, hc x hx, e⟩) t h.pl
theorem Iv.kind {c : List Tok} {t : Tr} (h : Iv false c t) : t.kind ≠ 8 := of_decide_eq_false h.kd
section
variable {ex : Rg Tr} {N : Nat}
theorem iv_within (hx : RdI false ex) : RdI false (withinQ ex) := fun l t q hl h => by
  replace h := bind_ok h
  obtain ⟨p, l1, h1, h⟩ := h
  replace h := bind_ok h
  obtain ⟨u, l2, h2, h⟩ := h
  replace h := bind_ok h
  obtain ⟨p2, l3, h3, h⟩ := h
  obtain ⟨rfl, rfl⟩ := ret_ok h
  obtain ⟨rfl, e1⟩ := take_ok h1
  obtain ⟨c, rfl, hc⟩ := hx l1 u l2 hl.tail h2
  obtain ⟨rfl, e2⟩ := take_ok h3
  refine ⟨p :: c ++ [p2], by simp, ?_, ?_, hc.may, hc.kd, hc.pl_mono (by intro x hx; simp [hx])⟩
  · have b1 : bal1 p = 1 := by unfold bal1; rw [e1]; rfl
    have b2 : bal1 p2 = -1 := by unfold bal1; rw [e2]; rfl
    rw [bal_app, bal, bal, bal, hc.bl, b1, b2]; rfl
  · have := hc.sz; simp; omega
theorem iv_atom (hx : RdI false ex) : RdI false (atomQ ex) := fun l t q hl h => by
  replace h := if_ok h
  rcases h with ⟨h0, h⟩ | ⟨h0, h⟩
  · exact iv_within hx l t q hl h
  · replace h := if_ok h
    rcases h with ⟨h1, h⟩ | ⟨h1, h⟩
    · replace h := bind_ok h
      obtain ⟨a, l1, h2, h⟩ := h
      obtain ⟨rfl, rfl⟩ := ret_ok h
      obtain rfl := next_ok h2
      exact ⟨[a], rfl, (leaf_iv hl.head.1 hl.head.2 h1 h0).1⟩
    · cases h
/-- An atom at a name is the name. -/
theorem atom_name {l : List Tok} {t : Tr} {q : List Tok} (hl : GL l) (hk : (peekV l 0).kind = 1) (h : atomQ ex l = .ok (t, q)) : t.kind = 1 := by
  cases l with
  | nil => simp [peekV] at hk
  | cons a r =>
    have hk' : a.kind = 1 := hk
    replace h := if_ok h
    rcases h with ⟨h0, h⟩ | ⟨h0, h⟩
    · have h9 : (a.text == [40]) = true := h0
      rw [good_paren hl.head.1 (by omega) [40] (by decide)] at h9; cases h9
    · replace h := if_ok h
      rcases h with ⟨h1, h⟩ | ⟨h1, h⟩
      · replace h := bind_ok h
        obtain ⟨b, l1, h2, h⟩ := h
        obtain ⟨rfl, rfl⟩ := ret_ok h
        cases next_ok h2
        simp [leafV, hk', Tr.kind]
      · cases h
/-- Parts that were read one behind the other. -/
structure IvL (c : List Tok) (pl : List Tr) : Prop where
  bl : bal c = 0
  sz : sizeL pl + pl.length ≤ 2 * c.length
  may : ∀ u ∈ pl, mayT u = true ∧ u.kind ≠ 8
  pl : ∀ u ∈ pl, PlT (fun p => ∃ x ∈ c, x.place = p) u
theorem IvL.nil : IvL [] [] := ⟨rfl, by simp [sizeL], by simp, by simp⟩
theorem IvL.cons {c1 c2 : List Tok} {u : Tr} {pl : List Tr} (h1 : Iv false c1 u) (h2 : IvL c2 pl) : IvL (c1 ++ c2) (u :: pl) := by
  refine ⟨by rw [bal_app, h1.bl, h2.bl]; rfl, ?_, ?_, ?_⟩
  · have a := h1.sz
    have b := h2.sz
    simp only [sizeL, List.length_cons, List.length_append]; omega
  · intro v hv
    rcases List.mem_cons.1 hv with rfl | hv
    · exact ⟨h1.may, h1.kind⟩
    · exact h2.may v hv
  · intro v hv
    rcases List.mem_cons.1 hv with rfl | hv
    · exact h1.pl_mono (fun x hx => List.mem_append_left _ hx)
    · exact PlT.mono (fun _ ⟨x, hx, e⟩ => ⟨x, List.mem_append_right _ hx, e⟩) v (h2.pl v hv)
theorem iv_conLoop (hx : RdI false ex) (nm : ByteArray) (pc : Int) : ∀ (n : Nat) (pl : List Tr) (l : List Tok) (t : Tr) (q : List Tok), GL l → conLoopQ ex nm pc n pl l = .ok (t, q) →
    ∃ c pl2, l = c ++ q ∧ IvL c pl2 ∧ pl2.length ≤ n ∧ t = .node 6 nm 0 pc (pl ++ pl2)
  | 0, pl, l, t, q, hl, h => by
    obtain ⟨rfl, rfl⟩ := ret_ok h
    exact ⟨[], [], rfl, IvL.nil, by simp, by simp⟩
  | n + 1, pl, l, t, q, hl, h => by
    replace h := if_ok h
    rcases h with ⟨h0, h⟩ | ⟨h0, h⟩
    · replace h := bind_ok h
      obtain ⟨u, l1, h2, h⟩ := h
      obtain ⟨c1, rfl, hc1⟩ := iv_atom hx l u l1 hl h2
      obtain ⟨c2, pl2, rfl, hc2, hn, rfl⟩ := iv_conLoop hx nm pc n _ l1 t q hl.app_r h
      exact ⟨c1 ++ c2, u :: pl2, by simp, IvL.cons hc1 hc2, by simp; omega, by simp⟩
    · obtain ⟨rfl, rfl⟩ := ret_ok h
      exact ⟨[], [], rfl, IvL.nil, by simp, by simp⟩
theorem iv_con (hx : RdI false ex) (a : Tok) (r : List Tok) (t : Tr) (q : List Tok) (hl : GL (a :: r)) (hk : a.kind = 2) (h : conQ ex (a :: r) = .ok (t, q)) : ∃ c, a :: r = c ++ q ∧ Iv false c t := by
  replace h := bind_ok h
  obtain ⟨b, l1, h1, h⟩ := h
  cases next_ok h1
  obtain ⟨c, pl, rfl, hc, hn, rfl⟩ := iv_conLoop hx _ _ 8 [] r t q hl.tail h
  refine ⟨a :: c, rfl, ?_, ?_, ?_, by simp [Tr.kind], ?_⟩
  · rw [bal, bal1_ld hl.head.1 (by omega), hc.bl]; rfl
  · have := hc.sz; simp [sizeT]; omega
  · exact mayT_of (by simp [nameOkV]; exact good_conV hl.head.1 hk) (by simp [partsV]; omega) hl.head.2 (mayL_plain (by decide) (by decide) _ _ (by simpa using hc.may))
  · rw [PlT]
    refine ⟨⟨a, by simp, rfl⟩, (PlL.iff _).2 fun u hu => PlT.mono (fun _ ⟨x, hx, e⟩ => ⟨x, List.mem_cons_of_mem _ hx, e⟩) u (hc.pl u (by simpa using hu))⟩
theorem iv_appLoop (hx : RdI false ex) (at_ : Int) (ha : 0 ≤ at_) : ∀ (n : Nat) (u : Tr) (c0 : List Tok), Iv false c0 u → (∃ x ∈ c0, x.place = at_) → ∀ (l : List Tok) (t : Tr) (q : List Tok), GL l → appLoopQ ex at_ n u l = .ok (t, q) →
    ∃ c, l = c ++ q ∧ Iv false (c0 ++ c) t
  | 0, u, c0, h0, hat, l, t, q, hl, h => by
    obtain ⟨rfl, rfl⟩ := ret_ok h
    exact ⟨[], rfl, by simpa using h0⟩
  | n + 1, u, c0, h0, hat, l, t, q, hl, h => by
    replace h := if_ok h
    rcases h with ⟨_, h⟩ | ⟨_, h⟩
    · replace h := bind_ok h
      obtain ⟨v, l1, h2, h⟩ := h
      obtain ⟨c1, rfl, hc1⟩ := iv_atom hx l v l1 hl h2
      have hn : Iv false (c0 ++ c1) (.node 3 ⟨#[]⟩ 0 at_ [u, v]) := by
        refine ⟨by rw [bal_app, h0.bl, hc1.bl]; rfl, ?_, ?_, by simp [Tr.kind], ?_⟩
        · have := h0.sz; have := hc1.sz; simp [sizeT, sizeL]; omega
        · refine mayT_of (by simp [nameOkV]) (by simp [partsV]) ha (mayL_plain (by decide) (by decide) _ _ ?_)
          intro w hw
          simp only [List.mem_cons, List.not_mem_nil, or_false] at hw
          rcases hw with rfl | rfl
          · exact ⟨h0.may, h0.kind⟩
          · exact ⟨hc1.may, hc1.kind⟩
        · obtain ⟨x, hx1, hx2⟩ := hat
          simp only [PlT, PlL, and_true]
          exact ⟨⟨x, List.mem_append_left _ hx1, hx2⟩, h0.pl_mono (fun x hx => List.mem_append_left _ hx), hc1.pl_mono (fun x hx => List.mem_append_right _ hx)⟩
      obtain ⟨x, hx1, hx2⟩ := hat
      obtain ⟨c2, rfl, hc2⟩ := iv_appLoop hx at_ ha n _ (c0 ++ c1) hn ⟨x, List.mem_append_left _ hx1, hx2⟩ l1 t q hl.app_r h
      exact ⟨c1 ++ c2, by simp, by simpa using hc2⟩
    · obtain ⟨rfl, rfl⟩ := ret_ok h
      exact ⟨[], rfl, by simpa using h0⟩
/-- The first token of what was read. -/
theorem iv_first {c q : List Tok} {t : Tr} (hl : GL (c ++ q)) (h : Iv false c t) : 0 ≤ (peekV (c ++ q) 0).place ∧ ∃ x ∈ c, x.place = (peekV (c ++ q) 0).place := by
  cases c with
  | nil => have := h.sz; simp at this
  | cons a r => exact ⟨(hl a (by simp)).2, a, by simp, rfl⟩
theorem iv_app (hx : RdI false ex) : RdI false (appQ N ex) := fun l t q hl h => by
  replace h := if_ok h
  rcases h with ⟨h0, h⟩ | ⟨h0, h⟩
  · cases l with
    | nil => cases h
    | cons a r => exact iv_con hx a r t q hl (of_decide_eq_true h0) h
  · replace h := bind_ok h
    obtain ⟨x, l1, h1, h⟩ := h
    obtain ⟨h2, h3⟩ := here_ok h1
    obtain ⟨c, rfl, hc⟩ := iv_atom hx l x.2 l1 hl h3
    obtain ⟨p0, hat⟩ := iv_first hl hc
    rw [← h2] at p0 hat
    obtain ⟨c2, rfl, hc2⟩ := iv_appLoop hx x.1 p0 N x.2 c hc hat l1 t q hl.app_r h
    exact ⟨c ++ c2, by simp, hc2⟩
theorem isAny_mem {ss : List (List UInt8)} {t : Tok} (h : isAny ss t = true) : t.text ∈ ss := by
  simp only [isAny, List.any_eq_true, beq_iff_eq] at h
  obtain ⟨s, hs, e⟩ := h
  rw [e]; exact hs
/-- Operators. -/
def OpS (ss : List (List UInt8)) : Prop := ∀ s ∈ ss, opV s = true ∧ (s == [40]) = false ∧ (s == [41]) = false
theorem iv_op {sd : Rg Tr} (hs : RdI false sd) {ss : List (List UInt8)} (hss : OpS ss) (at_ : Int) (ha : 0 ≤ at_) (u : Tr) (c0 : List Tok) (h0 : Iv false c0 u) (hat : ∃ x ∈ c0, x.place = at_) (l : List Tok) (t : Tr) (q : List Tok) (hl : GL l) (hp : isAny ss (peekV l 0) = true)
    (h : opQ sd at_ u l = .ok (t, q)) : ∃ c, l = c ++ q ∧ Iv false (c0 ++ c) t := by
  replace h := bind_ok h
  obtain ⟨s, l1, h1, h⟩ := h
  replace h := bind_ok h
  obtain ⟨v, l2, h2, h⟩ := h
  obtain ⟨rfl, rfl⟩ := ret_ok h
  obtain rfl := next_ok h1
  obtain ⟨c, rfl, hc⟩ := hs l1 v l2 hl.tail h2
  obtain ⟨o1, o2, o3⟩ := hss _ (isAny_mem hp)
  have hb : bal1 s = 0 := bal1_text rfl o2 o3
  refine ⟨s :: c, rfl, ?_, ?_, ?_, by simp [Tr.kind], ?_⟩
  · rw [bal_app, bal, h0.bl, hc.bl, hb]; rfl
  · have := h0.sz; have := hc.sz; simp [sizeT, sizeL]; omega
  · refine mayT_of (by simp [nameOkV]; exact o1) (by simp [partsV]) ha (mayL_plain (by decide) (by decide) _ _ ?_)
    intro w hw
    simp only [List.mem_cons, List.not_mem_nil, or_false] at hw
    rcases hw with rfl | rfl
    · exact ⟨h0.may, h0.kind⟩
    · exact ⟨hc.may, hc.kind⟩
  · obtain ⟨x, hx1, hx2⟩ := hat
    simp only [PlT, PlL, and_true]
    exact ⟨⟨x, List.mem_append_left _ hx1, hx2⟩, h0.pl_mono (fun x hx => List.mem_append_left _ hx), hc.pl_mono (fun x hx => List.mem_append_right _ (List.mem_cons_of_mem _ hx))⟩
theorem iv_rowLoop {sd : Rg Tr} (hs : RdI false sd) {ss : List (List UInt8)} (hss : OpS ss) (at_ : Int) (ha : 0 ≤ at_) : ∀ (n : Nat) (u : Tr) (c0 : List Tok), Iv false c0 u → (∃ x ∈ c0, x.place = at_) → ∀ (l : List Tok) (t : Tr) (q : List Tok), GL l → rowLoopQ sd ss at_ n u l = .ok (t, q) →
    ∃ c, l = c ++ q ∧ Iv false (c0 ++ c) t
  | 0, u, c0, h0, hat, l, t, q, hl, h => by
    obtain ⟨rfl, rfl⟩ := ret_ok h
    exact ⟨[], rfl, by simpa using h0⟩
  | n + 1, u, c0, h0, hat, l, t, q, hl, h => by
    replace h := if_ok h
    rcases h with ⟨hp, h⟩ | ⟨_, h⟩
    · replace h := bind_ok h
      obtain ⟨v, l1, h2, h⟩ := h
      obtain ⟨c1, rfl, hc1⟩ := iv_op hs hss at_ ha u c0 h0 hat l v l1 hl hp h2
      obtain ⟨x, hx1, hx2⟩ := hat
      obtain ⟨c2, rfl, hc2⟩ := iv_rowLoop hs hss at_ ha n v (c0 ++ c1) hc1 ⟨x, List.mem_append_left _ hx1, hx2⟩ l1 t q hl.app_r h
      exact ⟨c1 ++ c2, by simp, by simpa using hc2⟩
    · obtain ⟨rfl, rfl⟩ := ret_ok h
      exact ⟨[], rfl, by simpa using h0⟩
theorem iv_row {sd : Rg Tr} (hs : RdI false sd) {ss : List (List UInt8)} (hss : OpS ss) : RdI false (rowQ N sd ss) := fun l t q hl h => by
  replace h := bind_ok h
  obtain ⟨x, l1, h1, h⟩ := h
  obtain ⟨h2, h3⟩ := here_ok h1
  obtain ⟨c, rfl, hc⟩ := hs l x.2 l1 hl h3
  obtain ⟨p0, hat⟩ := iv_first hl hc
  rw [← h2] at p0 hat
  obtain ⟨c2, rfl, hc2⟩ := iv_rowLoop hs hss x.1 p0 N x.2 c hc hat l1 t q hl.app_r h
  exact ⟨c ++ c2, by simp, hc2⟩
theorem iv_prod (hx : RdI false ex) : RdI false (prodQ N ex) := iv_row (iv_app hx) (by intro s hs; revert s; decide)
theorem iv_sum (hx : RdI false ex) : RdI false (sumQ N ex) := iv_row (iv_prod hx) (by intro s hs; revert s; decide)
theorem iv_cmp {sd : Rg Tr} (hs : RdI false sd) : RdI false (cmpQ sd) := fun l t q hl h => by
  replace h := bind_ok h
  obtain ⟨x, l1, h1, h⟩ := h
  obtain ⟨h2, h3⟩ := here_ok h1
  obtain ⟨c, rfl, hc⟩ := hs l x.2 l1 hl h3
  obtain ⟨p0, hat⟩ := iv_first hl hc
  rw [← h2] at p0 hat
  replace h := if_ok h
  rcases h with ⟨hp, h⟩ | ⟨_, h⟩
  · obtain ⟨c2, rfl, hc2⟩ := iv_op hs (ss := [[60], [61, 61]]) (by intro s hs; revert s; decide) x.1 p0 x.2 c hc hat l1 t q hl.app_r hp h
    exact ⟨c ++ c2, by simp, hc2⟩
  · obtain ⟨rfl, rfl⟩ := ret_ok h
    exact ⟨c, rfl, hc⟩
theorem iv_lam (hx : RdI false ex) : RdI false (lamQ ex) := fun l t q hl h => by
  replace h := bind_ok h
  obtain ⟨x1, l1, h1, h⟩ := h
  replace h := bind_ok h
  obtain ⟨x2, l2, h2, h⟩ := h
  replace h := bind_ok h
  obtain ⟨x3, l3, h3, h⟩ := h
  replace h := bind_ok h
  obtain ⟨b, l4, h4, h⟩ := h
  obtain ⟨rfl, rfl⟩ := ret_ok h
  obtain ⟨rfl, e1⟩ := take_ok h1
  obtain ⟨rfl, e2⟩ := takeK_ok h2
  obtain ⟨rfl, e3⟩ := take_ok h3
  obtain ⟨c, rfl, hc⟩ := hx l3 b l4 hl.tail.tail.tail h4
  refine ⟨x1 :: x2 :: x3 :: c, rfl, ?_, ?_, ?_, by simp [Tr.kind], ?_⟩
  · rw [bal, bal, bal, hc.bl, bal1_text e1 (by decide) (by decide), bal1_ld hl.tail.head.1 (by omega), bal1_text e3 (by decide) (by decide)]; rfl
  · have := hc.sz; simp [sizeT, sizeL]; omega
  · refine mayT_of (by simp [nameOkV]; exact good_name hl.tail.head.1 e2) (by simp [partsV]) hl.head.2 (mayL_plain (by decide) (by decide) _ _ ?_)
    intro w hw
    simp only [List.mem_cons, List.not_mem_nil, or_false] at hw
    subst hw
    exact ⟨hc.may, hc.kind⟩
  · simp only [PlT, PlL, and_true]
    exact ⟨⟨x1, by simp, rfl⟩, hc.pl_mono (fun x hx => by simp [hx])⟩
theorem iv_let (k : Int) (hk : k = 4 ∨ k = 5) (hx : RdI false ex) (x1 : Tok) (l1 : List Tok) (hb : bal1 x1 = 0) (t : Tr) (q : List Tok) (hl : GL (x1 :: l1)) (h : letQ k ex (x1 :: l1) = .ok (t, q)) : ∃ c, x1 :: l1 = c ++ q ∧ Iv false c t := by
  replace h := bind_ok h
  obtain ⟨y1, l1', h1, h⟩ := h
  replace h := bind_ok h
  obtain ⟨x2, l2, h2, h⟩ := h
  replace h := bind_ok h
  obtain ⟨x3, l3, h3, h⟩ := h
  replace h := bind_ok h
  obtain ⟨b, l4, h4, h⟩ := h
  replace h := bind_ok h
  obtain ⟨x5, l5, h5, h⟩ := h
  replace h := bind_ok h
  obtain ⟨d, l6, h6, h⟩ := h
  obtain ⟨rfl, rfl⟩ := ret_ok h
  cases next_ok h1
  obtain ⟨rfl, e2⟩ := takeK_ok h2
  obtain ⟨rfl, e3⟩ := take_ok h3
  obtain ⟨c, rfl, hc⟩ := hx l3 b l4 hl.tail.tail.tail h4
  obtain ⟨rfl, e5⟩ := take_ok h5
  have hl5 : GL l5 := fun u hu => hl u (by simp [hu])
  obtain ⟨c2, rfl, hc2⟩ := hx l5 d l6 hl5 h6
  refine ⟨x1 :: x2 :: x3 :: (c ++ x5 :: c2), by simp, ?_, ?_, ?_, ?_, ?_⟩
  · rw [bal, bal, bal, bal_app, bal, hc.bl, hc2.bl, hb, bal1_ld hl.tail.head.1 (by omega), bal1_text e3 (by decide) (by decide), bal1_text e5 (by decide) (by decide)]; rfl
  · have := hc.sz; have := hc2.sz; simp [sizeT, sizeL]; omega
  · refine mayT_of ?_ ?_ hl.head.2 (mayL_plain (by omega) (by omega) _ _ ?_)
    · rcases hk with rfl | rfl <;> (simp [nameOkV]; exact good_name hl.tail.head.1 e2)
    · rcases hk with rfl | rfl <;> simp [partsV]
    · intro w hw
      simp only [List.mem_cons, List.not_mem_nil, or_false] at hw
      rcases hw with rfl | rfl
      · exact ⟨hc.may, hc.kind⟩
      · exact ⟨hc2.may, hc2.kind⟩
  · rcases hk with rfl | rfl <;> simp [Tr.kind]
  · simp only [PlT, PlL, and_true]
    exact ⟨⟨x1, by simp, rfl⟩, hc.pl_mono (fun x hx => by simp [hx]), hc2.pl_mono (fun x hx => by simp [hx])⟩
theorem mayL_alt {n : Int} : ∀ (pl : List Tr) (b : Tr) (i : Nat), (i : Int) + pl.length = n → (∀ u ∈ pl, mayT u = true ∧ u.kind = 1) → mayT b = true → b.kind ≠ 8 → mayL 8 n i (pl ++ [b]) = true
  | [], b, i, hn, _, hb, hk => by
    have : ¬ (i : Int) < n := by simp at hn; omega
    simp [mayL, standsV, this, hb, hk]
  | u :: r, b, i, hn, hp, hb, hk => by
    have h1 := hp u (by simp)
    have : (i : Int) < n := by simp at hn; omega
    rw [List.cons_append, mayL]
    have h2 := mayL_alt (n := n) r b (i + 1) (by simp at hn ⊢; omega) (fun u hu => hp u (List.mem_cons_of_mem _ hu)) hb hk
    simp [standsV, this, h1.1, h1.2, h2]
theorem iv_altEnd (hx : RdI false ex) (nm : ByteArray) (pc : Int) (pl : List Tr) (l : List Tok) (t : Tr) (q : List Tok) (hl : GL l) (h : altEndQ ex nm pc pl l = .ok (t, q)) : ∃ c b, l = c ++ q ∧ IvL c [b] ∧ sizeT b + 3 ≤ 2 * c.length ∧ t = .node 8 nm pl.length pc (pl ++ [b]) := by
  replace h := bind_ok h
  obtain ⟨x1, l1, h1, h⟩ := h
  replace h := bind_ok h
  obtain ⟨b, l2, h2, h⟩ := h
  obtain ⟨rfl, rfl⟩ := ret_ok h
  obtain ⟨rfl, e1⟩ := take_ok h1
  obtain ⟨c, rfl, hc⟩ := hx l1 b l2 hl.tail h2
  have hs := hc.sz
  refine ⟨x1 :: c, b, rfl, ⟨?_, ?_, ?_, ?_⟩, by simp; omega, rfl⟩
  · rw [bal, hc.bl, bal1_text e1 (by decide) (by decide)]; rfl
  · simp [sizeL]; omega
  · intro u hu; simp only [List.mem_cons, List.not_mem_nil, or_false] at hu; subst hu; exact ⟨hc.may, hc.kind⟩
  · intro u hu; simp only [List.mem_cons, List.not_mem_nil, or_false] at hu; subst hu; exact hc.pl_mono (fun x hx => by simp [hx])
theorem iv_altLoop (hx : RdI false ex) (nm : ByteArray) (pc : Int) : ∀ (n : Nat) (pl : List Tr) (l : List Tok) (t : Tr) (q : List Tok), GL l → altLoopQ ex nm pc n pl l = .ok (t, q) →
    ∃ c pl2 b, l = c ++ q ∧ IvL c (pl2 ++ [b]) ∧ (∀ u ∈ pl2, u.kind = 1) ∧ pl2.length ≤ n ∧ t = .node 8 nm ((pl ++ pl2).length : Nat) pc (pl ++ pl2 ++ [b])
  | 0, pl, l, t, q, hl, h => by
    obtain ⟨c, b, rfl, hc, _, rfl⟩ := iv_altEnd hx nm pc pl l t q hl h
    exact ⟨c, [], b, rfl, hc, by simp, by simp, by simp⟩
  | n + 1, pl, l, t, q, hl, h => by
    replace h := if_ok h
    rcases h with ⟨h0, h⟩ | ⟨h0, h⟩
    · replace h := bind_ok h
      obtain ⟨u, l1, h2, h⟩ := h
      have hk := atom_name hl (of_decide_eq_true h0) h2
      obtain ⟨c1, rfl, hc1⟩ := iv_atom hx l u l1 hl h2
      obtain ⟨c2, pl2, b, rfl, hc2, hp2, hn, rfl⟩ := iv_altLoop hx nm pc n _ l1 t q hl.app_r h
      refine ⟨c1 ++ c2, u :: pl2, b, by simp, IvL.cons hc1 hc2, ?_, by simp; omega, by simp⟩
      intro v hv
      rcases List.mem_cons.1 hv with rfl | hv
      · exact hk
      · exact hp2 v hv
    · obtain ⟨c, b, rfl, hc, _, rfl⟩ := iv_altEnd hx nm pc pl l t q hl h
      exact ⟨c, [], b, rfl, hc, by simp, by simp, by simp⟩
theorem iv_alt (hx : RdI false ex) : RdI true (altQ ex) := fun l t q hl h => by
  replace h := bind_ok h
  obtain ⟨x1, l1, h1, h⟩ := h
  obtain ⟨rfl, e1⟩ := takeK_ok h1
  obtain ⟨c, pl, b, rfl, hc, hp, hn, rfl⟩ := iv_altLoop hx _ _ 8 [] l1 t q hl.tail h
  have hs := hc.sz
  refine ⟨x1 :: c, rfl, ?_, ?_, ?_, by simp [Tr.kind], ?_⟩
  · rw [bal, hc.bl, bal1_ld hl.head.1 (by omega)]; rfl
  · simp only [List.nil_append, sizeT, List.length_cons]; simp at hs; omega
  · have hb := hc.may b (by simp)
    refine mayT_of (by simp [nameOkV]; exact good_conV hl.head.1 e1) (by simp [partsV]; omega) hl.head.2 ?_
    exact mayL_alt pl b 0 (by simp) (fun u hu => ⟨(hc.may u (by simp [hu])).1, hp u hu⟩) hb.1 hb.2
  · rw [PlT]
    refine ⟨⟨x1, by simp, rfl⟩, (PlL.iff _).2 fun u hu => PlT.mono (fun _ ⟨x, hx, e⟩ => ⟨x, List.mem_cons_of_mem _ hx, e⟩) u (hc.pl u (by simpa using hu))⟩
/-- Alternatives that were read one behind the other. -/
structure IvA (c : List Tok) (pl : List Tr) : Prop where
  bl : bal c = 0
  sz : sizeL pl + pl.length ≤ 2 * c.length
  may : ∀ u ∈ pl, mayT u = true ∧ u.kind = 8
  pl : ∀ u ∈ pl, PlT (fun p => ∃ x ∈ c, x.place = p) u
theorem iv_choiceLoop {al : Rg Tr} (ha : RdI true al) (pc : Int) : ∀ (n : Nat) (pl : List Tr) (l : List Tok) (t : Tr) (q : List Tok), GL l → choiceLoopQ al pc n pl l = .ok (t, q) →
    ∃ c pl2, l = c ++ q ∧ IvA c pl2 ∧ pl2.length ≤ n ∧ t = .node 7 ⟨#[]⟩ 0 pc (pl ++ pl2)
  | 0, pl, l, t, q, hl, h => by
    replace h := bind_ok h
    obtain ⟨x1, l1, h1, h⟩ := h
    obtain ⟨rfl, rfl⟩ := ret_ok h
    obtain ⟨rfl, e1⟩ := take_ok h1
    exact ⟨[x1], [], rfl, ⟨by rw [bal, bal, bal1_text e1 (by decide) (by decide)]; rfl, by simp [sizeL], by simp, by simp⟩, by simp, by simp⟩
  | n + 1, pl, l, t, q, hl, h => by
    replace h := if_ok h
    rcases h with ⟨h0, h⟩ | ⟨h0, h⟩
    · replace h := bind_ok h
      obtain ⟨x1, l1, h1, h⟩ := h
      replace h := bind_ok h
      obtain ⟨u, l2, h2, h⟩ := h
      obtain ⟨rfl, e1⟩ := take_ok h1
      obtain ⟨c1, rfl, hc1⟩ := ha l1 u l2 hl.tail h2
      obtain ⟨c2, pl2, rfl, hc2, hn, rfl⟩ := iv_choiceLoop ha pc n _ l2 t q hl.tail.app_r h
      have s1 := hc1.sz
      have s2 := hc2.sz
      refine ⟨x1 :: (c1 ++ c2), u :: pl2, by simp, ⟨?_, ?_, ?_, ?_⟩, by simp; omega, by simp⟩
      · rw [bal, bal_app, hc1.bl, hc2.bl, bal1_text e1 (by decide) (by decide)]; rfl
      · simp only [sizeL, List.length_cons, List.length_append]; omega
      · intro v hv
        rcases List.mem_cons.1 hv with rfl | hv
        · exact ⟨hc1.may, of_decide_eq_true hc1.kd⟩
        · exact hc2.may v hv
      · intro v hv
        rcases List.mem_cons.1 hv with rfl | hv
        · exact hc1.pl_mono (fun x hx => by simp [hx])
        · exact PlT.mono (fun _ ⟨x, hx, e⟩ => ⟨x, by simp [hx], e⟩) v (hc2.pl v hv)
    · replace h := bind_ok h
      obtain ⟨x1, l1, h1, h⟩ := h
      obtain ⟨rfl, rfl⟩ := ret_ok h
      obtain ⟨rfl, e1⟩ := take_ok h1
      exact ⟨[x1], [], rfl, ⟨by rw [bal, bal, bal1_text e1 (by decide) (by decide)]; rfl, by simp [sizeL], by simp, by simp⟩, by simp, by simp⟩
theorem mayL_case {n : Int} : ∀ (l : List Tr) (i : Nat), 0 < i → (∀ u ∈ l, mayT u = true ∧ u.kind = 8) → mayL 7 n i l = true
  | [], _, _, _ => rfl
  | t :: r, i, hi, h => by
    have h1 := h t (by simp)
    rw [mayL, mayL_case r (i + 1) (by omega) fun u hu => h u (List.mem_cons_of_mem _ hu), h1.1]
    simp [standsV, hi, h1.2]
theorem iv_choice (hx : RdI false ex) : RdI false (choiceQ ex) := fun l t q hl h => by
  replace h := bind_ok h
  obtain ⟨x1, l1, h1, h⟩ := h
  replace h := bind_ok h
  obtain ⟨b, l2, h2, h⟩ := h
  replace h := bind_ok h
  obtain ⟨x3, l3, h3, h⟩ := h
  replace h := bind_ok h
  obtain ⟨x4, l4, h4, h⟩ := h
  replace h := bind_ok h
  obtain ⟨a, l5, h5, h⟩ := h
  obtain ⟨rfl, e1⟩ := take_ok h1
  obtain ⟨c, rfl, hc⟩ := hx l1 b l2 hl.tail h2
  obtain ⟨rfl, e3⟩ := take_ok h3
  obtain ⟨rfl, e4⟩ := take_ok h4
  have hl4 : GL l4 := fun u hu => hl u (by simp [hu])
  obtain ⟨c2, rfl, hc2⟩ := iv_alt hx l4 a l5 hl4 h5
  obtain ⟨c3, pl, rfl, hc3, hn, rfl⟩ := iv_choiceLoop (iv_alt hx) x1.place 7 _ l5 t q hl4.app_r h
  have s1 := hc.sz
  have s2 := hc2.sz
  have s3 := hc3.sz
  refine ⟨x1 :: (c ++ x3 :: x4 :: (c2 ++ c3)), by simp, ?_, ?_, ?_, by simp [Tr.kind], ?_⟩
  · rw [bal, bal_app, bal, bal, bal_app, hc.bl, hc2.bl, hc3.bl, bal1_text e1 (by decide) (by decide), bal1_text e3 (by decide) (by decide), bal1_text e4 (by decide) (by decide)]; rfl
  · simp only [List.cons_append, List.nil_append, sizeT, sizeL, List.length_cons, List.length_append]; omega
  · refine mayT_of (by simp [nameOkV]) (by simp [partsV]; omega) hl.head.2 ?_
    have h8 : a.kind = 8 := of_decide_eq_true hc2.kd
    rw [List.cons_append, mayL, List.cons_append, List.nil_append, mayL_case (a :: pl) 1 (by omega) (by
      intro v hv
      rcases List.mem_cons.1 hv with rfl | hv
      · exact ⟨hc2.may, h8⟩
      · exact hc3.may v hv), hc.may]
    simp [standsV, hc.kind]
  · rw [PlT]
    refine ⟨⟨x1, by simp, rfl⟩, (PlL.iff _).2 fun u hu => ?_⟩
    simp only [List.cons_append, List.nil_append, List.mem_cons] at hu
    rcases hu with rfl | rfl | hu
    · exact hc.pl_mono (fun x hx => by simp [hx])
    · exact hc2.pl_mono (fun x hx => by simp [hx])
    · exact PlT.mono (fun _ ⟨x, hx, e⟩ => ⟨x, by simp [hx], e⟩) u (hc3.pl u hu)
end
theorem iv_expr (N : Nat) : ∀ n, RdI false (exprQ N n)
  | 0 => fun l t q _ h => by cases h
  | n + 1 => fun l t q hl h => by
    have ih := iv_expr N n
    have hlt : ∀ k, (k = 4 ∨ k = 5) → ∀ s, (s == [40]) = false → (s == [41]) = false → s ≠ [] → isT s (peekV l 0) = true → letQ k (exprQ N n) l = .ok (t, q) → ∃ c, l = c ++ q ∧ Iv false c t := fun k hk s h1 h2 h3 h4 h => by
      cases l with
      | nil => exact absurd (eq_of_beq h4).symm h3
      | cons a r => exact iv_let k hk ih a r (bal1_text (eq_of_beq h4) h1 h2) t q hl h
    replace h := if_ok h
    rcases h with ⟨_, h⟩ | ⟨_, h⟩
    · exact iv_lam ih l t q hl h
    · replace h := if_ok h
      rcases h with ⟨h0, h⟩ | ⟨_, h⟩
      · exact hlt 4 (.inl rfl) _ (by decide) (by decide) (by simp) h0 h
      · replace h := if_ok h
        rcases h with ⟨h0, h⟩ | ⟨_, h⟩
        · exact hlt 5 (.inr rfl) _ (by decide) (by decide) (by simp) h0 h
        · replace h := if_ok h
          rcases h with ⟨_, h⟩ | ⟨_, h⟩
          · exact iv_choice ih l t q hl h
          · exact iv_cmp (iv_sum ih) l t q hl h
theorem iv_all : RdI false allQ := iv_expr _ _
theorem iv_whole {l : List Tok} {t : Tr} (hl : GL l) (h : wholeQ l = .ok t) : Iv false l t := by
  unfold wholeQ at h
  cases hq : allQ l with
  | error q => rw [hq] at h; cases h
  | ok x =>
    obtain ⟨u, q⟩ := x
    rw [hq] at h
    cases q with
    | nil =>
      simp only [Except.ok.injEq] at h
      subst h
      obtain ⟨c, hc, hi⟩ := iv_all l u [] hl hq
      rw [List.append_nil] at hc
      rw [hc]; exact hi
    | cons a r => cases h
end Lx
end Go.Proofs.YteabbkhlgnoliaaGreatDoor
namespace Go.Proofs.YteabbkhlgnoliaaGreatDoor
namespace Lx
theorem run_cut (P : Int → Bool) (hP : P 32 = false) (t : List UInt8) : ∀ l : List UInt8, run P (l ++ 32 :: t) = run P l
  | [] => by simp [run, hP]
  | c :: l => by
    have := run_cut P hP t l
    simp [run, this]
theorem prefix_cut (t : List UInt8) : ∀ (g l : List UInt8), (32 : UInt8) ∉ g → Lib.hasPrefix (l ++ 32 :: t) g = Lib.hasPrefix l g
  | [], _, _ => rfl
  | a :: g, [], h => by
    have ha : a ≠ 32 := by intro e; subst e; exact h (by simp)
    simp [Lib.hasPrefix, List.isPrefixOf, ha]
  | a :: g, c :: l, h => by
    have := prefix_cut t g l (fun hm => h (by simp [hm]))
    simp only [Lib.hasPrefix] at this ⊢
    simp [List.isPrefixOf, this]
theorem find_congr {α : Type} (p q : α → Bool) : ∀ L : List α, (∀ x ∈ L, p x = q x) → L.find? p = L.find? q
  | [], _ => rfl
  | a :: L, h => by
    have h1 := h a (by simp)
    have h2 := find_congr p q L (fun x hx => h x (by simp [hx]))
    simp [List.find?, h1, h2]
theorem no_blank_sign : ∀ g ∈ signsS, (32 : UInt8) ∉ g := by decide
theorem sign_cut (l t : List UInt8) : signOf (l ++ 32 :: t) = signOf l :=
  find_congr _ _ _ (fun g hg => prefix_cut t g l (no_blank_sign g hg))
theorem tok_cut (l t : List UInt8) : tokK (l ++ 32 :: t) = tokK l := by
  have hr := run_cut ldR rfl t l
  have hle := run_le ldR l
  unfold tokK
  rw [hr, sign_cut, List.take_append_of_le_length hle]

theorem blk_all {l : List UInt8} (t : List UInt8) : (run blkR l = l.length → run blkR (l ++ t) = l.length + run blkR t) ∧ (run blkR l < l.length → run blkR (l ++ t) = run blkR l) := by
  induction l with
  | nil => simp [run]
  | cons c l ih =>
    cases hc : blkR (c.toNat : Int)
    · simp [run, hc]
    · have hle := run_le blkR l
      constructor
      · intro h
        simp [run, hc] at h
        have := ih.1 h
        simp [run, hc, this]
        omega
      · intro h
        simp [run, hc] at h
        have := ih.2 h
        simp [run, hc, this]
theorem run_drop_run (P : Int → Bool) : ∀ l : List UInt8, run P (l.drop (run P l)) = 0
  | [] => rfl
  | c :: l => by
    cases hc : P (c.toNat : Int)
    · simp [run, hc]
    · have := run_drop_run P l
      simp [run, hc, this]

/-- More fuel than bytes is enough. -/
theorem scan_fuel : ∀ (f g : Nat) (l : List UInt8) (k : Nat), l.length < f → l.length < g → scan f l k = scan g l k := by
  intro f
  induction f with
  | zero => intro g l k h; omega
  | succ f ih =>
    intro g l k hf hg
    obtain ⟨g, rfl⟩ : ∃ g', g = g' + 1 := ⟨g - 1, by omega⟩
    by_cases hl : l = []
    · subst hl; simp [scan_end]
    · cases ht : tokK l with
      | error e => rw [scan_bad hl ht, scan_bad hl ht]
      | ok r =>
        obtain ⟨kd, n, t⟩ := r
        obtain ⟨h1, h2, _⟩ := tok_text ht
        have := ih g ((l.drop t.length).drop (run blkR (l.drop t.length))) (k + t.length + run blkR (l.drop t.length)) (by simp only [List.length_drop]; omega) (by simp only [List.length_drop]; omega)
        simp only [scan, if_neg hl, ht, this]

def moved (d : Nat) (t : Tok) : Tok := { t with place := t.place + d }
def shift (d : Nat) : Except (Int × Int) (List Tok) → Except (Int × Int) (List Tok)
  | .ok r => .ok (r.map (moved d))
  | .error (p, x) => .error (p + d, x)
theorem scan_shift (d : Nat) : ∀ (f : Nat) (l : List UInt8) (k : Nat), scan f l (k + d) = shift d (scan f l k) := by
  intro f
  induction f with
  | zero => intro l k; simp [scan, shift]
  | succ f ih =>
    intro l k
    by_cases hl : l = []
    · subst hl; simp [scan_end, shift]
    · cases ht : tokK l with
      | error e => rw [scan_bad hl ht, scan_bad hl ht]; simp [shift]
      | ok r =>
        obtain ⟨kd, n, t⟩ := r
        have := ih ((l.drop t.length).drop (run blkR (l.drop t.length))) (k + t.length + run blkR (l.drop t.length))
        rw [show k + t.length + run blkR (l.drop t.length) + d = k + d + t.length + run blkR (l.drop t.length) from by omega] at this
        simp only [scan, if_neg hl, ht, this]
        cases scan f ((l.drop t.length).drop (run blkR (l.drop t.length))) (k + t.length + run blkR (l.drop t.length)) with
        | ok r => simp [shift, moved]
        | error e => obtain ⟨p, x⟩ := e; simp [shift]

/-- What follows behind tokens that were read. -/
def follow (r q : Except (Int × Int) (List Tok)) : Except (Int × Int) (List Tok) :=
  match r with
  | .ok a => glue a q
  | .error e => .error e
theorem glue_nil (q : Except (Int × Int) (List Tok)) : glue [] q = q := by cases q <;> simp [glue]
theorem scan_join (t : List UInt8) (F : Nat) (hF : t.length < F) : ∀ (f : Nat) (l : List UInt8) (k : Nat), l ≠ [] → run blkR l = 0 → l.length + t.length + 1 < f →
    scan f (l ++ 32 :: t) k = follow (scan f l k) (scan F (t.drop (run blkR t)) (k + l.length + 1 + run blkR t)) := by
  intro f
  induction f with
  | zero => intro l k _ _ h; omega
  | succ f ih =>
    intro l k hl hb hf
    have hne : l ++ 32 :: t ≠ [] := by simp
    cases ht : tokK l with
    | error e => rw [scan_bad hl ht, scan_bad hne (by rw [tok_cut]; exact ht)]; rfl
    | ok r =>
      obtain ⟨kd, n, x⟩ := r
      obtain ⟨h1, h2, _⟩ := tok_text ht
      have ht' : tokK (l ++ 32 :: t) = .ok (kd, n, x) := by rw [tok_cut]; exact ht
      have hd : (l ++ 32 :: t).drop x.length = l.drop x.length ++ 32 :: t := List.drop_append_of_le_length h2
      have hle := run_le blkR (l.drop x.length)
      have hll : (l.drop x.length).length = l.length - x.length := List.length_drop
      simp only [scan, if_neg hl, if_neg hne, ht, ht', hd]
      by_cases hc : run blkR (l.drop x.length) < (l.drop x.length).length
      · rw [(blk_all (32 :: t)).2 hc, List.drop_append_of_le_length hle]
        have h3 := ih ((l.drop x.length).drop (run blkR (l.drop x.length))) (k + x.length + run blkR (l.drop x.length))
          (by intro e; have := congrArg List.length e; rw [List.length_drop] at this; simp only [List.length_nil] at this; omega) (run_drop_run _ _) (by rw [List.length_drop]; omega)
        rw [h3]
        rw [show k + x.length + run blkR (l.drop x.length) + ((l.drop x.length).drop (run blkR (l.drop x.length))).length + 1 + run blkR t = k + l.length + 1 + run blkR t from by rw [List.length_drop]; omega]
        cases scan f ((l.drop x.length).drop (run blkR (l.drop x.length))) (k + x.length + run blkR (l.drop x.length)) with
        | error e => rfl
        | ok r => cases scan F (t.drop (run blkR t)) (k + l.length + 1 + run blkR t) <;> simp [follow, glue]
      · have he : run blkR (l.drop x.length) = (l.drop x.length).length := by omega
        have hb2 : run blkR (32 :: t) = run blkR t + 1 := rfl
        rw [(blk_all (32 :: t)).1 he, hb2]
        have hdd : (l.drop x.length ++ 32 :: t).drop ((l.drop x.length).length + (run blkR t + 1)) = t.drop (run blkR t) := by
          rw [List.drop_length_add_append]
          rfl
        have hdn : (l.drop x.length).drop (run blkR (l.drop x.length)) = [] := List.drop_eq_nil_of_le (by omega)
        rw [hdd, hdn, scan_end, scan_fuel f F _ _ (by rw [List.length_drop]; omega) (by rw [List.length_drop]; omega)]
        rw [show k + x.length + ((l.drop x.length).length + (run blkR t + 1)) = k + l.length + 1 + run blkR t from by omega]
        cases scan F (t.drop (run blkR t)) (k + l.length + 1 + run blkR t) <;> simp [follow, glue]

theorem allK_join (s t : List UInt8) : allK (s ++ 32 :: t) = follow (allK s) (shift (s.length + 1) (allK t)) := by
  have hle := run_le blkR s
  have hlt := run_le blkR t
  have hsh : scan (t.length + 1) (t.drop (run blkR t)) (s.length + 1 + run blkR t) = shift (s.length + 1) (allK t) := by
    rw [show s.length + 1 + run blkR t = run blkR t + (s.length + 1) from by omega, scan_shift]
    rfl
  unfold allK at hsh ⊢
  by_cases hc : run blkR s < s.length
  · rw [(blk_all (32 :: t)).2 hc, List.drop_append_of_le_length hle]
    have hlen : (s ++ 32 :: t).length = s.length + t.length + 1 := by simp; omega
    have hdl : (s.drop (run blkR s)).length = s.length - run blkR s := List.length_drop
    rw [scan_join t (t.length + 1) (by omega) ((s ++ 32 :: t).length + 1) (s.drop (run blkR s)) (run blkR s)
      (by intro e; have := congrArg List.length e; rw [List.length_drop] at this; simp only [List.length_nil] at this; omega) (run_drop_run _ _) (by omega)]
    rw [scan_fuel ((s ++ 32 :: t).length + 1) (s.length + 1) _ _ (by omega) (by omega)]
    rw [show run blkR s + (s.drop (run blkR s)).length + 1 + run blkR t = s.length + 1 + run blkR t from by omega, hsh]
  · have he : run blkR s = s.length := by omega
    have hb2 : run blkR (32 :: t) = run blkR t + 1 := rfl
    rw [(blk_all (32 :: t)).1 he, hb2]
    have hdd : (s ++ 32 :: t).drop (s.length + (run blkR t + 1)) = t.drop (run blkR t) := by
      rw [List.drop_length_add_append]
      rfl
    have hdn : s.drop (run blkR s) = [] := List.drop_eq_nil_of_le (by omega)
    rw [hdd, hdn, scan_end]
    have hlen : (s ++ 32 :: t).length = s.length + t.length + 1 := by simp; omega
    rw [scan_fuel ((s ++ 32 :: t).length + 1) (t.length + 1) _ _ (by rw [List.length_drop]; omega) (by rw [List.length_drop]; omega)]
    rw [show s.length + (run blkR t + 1) = s.length + 1 + run blkR t from by omega, hsh]
    simp [follow, glue_nil]

/-- Blanks ahead. -/
theorem allK_ahead (g s : List UInt8) (hg : run blkR g = g.length) : allK (g ++ s) = shift g.length (allK s) := by
  have hle := run_le blkR s
  unfold allK
  rw [(blk_all s).1 hg]
  have hdd : (g ++ s).drop (g.length + run blkR s) = s.drop (run blkR s) := by rw [List.drop_length_add_append]
  rw [hdd, scan_fuel ((g ++ s).length + 1) (s.length + 1) _ _ (by simp; omega) (by simp; omega), Nat.add_comm g.length, scan_shift]
theorem allK_blank (g : List UInt8) (hg : run blkR g = g.length) : allK g = .ok [] := by
  unfold allK
  rw [hg, List.drop_length, scan_end]
theorem scan_place : ∀ (f : Nat) (l : List UInt8) (k : Nat) (p x : Int), scan f l k = .error (p, x) → ∃ j : Nat, p = j ∧ k ≤ j ∧ j < k + l.length := by
  intro f
  induction f with
  | zero => intro l k p x h; simp [scan] at h
  | succ f ih =>
    intro l k p x h
    by_cases hl : l = []
    · subst hl; simp [scan_end] at h
    · have hpos := List.length_pos_iff.2 hl
      cases ht : tokK l with
      | error e =>
        rw [scan_bad hl ht] at h
        cases h
        exact ⟨k, rfl, Nat.le_refl _, by omega⟩
      | ok r =>
        obtain ⟨kd, n, t⟩ := r
        obtain ⟨h1, h2, _⟩ := tok_text ht
        have hle := run_le blkR (l.drop t.length)
        simp only [scan, if_neg hl, ht] at h
        split at h
        · rename_i e1 h3
          cases h
          obtain ⟨j, hj, a, b⟩ := ih _ _ _ _ h3
          simp only [List.length_drop] at b hle
          exact ⟨j, hj, by omega, by omega⟩
        · cases h
theorem allK_place {l : List UInt8} {p x : Int} (h : allK l = .error (p, x)) : ∃ j : Nat, p = j ∧ j < l.length := by
  have hle := run_le blkR l
  obtain ⟨j, hj, a, b⟩ := scan_place _ _ _ _ _ h
  rw [List.length_drop] at b
  exact ⟨j, hj, by omega⟩
theorem scan_places : ∀ (f : Nat) (l : List UInt8) (k : Nat) (ts : List Tok), scan f l k = .ok ts → (∀ t ∈ ts, ∃ j : Nat, t.place = j ∧ k ≤ j ∧ j + t.text.length ≤ k + l.length) ∧ ts.length ≤ l.length := by
  intro f
  induction f with
  | zero => intro l k ts h; simp [scan] at h; subst h; simp
  | succ f ih =>
    intro l k ts h
    by_cases hl : l = []
    · subst hl; simp [scan_end] at h; subst h; simp
    · cases ht : tokK l with
      | error e => rw [scan_bad hl ht] at h; cases h
      | ok r =>
        obtain ⟨kd, n, t⟩ := r
        obtain ⟨h1, h2, _⟩ := tok_text ht
        have hle := run_le blkR (l.drop t.length)
        simp only [scan, if_neg hl, ht] at h
        split at h
        · cases h
        · rename_i r h3
          cases h
          obtain ⟨ha, hb⟩ := ih _ _ _ h3
          simp only [List.length_drop] at ha hb hle
          refine ⟨fun u hu => ?_, by simp only [List.length_cons]; omega⟩
          rcases List.mem_cons.1 hu with rfl | hu
          · exact ⟨k, rfl, Nat.le_refl _, by show k + t.length ≤ _; omega⟩
          · obtain ⟨j, hj, a, b⟩ := ha u hu
            exact ⟨j, hj, by omega, by omega⟩
theorem allK_places {l : List UInt8} {ts : List Tok} (h : allK l = .ok ts) : (∀ t ∈ ts, ∃ j : Nat, t.place = j ∧ j + t.text.length ≤ l.length) ∧ ts.length ≤ l.length := by
  have hle := run_le blkR l
  obtain ⟨a, b⟩ := scan_places _ _ _ _ h
  rw [List.length_drop] at a b
  refine ⟨fun t ht => ?_, by omega⟩
  obtain ⟨j, hj, _, c⟩ := a t ht
  exact ⟨j, hj, by omega⟩
end Lx
end Go.Proofs.YteabbkhlgnoliaaGreatDoor
namespace Go.Proofs.YteabbkhlgnoliaaGreatDoor
open Go.RowKit
namespace Lx
set_option maxRecDepth 100000
theorem allK_GL {s : List UInt8} {ts : List Tok} (h : allK s = .ok ts) : GL ts ∧ ts.length ≤ s.length ∧ ∀ t ∈ ts, 0 ≤ t.place ∧ t.place < s.length := by
  have hg := allK_good h
  obtain ⟨h1, h2⟩ := allK_places h
  refine ⟨fun t ht => ⟨hg t ht, ?_⟩, h2, fun t ht => ?_⟩
  · obtain ⟨j, hj, _⟩ := h1 t ht
    omega
  · obtain ⟨j, hj, hl⟩ := h1 t ht
    have := good_pos (hg t ht)
    omega
theorem parse_size {s : List UInt8} (hs : s.length ≤ 19000) : ∀ ts t, allK s = .ok ts → wholeV s.length ts = .ok t → sizeT t ≤ 100000 := fun ts t h hw => by
  obtain ⟨hg, hl, _⟩ := allK_GL h
  rw [whole_Q _ ts (by omega)] at hw
  cases hq : wholeQ ts with
  | error q => rw [hq] at hw; cases hw
  | ok u =>
    rw [hq] at hw
    simp only [Except.ok.injEq] at hw
    subst hw
    have := (iv_whole hg hq).sz
    omega
theorem parse_text (s : ByteArray) (deep : Int) (w : World) (hd : -1000000 ≤ deep ∧ deep ≤ 1000000) (hs : s.size ≤ 19000) (hg : Signs w) :
    Calls Tryz.prog 13 #[.string s, .int .i64 deep] w fun x w' => PaPost w (parseV s.data.toList deep) x w' :=
  parse_any s deep w hd (by omega) hg (parse_size (by simpa using hs))
/-- What Parse answers of tokens. -/
theorem parseV_tok {s : List UInt8} {deep : Int} {ts : List Tok} (hd : 1 ≤ deep ∧ deep ≤ 200) (hs : s.length ≤ 4096) (h : allK s = .ok ts) :
    parseV s deep = match wholeQ ts with | .error q => .error ((peekV q s.length).place, 30) | .ok t => if deep < (depthT t : Int) then .error (0, 31) else .ok t := by
  obtain ⟨_, hl, _⟩ := allK_GL h
  unfold parseV
  rw [if_neg (by omega), if_neg (by omega), h]
  simp only
  rw [whole_Q _ ts (by omega)]
  cases wholeQ ts <;> rfl
theorem parseV_lex {s : List UInt8} {deep p x : Int} (hd : 1 ≤ deep ∧ deep ≤ 200) (hs : s.length ≤ 4096) (h : allK s = .error (p, x)) : parseV s deep = .error (p, x) := by
  unfold parseV
  rw [if_neg (by omega), if_neg (by omega), h]
/-- A tree that was read. -/
theorem parseV_ok {s : List UInt8} {deep : Int} {t : Tr} (h : parseV s deep = .ok t) : (1 ≤ deep ∧ deep ≤ 200) ∧ s.length ≤ 4096 ∧ ∃ ts, allK s = .ok ts ∧ wholeQ ts = .ok t ∧ (depthT t : Int) ≤ deep ∧ Iv false ts t := by
  have hd : 1 ≤ deep ∧ deep ≤ 200 := by
    by_cases hd : deep < 1 ∨ 200 < deep
    · unfold parseV at h; rw [if_pos hd] at h; cases h
    · omega
  have hs : s.length ≤ 4096 := by
    by_cases hs : 4096 < s.length
    · unfold parseV at h; rw [if_neg (by omega), if_pos hs] at h; cases h
    · omega
  refine ⟨hd, hs, ?_⟩
  cases hk : allK s with
  | error px => obtain ⟨p, x⟩ := px; rw [parseV_lex hd hs hk] at h; cases h
  | ok ts =>
    rw [parseV_tok hd hs hk] at h
    cases hq : wholeQ ts with
    | error q => rw [hq] at h; cases h
    | ok u =>
      rw [hq] at h
      simp only at h
      split at h
      · cases h
      · simp only [Except.ok.injEq] at h
        subst h
        exact ⟨ts, rfl, hq, by omega, iv_whole (allK_GL hk).1 hq⟩
end Lx
end Go.Proofs.YteabbkhlgnoliaaGreatDoor
namespace Go.Proofs.YteabbkhlgnoliaaGreatDoor
open Go.RowKit
namespace Lx
set_option maxRecDepth 100000
def q3T : Tr := .node 10 ⟨#[43]⟩ 0 0 [.node 3 ⟨#[]⟩ 0 0 [.node 1 ⟨#[102]⟩ 0 0 [], .node 1 ⟨#[120]⟩ 0 2 []], .node 9 ⟨#[]⟩ 1 6 []]
def q3U : Tr := .node 10 ⟨#[45]⟩ 0 0 [.node 10 ⟨#[45]⟩ 0 0 [.node 9 ⟨#[]⟩ 1 0 [], .node 9 ⟨#[]⟩ 2 4 []], .node 9 ⟨#[]⟩ 3 8 []]
def q3V : Tr := .node 6 ⟨#[65]⟩ 0 0 [.node 6 ⟨#[66]⟩ 0 3 [], .node 1 ⟨#[99]⟩ 0 6 []]
theorem k3a : parseV [102, 32, 120, 32, 43, 32, 49] 9 = .ok q3T := by kernel_rfl
theorem k3b : parseV [102, 32, 120, 32, 43, 32, 49] 2 = .error (0, 31) := by kernel_rfl
theorem k3c : parseV [108, 101, 116, 32, 120, 32, 61, 32, 49] 9 = .error (9, 30) := by kernel_rfl
theorem k3d : parseV [99, 97, 115, 101, 32, 120, 32, 111, 102, 32, 123, 65, 32, 45, 62, 32, 49, 32, 124, 32, 125] 9 = .error (20, 30) := by kernel_rfl
theorem k3e : parseV [49, 32, 45, 32, 50, 32, 45, 32, 51] 9 = .ok q3U := by kernel_rfl
theorem k3f : parseV [49, 32, 60, 32, 50, 32, 60, 32, 51] 9 = .error (6, 30) := by kernel_rfl
theorem k3g : parseV [65, 32, 40, 66, 41, 32, 99] 9 = .ok q3V := by kernel_rfl
theorem k3h : parseV [120] 0 = .error (0, 1) := by kernel_rfl
theorem k3o : oneT q3T q3T = true := by kernel_rfl
theorem parse_lit (s : ByteArray) (deep : Int) (res : Except (Int × Int) Tr) (w : World) (h : parseV s.data.toList deep = res) (hd : -1000000 ≤ deep ∧ deep ≤ 1000000) (hs : s.size ≤ 19000) (hg : Signs w) :
    Calls Tryz.prog 13 #[.string s, .int .i64 deep] w fun x w' => PaPost w res x w' := by
  rw [← h]; exact parse_text s deep w hd hs hg
/-- A box and the tree whose fields it holds. -/
structure Bt (W : World) (g : Nat) (t : Tr) (A : Option Addr) (c : Nat) : Prop where
  x : Lies W g 24 #[.int .i64 t.kind, .string t.name, .int .i64 t.n, .int .i64 t.place, .slice A t.parts.length (capF t.parts.length c)]
  t : TIn W Any t A
theorem Bt.step {W W' : World} {g : Nat} {t : Tr} {A : Option Addr} {c : Nat} (h : Bt W g t A c) (hb : Below W.heap.size W W') : Bt W' g t A c := ⟨h.x.below hb h.x.lt, TIn.below _ h.t hb (Nat.le_refl _)⟩
theorem Bt.new {W : World} {t : Tr} {A : Option Addr} {c : Nat} {X : Nat → Prop} (h : TIn W X t A) : Bt (W.alloc (.cells #[.int .i64 t.kind, .string t.name, .int .i64 t.n, .int .i64 t.place, .slice A t.parts.length (capF t.parts.length c)] 24)) W.heap.size t A c :=
  ⟨Lies.new W _ _, TIn.any _ (TIn.below _ h ((Below.refl _ W).alloc (Nat.le_refl _) _) (Nat.le_refl _))⟩
theorem below_alloc (W : World) (o : Obj) : Below W.heap.size W (W.alloc o) := (Below.refl _ W).alloc (Nat.le_refl _) o
end Lx
end Go.Proofs.YteabbkhlgnoliaaGreatDoor
namespace Go.Proofs.YteabbkhlgnoliaaGreatDoor
open Go.RowKit
namespace Lx
set_option maxRecDepth 100000
def anyAt (ts : List Tok) (a : Int) : Bool := ts.any fun x => x.place == a
mutual
def plV (ts : List Tok) : Tr → Bool
  | .node _ _ _ a l => anyAt ts a && plVL ts l
def plVL (ts : List Tok) : List Tr → Bool
  | [] => true
  | t :: r => plV ts t && plVL ts r
end
mutual
theorem plV_of (ts : List Tok) : ∀ t : Tr, PlT (fun p => ∃ x ∈ ts, x.place = p) t → plV ts t = true
  | .node k s n a l, h => by
    rw [PlT] at h
    obtain ⟨⟨x, hx, e⟩, h2⟩ := h
    rw [plV, plVL_of ts l h2, Bool.and_true]
    exact List.any_eq_true.2 ⟨x, hx, by simpa using e⟩
theorem plVL_of (ts : List Tok) : ∀ l : List Tr, PlL (fun p => ∃ x ∈ ts, x.place = p) l → plVL ts l = true
  | [], _ => rfl
  | t :: r, h => by
    rw [PlL] at h
    rw [plVL, plV_of ts t h.1, plVL_of ts r h.2]; rfl
end
theorem plVL_snoc (ts : List Tok) (l : List Tr) (t : Tr) : plVL ts (l ++ [t]) = (plVL ts l && plV ts t) := by
  induction l with
  | nil => simp [plVL]
  | cons a r ih => simp only [List.cons_append, plVL, ih, Bool.and_assoc]
theorem anyAt_take (ts : List Tok) (a : Int) (i : Nat) (hi : i < ts.length) : anyAt (ts.take (i + 1)) a = (anyAt (ts.take i) a || (ts[i]'hi).place == a) := by
  rw [anyAt, List.take_succ_eq_append_getElem hi, List.any_append]
  simp [anyAt]
theorem below_drewN {B : Nat} {a w : World} (h : Below B a w) (n : Nat) : Below B a (w.drewN n) := ⟨h.os, h.tape, h.output, h.size, h.block⟩
end Lx
end Go.Proofs.YteabbkhlgnoliaaGreatDoor
