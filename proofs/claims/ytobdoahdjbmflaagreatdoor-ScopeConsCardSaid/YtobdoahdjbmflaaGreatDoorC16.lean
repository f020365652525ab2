/-
  Texts that lie one behind the other: ScT GMod Par5 GRes GExp GSign GErr.
-/
import Derived.Test.YtobdoahdjbmflaaGreatDoorC15
import Derived.Test.YtobdoahdjbmflaaGreatDoorC1
import Derived.Test.YtobdoahdjbmflaaGreatDoorC7
import Derived.Test.YtobdoahdjbmflaaGreatDoorC4
import Derived.Deep.QuietTactic
import Derived.BigQuiet
import Derived.Deep.Cut
import Derived.StillTailTactics
namespace Go.Proofs.YtobdoahdjbmflaaGreatDoor
open Go Go.RowKit
attribute [local go_sem] Oper.semAt_some
namespace Lx
set_option maxRecDepth 100000
theorem SIn.of_own {w : World} {b n c : Nat} {A : Option Addr} {l : List ByteArray} (h : w.ownsRow b 9 1 (.slice A n c) n (cellsS l)) : SIn w (fun g => b ≤ g) l A := SIn.owned h
set_option maxHeartbeats 2000000 in
theorem names_any (l r : List ByteArray) (A B : Option Addr) (m n c d : Nat) (w : World) (hm : m = l.length) (hn : n = r.length) (hm2 : m ≤ 1000000) (_hn2 : n ≤ 1000000) (hI : SIn w Any l A) (hJ : SIn w Any r B) :
    Calls Tryz.prog 11 #[.slice A m c, .slice B n d] w fun e w' => e = .returned (.bool (decide (l = r))) ∧ Below w.heap.size w w' := by
  have HI := Lib.hid hI
  have HJ := Lib.hid hJ
  have HM := Lib.hid hm
  have HN := Lib.hid hn
  clear hI hJ hm hn
  by_cases hne : m = n
  · have hne2 : ((m : Int) != (n : Int)) = false := by simp [hne]
    have HE := Lib.hid hne
    clear hne
    go_enter Tryz.func11, Tryz.ntmps11
    go_wp2_with fail
    go_loopw [5] (fun x wr => ∃ i : Nat, i ≤ m ∧ x = .int .i64 i ∧ Hid (l.take i = r.take i) ∧ Below w.heap.size w wr) (fun x _ => m - (intOf x).toNat)
    case atStart => exact ⟨0, by omega, rfl, Lib.hid rfl, Below.refl _ w⟩
    case round =>
      obtain ⟨i, hi, rfl, HQ, hbw⟩ := hrel
      have hbs := hbw.size
      by_cases hlt : i < m
      · have hia : i < l.length := by have := HM.out; omega
        have hja : i < r.length := by have := HN.out; have := HE.out; omega
        obtain ⟨g, o, rfl, _, d0⟩ := (HI.out.below hbw (Nat.le_refl _)) i hia
        obtain ⟨g2, o2, rfl, _, e0⟩ := (HJ.out.below hbw (Nat.le_refl _)) i hja
        have hltn : i < n := by have := HE.out; omega
        have HD : Hid (l.take (i + 1) = l.take i ++ [l[i]'hia]) := Lib.hid (List.take_succ_eq_append_getElem hia)
        have HD2 : Hid (r.take (i + 1) = r.take i ++ [r[i]'hja]) := Lib.hid (List.take_succ_eq_append_getElem hja)
        have HDE : Hid (l = r → l[i]'hia = r[i]'hja) := Lib.hid (fun h => by subst h; rfl)
        obtain ⟨x, hx⟩ : ∃ x, x = l[i]'hia := ⟨_, rfl⟩
        obtain ⟨y, hy⟩ : ∃ y, y = r[i]'hja := ⟨_, rfl⟩
        rw [← hx] at d0 HD HDE
        rw [← hy] at e0 HD2 HDE
        clear hx hy
        by_cases hxs : x = y
        · subst hxs
          have h1 : (x.toList == x.toList) = true := BEq.rfl
          have h2 : (x.toList != x.toList) = false := by simp
          go_wp2_with fail
          go_quiet (fail)
          go_wp2_with fail
          go_roundw
          case rel => exact ⟨i + 1, by omega, by go_num, Lib.hid (by rw [HD.out, HD2.out, HQ.out]), below_drewN hbw _⟩
          case measure => simp [intOf]; omega
        · have h1 : (x.toList == y.toList) = false := by rw [ename_q, decide_eq_false hxs]
          have h2 : (x.toList != y.toList) = true := by rw [bne, h1]; rfl
          have HR : Hid (decide (l = r) = false) := Lib.hid (decide_eq_false fun h => hxs (HDE.out h))
          clear hxs
          go_wp2_with fail
          go_quiet (fail)
          go_wp2_with fail
          go_ret
          exact ⟨ret_bool HR.out.symm, below_drewN hbw _⟩
      · go_wp2_with fail
        go_ret
        refine ⟨ret_bool ?_, hbw⟩
        have h1 := HQ.out
        rw [List.take_of_length_le (by have := HM.out; omega), List.take_of_length_le (by have := HN.out; have := HE.out; omega)] at h1
        exact (decide_eq_true h1).symm
  · have hne2 : ((m : Int) != (n : Int)) = true := by simp; omega
    have HE : Hid (decide (l = r) = false) := Lib.hid (decide_eq_false fun h => hne (by rw [HM.out, HN.out, h]))
    clear hne
    go_enter Tryz.func11, Tryz.ntmps11
    go_wp2_with fail
    go_ret
    exact ⟨ret_bool HE.out.symm, Below.refl _ w⟩
set_option maxHeartbeats 2000000 in
theorem arities_any (l r : List (ByteArray × Int)) (A B : Option Addr) (m n c d : Nat) (w : World) (hm : m = l.length) (hn : n = r.length) (hm2 : m ≤ 1000000) (_hn2 : n ≤ 1000000) (hI : AIn w Any l A) (hJ : AIn w Any r B) :
    Calls Tryz.prog 14 #[.slice A m c, .slice B n d] w fun e w' => e = .returned (.bool (decide (l = r))) ∧ Below w.heap.size w w' := by
  have HI := Lib.hid hI
  have HJ := Lib.hid hJ
  have HM := Lib.hid hm
  have HN := Lib.hid hn
  clear hI hJ hm hn
  by_cases hne : m = n
  · have hne2 : ((m : Int) != (n : Int)) = false := by simp [hne]
    have HE := Lib.hid hne
    clear hne
    go_enter Tryz.func14, Tryz.ntmps14
    go_wp2_with fail
    go_loopw [5] (fun x wr => ∃ i : Nat, i ≤ m ∧ x = .int .i64 i ∧ Hid (l.take i = r.take i) ∧ Below w.heap.size w wr) (fun x _ => m - (intOf x).toNat)
    case atStart => exact ⟨0, by omega, rfl, Lib.hid rfl, Below.refl _ w⟩
    case round =>
      obtain ⟨i, hi, rfl, HQ, hbw⟩ := hrel
      have hbs := hbw.size
      by_cases hlt : i < m
      · have hia : i < l.length := by have := HM.out; omega
        have hja : i < r.length := by have := HN.out; have := HE.out; omega
        obtain ⟨g, o, rfl, _, d0, d1⟩ := (HI.out.below hbw (Nat.le_refl _)) i hia
        obtain ⟨g2, o2, rfl, _, e0, e1⟩ := (HJ.out.below hbw (Nat.le_refl _)) i hja
        have hltn : i < n := by have := HE.out; omega
        have HD : Hid (l.take (i + 1) = l.take i ++ [l[i]'hia]) := Lib.hid (List.take_succ_eq_append_getElem hia)
        have HD2 : Hid (r.take (i + 1) = r.take i ++ [r[i]'hja]) := Lib.hid (List.take_succ_eq_append_getElem hja)
        have HDE : Hid (l = r → l[i]'hia = r[i]'hja) := Lib.hid (fun h => by subst h; rfl)
        obtain ⟨⟨x, p⟩, hx⟩ : ∃ x, x = l[i]'hia := ⟨_, rfl⟩
        obtain ⟨⟨y, q⟩, hy⟩ : ∃ y, y = r[i]'hja := ⟨_, rfl⟩
        rw [← hx] at d0 d1 HD HDE
        rw [← hy] at e0 e1 HD2 HDE
        clear hx hy
        simp only at d0 d1 e0 e1
        by_cases hxs : x = y
        · subst hxs
          by_cases hpq : p = q
          · subst hpq
            have h1 : (x.toList == x.toList) = true := BEq.rfl
            go_wp2_with fail
            go_quiet (fail)
            go_wp2_with fail
            go_roundw
            case rel => exact ⟨i + 1, by omega, by go_num, Lib.hid (by rw [HD.out, HD2.out, HQ.out]), below_drewN hbw _⟩
            case measure => simp [intOf]; omega
          · have h1 : (x.toList == x.toList) = true := BEq.rfl
            have h2 : (p == q) = false := by simp [hpq]
            have HR : Hid (decide (l = r) = false) := Lib.hid (decide_eq_false fun h => by have := HDE.out h; simp [hpq] at this)
            clear hpq
            go_wp2_with fail
            go_quiet (fail)
            go_wp2_with fail
            go_ret
            exact ⟨ret_bool HR.out.symm, below_drewN hbw _⟩
        · have h1 : (x.toList == y.toList) = false := by rw [ename_q, decide_eq_false hxs]
          have HR : Hid (decide (l = r) = false) := Lib.hid (decide_eq_false fun h => by have := HDE.out h; simp [hxs] at this)
          clear hxs
          go_wp2_with fail
          go_quiet (fail)
          go_wp2_with fail
          go_ret
          exact ⟨ret_bool HR.out.symm, below_drewN hbw _⟩
      · go_wp2_with fail
        go_ret
        refine ⟨ret_bool ?_, hbw⟩
        have h1 := HQ.out
        rw [List.take_of_length_le (by have := HM.out; omega), List.take_of_length_le (by have := HN.out; have := HE.out; omega)] at h1
        exact (decide_eq_true h1).symm
  · have hne2 : ((m : Int) != (n : Int)) = true := by simp; omega
    have HE : Hid (decide (l = r) = false) := Lib.hid (decide_eq_false fun h => hne (by rw [HM.out, HN.out, h]))
    clear hne
    go_enter Tryz.func14, Tryz.ntmps14
    go_wp2_with fail
    go_ret
    exact ⟨ret_bool HE.out.symm, Below.refl _ w⟩
end Lx
end Go.Proofs.YtobdoahdjbmflaaGreatDoor
namespace Go.Proofs.YtobdoahdjbmflaaGreatDoor
namespace Lx
set_option maxRecDepth 100000
abbrev GR := Except Nat (Tr × Nat)
def kAt (l : List Tok) (i : Nat) : Int := match l[i]? with | some t => t.kind | none => 0
def xAt (l : List Tok) (i : Nat) : List UInt8 := match l[i]? with | some t => if 4 ≤ t.kind then t.text else [] | none => []
def nmAt (l : List Tok) (i : Nat) : ByteArray := match l[i]? with | some t => ⟨t.text.toArray⟩ | none => ⟨#[]⟩
def plAt (l : List Tok) (i : Nat) : Int := match l[i]? with | some t => t.place | none => 0
def nuAt (l : List Tok) (i : Nat) : Int := match l[i]? with | some t => t.n | none => 0
def letS : List UInt8 := [108, 101, 116]
def letrecS : List UInt8 := [108, 101, 116, 114, 101, 99]
def caseS : List UInt8 := [99, 97, 115, 101]
def ofS : List UInt8 := [111, 102]
def inS : List UInt8 := [105, 110]
def signA (l : List Tok) (i : Nat) (lev : Int) : Bool :=
  if lev = 0 then xAt l i == [60] || xAt l i == [61, 61] else if lev = 1 then xAt l i == [43] || xAt l i == [45] else xAt l i == [42] || xAt l i == [47]
def atomicA (l : List Tok) (i : Nat) : Bool := (decide (1 ≤ kAt l i) && decide (kAt l i ≤ 3)) || xAt l i == [40]
/-- The variables of an alternative. -/
def gNames : Nat → List Tok → Nat → List Tr → Except Nat (List Tr × Nat)
  | 0, _, j, _ => .error j
  | f + 1, l, j, acc => if kAt l j = 1 then (if acc.length = 8 then .error j else gNames f l (j + 1) (acc ++ [.node 1 (nmAt l j) 0 (plAt l j) []])) else .ok (acc, j)
mutual
def gExpr : Nat → List Tok → Nat → GR
  | 0, _, i => .error i
  | f + 1, l, i => if xAt l i == [92] then gLam f l i else if xAt l i == letS || xAt l i == letrecS then gLet f l i else if xAt l i == caseS then gMatch f l i else gOps f l i 0
def gLam : Nat → List Tok → Nat → GR
  | 0, _, i => .error i
  | f + 1, l, i => if kAt l (i + 1) ≠ 1 then .error (i + 1) else if xAt l (i + 2) ≠ [46] then .error (i + 2) else
    match gExpr f l (i + 3) with
    | .error j => .error j
    | .ok (b, j) => .ok (.node 2 (nmAt l (i + 1)) 0 (plAt l i) [b], j)
def gLet : Nat → List Tok → Nat → GR
  | 0, _, i => .error i
  | f + 1, l, i => if kAt l (i + 1) ≠ 1 then .error (i + 1) else if xAt l (i + 2) ≠ [61] then .error (i + 2) else
    match gExpr f l (i + 3) with
    | .error j => .error j
    | .ok (a, j) => if xAt l j ≠ inS then .error j else
      match gExpr f l (j + 1) with
      | .error j2 => .error j2
      | .ok (b, j2) => .ok (.node (if nmAt l i = ⟨letrecS.toArray⟩ then 5 else 4) (nmAt l (i + 1)) 0 (plAt l i) [a, b], j2)
def gAlt : Nat → List Tok → Nat → GR
  | 0, _, i => .error i
  | f + 1, l, i => if kAt l i ≠ 2 then .error i else
    match gNames (l.length + 1) l (i + 1) [] with
    | .error j => .error j
    | .ok (vs, j) => if xAt l j ≠ [45, 62] then .error j else
      match gExpr f l (j + 1) with
      | .error j2 => .error j2
      | .ok (b, j2) => .ok (.node 8 (nmAt l i) vs.length (plAt l i) (vs ++ [b]), j2)
def gMatch : Nat → List Tok → Nat → GR
  | 0, _, i => .error i
  | f + 1, l, i =>
    match gExpr f l (i + 1) with
    | .error j => .error j
    | .ok (a, j) => if xAt l j ≠ ofS then .error j else if xAt l (j + 1) ≠ [123] then .error (j + 1) else gAlts f l i (j + 2) [a]
def gAlts : Nat → List Tok → Nat → Nat → List Tr → GR
  | 0, _, _, j, _ => .error j
  | f + 1, l, i, j, acc =>
    match gAlt f l j with
    | .error j2 => .error j2
    | .ok (b, j2) => if xAt l j2 = [125] then .ok (.node 7 ⟨#[]⟩ 0 (plAt l i) (acc ++ [b]), j2 + 1) else if xAt l j2 ≠ [124] ∨ acc.length = 8 then .error j2 else gAlts f l i (j2 + 1) (acc ++ [b])
def gOps : Nat → List Tok → Nat → Int → GR
  | 0, _, i, _ => .error i
  | f + 1, l, i, lev => if lev = 3 then gApp f l i else
    match gOps f l i (lev + 1) with
    | .error j => .error j
    | .ok (a, j) => gOpsL f l lev 0 a j
def gOpsL : Nat → List Tok → Int → Nat → Tr → Nat → GR
  | 0, _, _, _, _, j => .error j
  | f + 1, l, lev, n, a, j => if signA l j lev = true ∧ (0 < lev ∨ n < 1) then
      match gOps f l (j + 1) (lev + 1) with
      | .error j2 => .error j2
      | .ok (b, j2) => gOpsL f l lev (n + 1) (.node 10 (nmAt l j) 0 a.place [a, b]) j2
    else .ok (a, j)
def gApp : Nat → List Tok → Nat → GR
  | 0, _, i => .error i
  | f + 1, l, i =>
    match gAtom f l i with
    | .error j => .error j
    | .ok (a, j) => gAppL f l (decide (kAt l i = 2)) a j
def gAppL : Nat → List Tok → Bool → Tr → Nat → GR
  | 0, _, _, _, j => .error j
  | f + 1, l, con, a, j => if atomicA l j then (if con = true ∧ a.parts.length = 8 then .error j else
      match gAtom f l j with
      | .error j2 => .error j2
      | .ok (b, j2) => gAppL f l con (if con then .node a.kind a.name a.n a.place (a.parts ++ [b]) else .node 3 ⟨#[]⟩ 0 a.place [a, b]) j2)
    else .ok (a, j)
def gAtom : Nat → List Tok → Nat → GR
  | 0, _, i => .error i
  | f + 1, l, i => if xAt l i == [40] then
      match gExpr f l (i + 1) with
      | .error j => .error j
      | .ok (a, j) => if xAt l j ≠ [41] then .error j else .ok (a, j + 1)
    else if kAt l i = 1 then .ok (.node 1 (nmAt l i) 0 (plAt l i) [], i + 1) else if kAt l i = 2 then .ok (.node 6 (nmAt l i) 0 (plAt l i) [], i + 1)
    else if kAt l i = 3 then .ok (.node 9 ⟨#[]⟩ (nuAt l i) (plAt l i) [], i + 1) else .error i
end
/-- What Parse tells. -/
def parseG (s : List UInt8) (deep : Int) : Except (Int × Int) Tr :=
  if deep < 1 ∨ 200 < deep then .error (0, 1) else if 4096 < s.length then .error (0, 32) else
  match allK s with
  | .error pe => .error pe
  | .ok l => match gExpr (8 * l.length + 8) l 0 with
    | .error j => .error (if j < l.length then plAt l j else s.length, 30)
    | .ok (t, j) => if j < l.length then .error (plAt l j, 30) else if deep < depthT t then .error (0, 31) else .ok t

theorem xAt_lt {l : List Tok} {i : Nat} {s : List UInt8} (h : xAt l i = s) (hs : s ≠ []) : i < l.length := by
  unfold xAt at h
  rcases Nat.lt_or_ge i l.length with hlt | hge
  · exact hlt
  · rw [List.getElem?_eq_none hge] at h
    exact absurd h.symm hs
theorem kAt_lt {l : List Tok} {i : Nat} (h : kAt l i ≠ 0) : i < l.length := by
  unfold kAt at h
  rcases Nat.lt_or_ge i l.length with hlt | hge
  · exact hlt
  · rw [List.getElem?_eq_none hge] at h
    exact absurd rfl h
theorem names_prog : ∀ (f : Nat) (l : List Tok) (j : Nat) (acc vs : List Tr) (j2 : Nat), gNames f l j acc = .ok (vs, j2) → acc.length ≤ 8 → j ≤ j2 ∧ (j ≤ l.length → j2 ≤ l.length) ∧ vs.length ≤ 8
  | 0, l, j, acc, vs, j2, h, _ => by cases h
  | f + 1, l, j, acc, vs, j2, h, ha => by
    rw [gNames] at h
    split at h
    · rename_i hk
      split at h
      · cases h
      · have := names_prog f l (j + 1) _ vs j2 h (by simp; omega)
        have hlt := kAt_lt (l := l) (i := j) (by omega)
        omega
    · cases h
      exact ⟨Nat.le_refl _, id, ha⟩
/-- Readings go on, and end at the end at the latest. -/
def Prog (l : List Tok) (i : Nat) (r : GR) : Prop := ∀ t j, r = .ok (t, j) → i < j ∧ j ≤ l.length
theorem Prog.err (l : List Tok) (i j : Nat) : Prog l i (.error j) := fun _ _ h => by cases h
structure ProgAll (f : Nat) : Prop where
  expr : ∀ l i, Prog l i (gExpr f l i)
  lam : ∀ l i, Prog l i (gLam f l i)
  let_ : ∀ l i, Prog l i (gLet f l i)
  alt : ∀ l i, Prog l i (gAlt f l i)
  match_ : ∀ l i, Prog l i (gMatch f l i)
  alts : ∀ l i j acc, Prog l j (gAlts f l i j acc)
  ops : ∀ l i lev, Prog l i (gOps f l i lev)
  opsL : ∀ l lev n a i j, i < j → j ≤ l.length → Prog l i (gOpsL f l lev n a j)
  app : ∀ l i, Prog l i (gApp f l i)
  appL : ∀ l con a i j, i < j → j ≤ l.length → Prog l i (gAppL f l con a j)
  atom : ∀ l i, Prog l i (gAtom f l i)
theorem Prog.next {l : List Tok} {i k : Nat} {r : GR} (h : Prog l k r) (hk : i ≤ k) : Prog l i r := fun t j e => by
  have := h t j e
  omega
theorem prog_all : ∀ f, ProgAll f
  | 0 => by
    refine ⟨?_, ?_, ?_, ?_, ?_, ?_, ?_, ?_, ?_, ?_, ?_⟩
    all_goals
      intros
      intro t j h
      first
        | (rw [gExpr] at h; cases h)
        | (rw [gLam] at h; cases h)
        | (rw [gLet] at h; cases h)
        | (rw [gAlt] at h; cases h)
        | (rw [gMatch] at h; cases h)
        | (rw [gAlts] at h; cases h)
        | (rw [gOps] at h; cases h)
        | (rw [gOpsL] at h; cases h)
        | (rw [gApp] at h; cases h)
        | (rw [gAppL] at h; cases h)
        | (rw [gAtom] at h; cases h)
  | f + 1 => by
    have ih := prog_all f
    refine ⟨?_, ?_, ?_, ?_, ?_, ?_, ?_, ?_, ?_, ?_, ?_⟩
    · intro l i
      rw [gExpr]
      split
      · exact ih.lam l i
      · split
        · exact ih.let_ l i
        · split
          · exact ih.match_ l i
          · exact ih.ops l i 0
    · intro l i t j h
      rw [gLam] at h
      split at h
      · cases h
      · split at h
        · cases h
        · split at h
          · cases h
          · rename_i b j' hb
            have := ih.expr l (i + 3) b j' hb
            cases h
            omega
    · intro l i t j h
      rw [gLet] at h
      split at h
      · cases h
      · split at h
        · cases h
        · split at h
          · cases h
          · rename_i a j1 ha
            have h1 := ih.expr l (i + 3) a j1 ha
            split at h
            · cases h
            · split at h
              · cases h
              · rename_i b j2 hb
                have := ih.expr l (j1 + 1) b j2 hb
                cases h
                omega
    · intro l i t j h
      rw [gAlt] at h
      split at h
      · cases h
      · split at h
        · cases h
        · rename_i vs j1 hv
          have h1 := names_prog _ _ _ _ _ _ hv (by simp)
          split at h
          · cases h
          · split at h
            · cases h
            · rename_i b j2 hb
              have := ih.expr l (j1 + 1) b j2 hb
              cases h
              omega
    · intro l i t j h
      rw [gMatch] at h
      split at h
      · cases h
      · rename_i a j1 ha
        have h1 := ih.expr l (i + 1) a j1 ha
        split at h
        · cases h
        · split at h
          · cases h
          · have := ih.alts l i (j1 + 2) [a] t j h
            omega
    · intro l i j acc t j9 h
      rw [gAlts] at h
      split at h
      · cases h
      · rename_i b j2 hb
        have h1 := ih.alt l j b j2 hb
        split at h
        · rename_i hx
          have := xAt_lt hx (by simp)
          cases h
          omega
        · split at h
          · cases h
          · have := ih.alts l i (j2 + 1) (acc ++ [b]) t j9 h
            omega
    · intro l i lev t j h
      rw [gOps] at h
      split at h
      · exact ih.app l i t j h
      · split at h
        · cases h
        · rename_i a j1 ha
          have h1 := ih.ops l i (lev + 1) a j1 ha
          exact ih.opsL l lev 0 a i j1 h1.1 h1.2 t j h
    · intro l lev n a i j hij hj t j9 h
      rw [gOpsL] at h
      split at h
      · split at h
        · cases h
        · rename_i b j2 hb
          have h1 := ih.ops l (j + 1) (lev + 1) b j2 hb
          exact ih.opsL l lev (n + 1) _ i j2 (by omega) h1.2 t j9 h
      · cases h
        exact ⟨hij, hj⟩
    · intro l i t j h
      rw [gApp] at h
      split at h
      · cases h
      · rename_i a j1 ha
        have h1 := ih.atom l i a j1 ha
        exact ih.appL l _ a i j1 h1.1 h1.2 t j h
    · intro l con a i j hij hj t j9 h
      rw [gAppL] at h
      split at h
      · split at h
        · cases h
        · split at h
          · cases h
          · rename_i b j2 hb
            have h1 := ih.atom l j b j2 hb
            exact ih.appL l con _ i j2 (by omega) h1.2 t j9 h
      · cases h
        exact ⟨hij, hj⟩
    · intro l i t j h
      rw [gAtom] at h
      split at h
      · split at h
        · cases h
        · rename_i a j1 ha
          have h1 := ih.expr l (i + 1) a j1 ha
          split at h
          · cases h
          · rename_i hx
            have := xAt_lt (Classical.byContradiction fun e => hx e) (by simp)
            cases h
            omega
      · split at h
        · rename_i hk
          have := kAt_lt (l := l) (i := i) (by omega)
          cases h
          omega
        · split at h
          · rename_i hk
            have := kAt_lt (l := l) (i := i) (by omega)
            cases h
            omega
          · split at h
            · rename_i hk
              have := kAt_lt (l := l) (i := i) (by omega)
              cases h
              omega
            · cases h
end Lx
end Go.Proofs.YtobdoahdjbmflaaGreatDoor
namespace Go.Proofs.YtobdoahdjbmflaaGreatDoor
namespace Lx
set_option maxRecDepth 100000
/-- \x. y -/
def t5a : Tr := .node 2 ⟨#[120]⟩ 0 0 [(.node 1 ⟨#[121]⟩ 0 4 [])]
theorem r5a : parseG [92, 120, 46, 32, 121] 99 = .ok t5a := by kernel_rfl
/-- \x. A x (A x) -/
def t5b : Tr := .node 2 ⟨#[120]⟩ 0 0 [(.node 6 ⟨#[65]⟩ 0 4 [(.node 1 ⟨#[120]⟩ 0 6 []), (.node 6 ⟨#[65]⟩ 0 9 [(.node 1 ⟨#[120]⟩ 0 11 [])])])]
theorem r5b : parseG [92, 120, 46, 32, 65, 32, 120, 32, 40, 65, 32, 120, 41] 99 = .ok t5b := by kernel_rfl
/-- case 1 of { A x x -> 1 } -/
def t5c : Tr := .node 7 ⟨#[]⟩ 0 0 [(.node 9 ⟨#[]⟩ 1 5 []), (.node 8 ⟨#[65]⟩ 2 12 [(.node 1 ⟨#[120]⟩ 0 14 []), (.node 1 ⟨#[120]⟩ 0 16 []), (.node 9 ⟨#[]⟩ 1 21 [])])]
theorem r5c : parseG [99, 97, 115, 101, 32, 49, 32, 111, 102, 32, 123, 32, 65, 32, 120, 32, 120, 32, 45, 62, 32, 49, 32, 125] 99 = .ok t5c := by kernel_rfl
/-- case 1 of { A -> 1 | A -> 2 } -/
def t5d : Tr := .node 7 ⟨#[]⟩ 0 0 [(.node 9 ⟨#[]⟩ 1 5 []), (.node 8 ⟨#[65]⟩ 0 12 [(.node 9 ⟨#[]⟩ 1 17 [])]), (.node 8 ⟨#[65]⟩ 0 21 [(.node 9 ⟨#[]⟩ 2 26 [])])]
theorem r5d : parseG [99, 97, 115, 101, 32, 49, 32, 111, 102, 32, 123, 32, 65, 32, 45, 62, 32, 49, 32, 124, 32, 65, 32, 45, 62, 32, 50, 32, 125] 99 = .ok t5d := by kernel_rfl
/-- True 1 -/
def t5e : Tr := .node 6 ⟨#[84, 114, 117, 101]⟩ 0 0 [(.node 9 ⟨#[]⟩ 1 5 [])]
theorem r5e : parseG [84, 114, 117, 101, 32, 49] 99 = .ok t5e := by kernel_rfl
/-- letrec f = f in let x = f in \y. case x of { C z -> z y } -/
def t5f : Tr := .node 5 ⟨#[102]⟩ 0 0 [(.node 1 ⟨#[102]⟩ 0 11 []), (.node 4 ⟨#[120]⟩ 0 16 [(.node 1 ⟨#[102]⟩ 0 24 []), (.node 2 ⟨#[121]⟩ 0 29 [(.node 7 ⟨#[]⟩ 0 33 [(.node 1 ⟨#[120]⟩ 0 38 []), (.node 8 ⟨#[67]⟩ 1 45 [(.node 1 ⟨#[122]⟩ 0 47 []), (.node 3 ⟨#[]⟩ 0 52 [(.node 1 ⟨#[122]⟩ 0 52 []), (.node 1 ⟨#[121]⟩ 0 54 [])])])])])])]
theorem r5f : parseG [108, 101, 116, 114, 101, 99, 32, 102, 32, 61, 32, 102, 32, 105, 110, 32, 108, 101, 116, 32, 120, 32, 61, 32, 102, 32, 105, 110, 32, 92, 121, 46, 32, 99, 97, 115, 101, 32, 120, 32, 111, 102, 32, 123, 32, 67, 32, 122, 32, 45, 62, 32, 122, 32, 121, 32, 125] 99 = .ok t5f := by kernel_rfl
/-- f (\x. x g) (B f h) -/
def t5g : Tr := .node 3 ⟨#[]⟩ 0 0 [(.node 3 ⟨#[]⟩ 0 0 [(.node 1 ⟨#[102]⟩ 0 0 []), (.node 2 ⟨#[120]⟩ 0 3 [(.node 3 ⟨#[]⟩ 0 7 [(.node 1 ⟨#[120]⟩ 0 7 []), (.node 1 ⟨#[103]⟩ 0 9 [])])])]), (.node 6 ⟨#[66]⟩ 0 13 [(.node 1 ⟨#[102]⟩ 0 15 []), (.node 1 ⟨#[104]⟩ 0 17 [])])]
theorem r5g : parseG [102, 32, 40, 92, 120, 46, 32, 120, 32, 103, 41, 32, 40, 66, 32, 102, 32, 104, 41] 99 = .ok t5g := by kernel_rfl
end Lx
end Go.Proofs.YtobdoahdjbmflaaGreatDoor
namespace Go.Proofs.YtobdoahdjbmflaaGreatDoor
open Go.RowKit
namespace Lx
set_option maxRecDepth 100000
theorem text_mk (l : List UInt8) : (⟨l.toArray⟩ : ByteArray).toList = l := ByteArray.toList_mk l
theorem kAt_of {l : List Tok} {i : Nat} (h : i < l.length) : kAt l i = (l[i]'h).kind := by unfold kAt; rw [List.getElem?_eq_getElem h]
theorem kAt_no {l : List Tok} {i : Nat} (h : ¬ i < l.length) : kAt l i = 0 := by unfold kAt; rw [List.getElem?_eq_none (by omega)]
theorem xAt_of {l : List Tok} {i : Nat} (h : i < l.length) : xAt l i = if 4 ≤ (l[i]'h).kind then (l[i]'h).text else [] := by unfold xAt; rw [List.getElem?_eq_getElem h]
theorem xAt_no {l : List Tok} {i : Nat} (h : ¬ i < l.length) : xAt l i = [] := by unfold xAt; rw [List.getElem?_eq_none (by omega)]
/-- Token i, in memory. -/
theorem Row.get {w : World} {A : Option Addr} {l : List Tok} (h : Row w A l) {i : Nat} (hi : i < l.length) :
    ∃ g o, A = some ⟨g, o, none⟩ ∧ w.cell? ⟨g, o + i * 4, none⟩ = some (.int .i64 (kAt l i)) ∧ w.cell? ⟨g, o + i * 4 + 1, none⟩ = some (.string (nmAt l i)) ∧ w.cell? ⟨g, o + i * 4 + 2, none⟩ = some (.int .i64 (nuAt l i)) ∧ w.cell? ⟨g, o + i * 4 + 3, none⟩ = some (.int .i64 (plAt l i)) := by
  obtain ⟨g, o, hA, c0, c1, c2, c3⟩ := h.at_ hi
  refine ⟨g, o, hA, ?_, ?_, ?_, ?_⟩
  · rw [kAt_of hi]; exact c0
  · unfold nmAt; rw [List.getElem?_eq_getElem hi]; exact c1
  · unfold nuAt; rw [List.getElem?_eq_getElem hi]; exact c2
  · unfold plAt; rw [List.getElem?_eq_getElem hi]; exact c3
theorem xAt_get {l : List Tok} {i : Nat} (h : i < l.length) : xAt l i = if 4 ≤ kAt l i then (nmAt l i).toList else [] := by
  rw [xAt_of h, kAt_of h]
  unfold nmAt
  rw [List.getElem?_eq_getElem h, text_mk]
set_option maxHeartbeats 1000000 in
theorem gkind_any (l : List Tok) (A : Option Addr) (n c i : Nat) (w : World) (hn : n = l.length) (_hi : i ≤ 70000) (_hn6 : n ≤ 60000) (hR : Row w A l) :
    Calls Tryz.prog 87 #[.slice A n c, .int .i64 i] w fun e w' => e = .returned (.int .i64 (kAt l i)) ∧ w = w' := by
  by_cases hlt : i < n
  · obtain ⟨g, o, rfl, c0, c1, c2, c3⟩ := hR.get (i := i) (by omega)
    clear hR hn
    obtain ⟨K, hK⟩ : ∃ K, K = kAt l i := ⟨_, rfl⟩
    rw [← hK] at c0 ⊢
    clear hK c1 c2 c3
    go_enter Tryz.func87, Tryz.ntmps87
    go_wp2_with fail
    go_ret
    exact ⟨rfl, rfl⟩
  · have HE := Lib.hid (kAt_no (l := l) (i := i) (by omega))
    clear hR hn
    go_enter Tryz.func87, Tryz.ntmps87
    go_wp2_with fail
    go_ret
    exact ⟨ret_int HE.out.symm, rfl⟩
theorem ret_str {a b : ByteArray} (h : a = b) : Ending.returned (.string a) = .returned (.string b) := by rw [h]
theorem bytes_ext {a b : ByteArray} (h : a.toList = b.toList) : a = b := by
  rw [data_list, data_list] at h
  obtain ⟨⟨a⟩⟩ := a
  obtain ⟨⟨b⟩⟩ := b
  simp at h
  rw [h]
set_option maxHeartbeats 1000000 in
theorem gtext_any (l : List Tok) (A : Option Addr) (n c i : Nat) (w : World) (hn : n = l.length) (_hi : i ≤ 70000) (_hn6 : n ≤ 60000) (hR : Row w A l) :
    Calls Tryz.prog 58 #[.slice A n c, .int .i64 i] w fun e w' => e = .returned (.string ⟨(xAt l i).toArray⟩) ∧ w = w' := by
  by_cases hlt : i < n
  · obtain ⟨g, o, rfl, c0, c1, c2, c3⟩ := hR.get (i := i) (by omega)
    have hx := xAt_get (l := l) (i := i) (by omega)
    clear hR hn
    obtain ⟨K, hK⟩ : ∃ K, K = kAt l i := ⟨_, rfl⟩
    obtain ⟨S, hS⟩ : ∃ S, S = nmAt l i := ⟨_, rfl⟩
    rw [← hK] at c0 hx
    rw [← hS] at c1 hx
    clear hK hS c2 c3
    by_cases h4 : 4 ≤ K
    · rw [if_pos h4] at hx
      have HX := Lib.hid hx
      clear hx
      go_enter Tryz.func58, Tryz.ntmps58
      go_wp2_with fail
      go_ret
      exact ⟨ret_str (bytes_ext (HX.out.symm.trans (text_mk _).symm)), rfl⟩
    · rw [if_neg h4] at hx
      have HX := Lib.hid hx
      have h4' : ¬ 4 ≤ K := h4
      clear hx h4
      go_enter Tryz.func58, Tryz.ntmps58
      go_wp2_with fail
      go_ret
      exact ⟨ret_str (by rw [HX.out]), rfl⟩
  · have HE := Lib.hid (xAt_no (l := l) (i := i) (by omega))
    clear hR hn
    go_enter Tryz.func58, Tryz.ntmps58
    go_wp2_with fail
    go_ret
    exact ⟨ret_str (by rw [HE.out]), rfl⟩
/-- What a reading answers, as a value. -/
def gv (t : Tr) (A : Option Addr) (c j : Nat) (ok : Bool) : Value := .agg #[.int .i64 t.kind, .string t.name, .int .i64 t.n, .int .i64 t.place, .slice A t.parts.length (capF t.parts.length c), .int .i64 j, .bool ok]
def noTr : Tr := .node 0 ⟨#[]⟩ 0 0 []
def GPost (w : World) (r : GR) (e : Ending) (w' : World) : Prop :=
  Below w.heap.size w w' ∧ (∀ j, r = .error j → e = .returned (gv noTr none 0 j false)) ∧ (∀ t j, r = .ok (t, j) → ∃ A c, e = .returned (gv t A c j true) ∧ TIn w' (fun g => w.heap.size ≤ g) t A)
abbrev zero7 : Array Value := #[.int .i64 0, .string ⟨#[]⟩, .int .i64 0, .int .i64 0, .slice none 0 0, .int .i64 0, .bool false]
theorem res_got {fn : Func} {p : Tmp} (h : fn.results = #[.cell p 68]) {tmps : Array Value} {g : Nat} {a b c d e x y : Value} {w : World} (hp : tmps.getD p undef = .pointer (some ⟨g, 0, none⟩)) (L : Lies w g 68 #[a, b, c, d, e, x, y]) :
    (results fn tmps).run Tryz.prog w = .ok (.agg #[a, b, c, d, e, x, y]) w := by
  have hl := run_loadVar_row (P := Tryz.prog) w g 68 68 #[a, b, c, d, e, x, y] (0, 0) _ L Tryz.underlying68 rfl (by kernel_rfl)
  have hp' : tmps[p]?.getD undef = .pointer (some ⟨g, 0, none⟩) := by simpa using hp
  simp only [results, h]
  simp [hp', asAddr, hl]
theorem Lies.seven {w : World} {g : Nat} {t : TypeId} {a b c d e x y : Value} (h : Lies w g t #[a, b, c, d, e, x, y]) :
    (w.cell? ⟨g, 0, none⟩ = some a ∧ w.cell? ⟨g, 1, none⟩ = some b ∧ w.cell? ⟨g, 2, none⟩ = some c ∧ w.cell? ⟨g, 3, none⟩ = some d ∧ w.cell? ⟨g, 4, none⟩ = some e ∧ w.cell? ⟨g, 5, none⟩ = some x ∧ w.cell? ⟨g, 6, none⟩ = some y) ∧
    w.frozen? ⟨g, 0, none⟩ = false ∧ w.frozen? ⟨g, 1, none⟩ = false ∧ w.frozen? ⟨g, 2, none⟩ = false ∧ w.frozen? ⟨g, 3, none⟩ = false ∧ w.frozen? ⟨g, 4, none⟩ = false ∧ w.frozen? ⟨g, 5, none⟩ = false ∧ w.frozen? ⟨g, 6, none⟩ = false :=
  ⟨⟨h.cell 0, h.cell 1, h.cell 2, h.cell 3, h.cell 4, h.cell 5, h.cell 6⟩, h.frozen 0, h.frozen 1, h.frozen 2, h.frozen 3, h.frozen 4, h.frozen 5, h.frozen 6⟩
/-- Seven stores into a block of the call's own. -/
abbrev put7 (w : World) (g : Nat) (a b c d e x y : Value) : World := (((((((w.setCell ⟨g, 0, none⟩ a).setCell ⟨g, 1, none⟩ b).setCell ⟨g, 2, none⟩ c).setCell ⟨g, 3, none⟩ d).setCell ⟨g, 4, none⟩ e).setCell ⟨g, 5, none⟩ x).setCell ⟨g, 6, none⟩ y)
theorem Lies.all7 {w : World} {g : Nat} {t : TypeId} {a b c d e x y : Value} (h : Lies w g t #[a, b, c, d, e, x, y]) (a' b' c' d' e' x' y' : Value) : Lies (put7 w g a' b' c' d' e' x' y') g t #[a', b', c', d', e', x', y'] := by
  simpa using ((((((h.put 0 a').put 1 b').put 2 c').put 3 d').put 4 e').put 5 x').put 6 y'
theorem Below.all7 {B : Nat} {a w : World} (h : Below B a w) {g : Nat} (hg : B ≤ g) (a' b' c' d' e' x' y' : Value) : Below B a (put7 w g a' b' c' d' e' x' y') :=
  ((((((h.setCell (p := ⟨g, 0, none⟩) hg a').setCell (p := ⟨g, 1, none⟩) hg b').setCell (p := ⟨g, 2, none⟩) hg c').setCell (p := ⟨g, 3, none⟩) hg d').setCell (p := ⟨g, 4, none⟩) hg e').setCell (p := ⟨g, 5, none⟩) hg x').setCell (p := ⟨g, 6, none⟩) hg y'
theorem TIn.all7 (t : Tr) {w : World} {X : Nat → Prop} {A : Option Addr} (h : TIn w X t A) {g : Nat} (hg : ¬ X g) (a' b' c' d' e' x' y' : Value) : TIn (put7 w g a' b' c' d' e' x' y') X t A :=
  TIn.setCell _ (TIn.setCell _ (TIn.setCell _ (TIn.setCell _ (TIn.setCell _ (TIn.setCell _ (TIn.setCell _ h ⟨g, 0, none⟩ a' hg) ⟨g, 1, none⟩ b' hg) ⟨g, 2, none⟩ c' hg) ⟨g, 3, none⟩ d' hg) ⟨g, 4, none⟩ e' hg) ⟨g, 5, none⟩ x' hg) ⟨g, 6, none⟩ y' hg
set_option maxHeartbeats 1000000 in
theorem gno_any (j : Nat) (w : World) : Calls Tryz.prog 88 #[.int .i64 j] w fun e w' => e = .returned (gv noTr none 0 j false) ∧ Below w.heap.size w w' := by
  go_enter Tryz.func88, Tryz.ntmps88
  go_wp2_with fail
  exact bodyPost_ret (res_got (p := 2) Tryz.results88 rfl (Lies.new w _ _)) rfl ⟨rfl, (Below.refl _ w).alloc (Nat.le_refl _) _⟩
set_option maxHeartbeats 1000000 in
theorem gyes_any (k n a : Int) (s : ByteArray) (A : Option Addr) (m c j : Nat) (w : World) : Calls Tryz.prog 89 #[.agg #[.int .i64 k, .string s, .int .i64 n, .int .i64 a, .slice A m c], .int .i64 j] w
    fun e w' => e = .returned (.agg #[.int .i64 k, .string s, .int .i64 n, .int .i64 a, .slice A m c, .int .i64 j, .bool true]) ∧ Below w.heap.size w w' := by
  go_enter Tryz.func89, Tryz.ntmps89
  go_wp2_with fail
  have L := Lies.new (w.alloc (.cells #[.int .i64 k, .string s, .int .i64 n, .int .i64 a, .slice A m c] 24)) 68 #[.int .i64 k, .string s, .int .i64 n, .int .i64 a, .slice A m c, .int .i64 j, .bool true]
  rw [show (w.alloc (.cells #[.int .i64 k, .string s, .int .i64 n, .int .i64 a, .slice A m c] 24)).heap.size = w.heap.size + 1 from by simp] at L
  exact bodyPost_ret (res_got (p := 4) Tryz.results89 rfl L) rfl ⟨rfl, ((Below.refl _ w).alloc (Nat.le_refl _) _).alloc (by simp) _⟩
theorem bytes_eq (l m : List UInt8) : ((⟨l.toArray⟩ : ByteArray).toList == (⟨m.toArray⟩ : ByteArray).toList) = (l == m) := by rw [text_mk, text_mk]
set_option maxHeartbeats 2000000 in
theorem gatomic_any (l : List Tok) (A : Option Addr) (n c i : Nat) (w : World) (hn : n = l.length) (hi : i ≤ 70000) (hn6 : n ≤ 60000) (hR : Row w A l) :
    Calls Tryz.prog 102 #[.slice A n c, .int .i64 i] w fun e w' => e = .returned (.bool (atomicA l i)) ∧ w = w' := by
  have HK := Lib.hid (gkind_any l A n c i w hn hi hn6 hR)
  have HT := Lib.hid (gtext_any l A n c i w hn hi hn6 hR)
  have HE : Hid (atomicA l i = ((decide (1 ≤ kAt l i) && decide (kAt l i ≤ 3)) || xAt l i == [40])) := by exact rfl
  obtain ⟨K, hK⟩ : ∃ K, K = kAt l i := ⟨_, rfl⟩
  obtain ⟨X, hX⟩ : ∃ X, X = xAt l i := ⟨_, rfl⟩
  rw [← hK] at HK HE
  rw [← hX] at HT HE
  have HX2 := Lib.hid (text_mk X)
  clear hK hX hR hn
  by_cases h1 : 1 ≤ K
  · by_cases h3 : K ≤ 3
    · go_enter Tryz.func102, Tryz.ntmps102
      go_wp2_with fail
      refine HK.out.mono ?_
      rintro e w' ⟨rfl, rfl⟩
      go_wp2_with fail
      go_ret
      exact ⟨ret_bool (by rw [HE.out, decide_eq_true (by omega : 1 ≤ K), decide_eq_true (by omega : K ≤ 3)]; rfl), rfl⟩
    · have h3' : ¬ K ≤ 3 := h3
      by_cases hx : X = [40]
      · subst hx
        go_enter Tryz.func102, Tryz.ntmps102
        go_wp2_with fail
        refine HK.out.mono ?_
        rintro e w' ⟨rfl, rfl⟩
        go_wp2_with fail
        refine HT.out.mono ?_
        rintro e w' ⟨rfl, rfl⟩
        go_wp2_with fail
        go_ret
        exact ⟨ret_bool (by rw [HE.out]; exact (Bool.or_true _).symm), rfl⟩
      · have hx2 : ¬ [40] = X := fun e => hx e.symm
        have hx3 : ¬ (⟨X.toArray⟩ : ByteArray).toList = [40] := by rw [text_mk]; exact hx
        go_enter Tryz.func102, Tryz.ntmps102
        go_wp2_with fail
        refine HK.out.mono ?_
        rintro e w' ⟨rfl, rfl⟩
        go_wp2_with fail
        refine HT.out.mono ?_
        rintro e w' ⟨rfl, rfl⟩
        go_wp2_with fail
        go_ret
        exact ⟨ret_bool (by rw [HE.out, decide_eq_false (by omega : ¬ K ≤ 3), Bool.and_false]), rfl⟩
  · have h1' : ¬ 1 ≤ K := h1
    by_cases hx : X = [40]
    · subst hx
      go_enter Tryz.func102, Tryz.ntmps102
      go_wp2_with fail
      refine HK.out.mono ?_
      rintro e w' ⟨rfl, rfl⟩
      go_wp2_with fail
      refine HT.out.mono ?_
      rintro e w' ⟨rfl, rfl⟩
      go_wp2_with fail
      go_ret
      exact ⟨ret_bool (by rw [HE.out]; exact (Bool.or_true _).symm), rfl⟩
    · have hx2 : ¬ [40] = X := fun e => hx e.symm
      have hx3 : ¬ (⟨X.toArray⟩ : ByteArray).toList = [40] := by rw [text_mk]; exact hx
      go_enter Tryz.func102, Tryz.ntmps102
      go_wp2_with fail
      refine HK.out.mono ?_
      rintro e w' ⟨rfl, rfl⟩
      go_wp2_with fail
      refine HT.out.mono ?_
      rintro e w' ⟨rfl, rfl⟩
      go_wp2_with fail
      go_ret
      exact ⟨ret_bool (by rw [HE.out, decide_eq_false (by omega : ¬ 1 ≤ K), Bool.false_and, Bool.false_or]), rfl⟩
theorem gkind_at (l : List Tok) (A : Option Addr) (n c i : Nat) (x : Int) (w : World) (hx : x = (i : Int)) (hn : n = l.length) (hi : i ≤ 70000) (hn6 : n ≤ 60000) (hR : Row w A l) :
    Calls Tryz.prog 87 #[.slice A n c, .int .i64 x] w fun e w' => e = .returned (.int .i64 (kAt l i)) ∧ w = w' := by
  subst hx; exact gkind_any l A n c i w hn hi hn6 hR
theorem gtext_at (l : List Tok) (A : Option Addr) (n c i : Nat) (x : Int) (w : World) (hx : x = (i : Int)) (hn : n = l.length) (hi : i ≤ 70000) (hn6 : n ≤ 60000) (hR : Row w A l) :
    Calls Tryz.prog 58 #[.slice A n c, .int .i64 x] w fun e w' => e = .returned (.string ⟨(xAt l i).toArray⟩) ∧ w = w' := by
  subst hx; exact gtext_any l A n c i w hn hi hn6 hR
theorem gno_at (j : Nat) (x : Int) (w : World) (hx : x = (j : Int)) : Calls Tryz.prog 88 #[.int .i64 x] w fun e w' => e = .returned (gv noTr none 0 j false) ∧ Below w.heap.size w w' := by
  subst hx; exact gno_any j w
theorem gyes_at (k n a : Int) (s : ByteArray) (A : Option Addr) (m c j : Nat) (x : Int) (w : World) (hx : x = (j : Int)) : Calls Tryz.prog 89 #[.agg #[.int .i64 k, .string s, .int .i64 n, .int .i64 a, .slice A m c], .int .i64 x] w
    fun e w' => e = .returned (.agg #[.int .i64 k, .string s, .int .i64 n, .int .i64 a, .slice A m c, .int .i64 j, .bool true]) ∧ Below w.heap.size w w' := by
  subst hx; exact gyes_any k n a s A m c j w
/-- What a function of the reference's parser promises, with so much fuel. -/
def GC (F : FuncId) (l : List Tok) (A : Option Addr) (n c rank : Nat) (g : Nat → List Tok → Nat → GR) (f : Nat) : Prop :=
  ∀ (i : Nat) (x : Int) (w : World), x = (i : Int) → i ≤ n + 8 → 8 * (n - i) + rank ≤ f → Row w A l → Calls Tryz.prog F #[.slice A n c, .int .i64 x] w (GPost w (g f l i))
/-- The tokens: as many as there are, not too long. -/
structure GTok (l : List Tok) (n : Nat) : Prop where
  len : n = l.length
  few : n ≤ 60000
  small : ∀ i, (nmAt l i).size ≤ 140737488351232
theorem below_seven {w : World} : Below w.heap.size w (w.alloc (.cells zero7 68)) := (Below.refl _ w).alloc (Nat.le_refl _) _
/-- The end: what was answered is laid into the result's block. -/
theorem gpost_err {w V : World} {j : Nat} {r : GR} (hr : r = .error j) (hb : Below w.heap.size w V) : GPost w r (.returned (gv noTr none 0 j false)) (put7 V w.heap.size (.int .i64 0) (.string ⟨#[]⟩) (.int .i64 0) (.int .i64 0) (.slice none 0 0) (.int .i64 j) (.bool false)) := by
  subst hr
  exact ⟨Below.all7 hb (Nat.le_refl _) _ _ _ _ _ _ _, fun j' h => by cases h; rfl, fun t j' h => by cases h⟩
theorem gpost_ok {w V : World} {t : Tr} {A : Option Addr} {c j : Nat} {r : GR} (hr : r = .ok (t, j)) (hb : Below w.heap.size w V) (hT : TIn V (fun g => w.heap.size + 1 ≤ g) t A) :
    GPost w r (.returned (gv t A c j true)) (put7 V w.heap.size (.int .i64 t.kind) (.string t.name) (.int .i64 t.n) (.int .i64 t.place) (.slice A t.parts.length (capF t.parts.length c)) (.int .i64 j) (.bool true)) := by
  subst hr
  refine ⟨Below.all7 hb (Nat.le_refl _) _ _ _ _ _ _ _, fun j' h => (by cases h), fun t' j' h => ?_⟩
  cases h
  refine ⟨A, c, rfl, ?_⟩
  exact TIn.wide _ (TIn.all7 _ hT (g := w.heap.size) (by omega) _ _ _ _ _ _ _) (fun g h _ => by omega)
end Lx
end Go.Proofs.YtobdoahdjbmflaaGreatDoor
namespace Go.Proofs.YtobdoahdjbmflaaGreatDoor
open Go.RowKit
namespace Lx
set_option maxRecDepth 100000
theorem GPost.with_ {w V V' : World} {r : GR} {e : Ending} (h : GPost V r e V') (hb : Below w.heap.size w V) : GPost w r e V' :=
  ⟨hb.trans (h.1.mono hb.size), h.2.1, fun t j hr => by
    obtain ⟨A, c, he, hT⟩ := h.2.2 t j hr
    exact ⟨A, c, he, TIn.wide _ hT (fun g hg _ => Nat.le_trans hb.size hg)⟩⟩
theorem GPost.split {w V : World} {r : GR} {e : Ending} (h : GPost w r e V) :
    (∃ j, r = .error j ∧ e = .returned (.agg #[.int .i64 0, .string ⟨#[]⟩, .int .i64 0, .int .i64 0, .slice none 0 0, .int .i64 j, .bool false])) ∨
    (∃ t j A c, r = .ok (t, j) ∧ e = .returned (.agg #[.int .i64 t.kind, .string t.name, .int .i64 t.n, .int .i64 t.place, .slice A t.parts.length (capF t.parts.length c), .int .i64 j, .bool true]) ∧ TIn V (fun g => w.heap.size ≤ g) t A) := by
  rcases hr : r with j | ⟨t, j⟩
  · exact .inl ⟨j, rfl, h.2.1 j hr⟩
  · obtain ⟨A, c, he, hT⟩ := h.2.2 t j hr
    exact .inr ⟨t, j, A, c, rfl, he, hT⟩
/-- What ops promises at a level. -/
def GCO (l : List Tok) (A : Option Addr) (n c f : Nat) (lev : Nat) : Prop :=
  ∀ (i : Nat) (x y : Int) (w : World), x = (i : Int) → y = (lev : Int) → i ≤ n + 8 → 8 * (n - i) + (6 - lev) ≤ f → Row w A l → Calls Tryz.prog 62 #[.slice A n c, .int .i64 x, .int .i64 y] w (GPost w (gOps f l i lev))
theorem bytes_ne {l m : List UInt8} (h : ¬ l = m) : ¬ (⟨l.toArray⟩ : ByteArray).toList = m := by rw [text_mk]; exact h
theorem Row.at_new {w : World} {A : Option Addr} {l : List Tok} (h : Row w A l) {V : World} (hb : Below w.heap.size w V) : Row V A l := h.below (B := w.heap.size) hb (Nat.le_refl _)
set_option maxHeartbeats 4000000 in
theorem gexpr_any {l : List Tok} {A : Option Addr} {n c f : Nat} (T : GTok l n) (HL : GC 59 l A n c 6 gLam f) (HT : GC 60 l A n c 6 gLet f) (HM : ∀ (i : Nat) (x : Int) (w : World), x = (i : Int) → i < n → 8 * (n - i) + 6 ≤ f → Row w A l → Calls Tryz.prog 61 #[.slice A n c, .int .i64 x] w (GPost w (gMatch f l i))) (HO : GCO l A n c f 0) :
    GC 37 l A n c 7 gExpr (f + 1) := by
  intro i x w hx hi hf hR
  subst hx
  have h6 := T.few
  have hb0 := below_seven (w := w)
  have hR1 := hR.at_new hb0
  have HX := Lib.hid (gtext_any l A n c i (w.alloc (.cells zero7 68)) T.len (by omega) h6 hR1)
  obtain ⟨X, hX⟩ : ∃ X, X = xAt l i := ⟨_, rfl⟩
  have HX2 := Lib.hid (text_mk X)
  rw [← hX] at HX
  by_cases h1 : X = [92]
  · have HC1 := Lib.hid (HL i i (w.alloc (.cells zero7 68)) rfl hi (by omega) hR1)
    subst h1
    have HE : Hid (gExpr (f + 1) l i = gLam f l i) := by
      refine Lib.hid ?_
      rw [gExpr]
      rw [← hX]; rfl
    clear T
    obtain ⟨r, hr⟩ : ∃ r, r = gLam f l i := ⟨_, rfl⟩
    rw [← hr] at HE HC1
    clear hr hX
    go_enter Tryz.func37, Tryz.ntmps37
    go_wp2_with fail
    refine HX.out.mono ?_
    rintro e w' ⟨rfl, rfl⟩
    go_wp2_with fail
    refine HC1.out.mono ?_
    intro e V hG
    have hb := hb0.trans (hG.1.mono hb0.size)
    have L := (Lies.new w 68 zero7).below hG.1 (by simp)
    rcases hG.split with ⟨j, hr, rfl⟩ | ⟨t, j, A2, c2, hr, rfl, hT⟩
    · have q := L.seven
      go_wp2_with fail
      exact bodyPost_ret (res_got (p := 4) Tryz.results37 rfl (Lies.all7 L _ _ _ _ _ _ _)) rfl (gpost_err (HE.out.trans hr) hb)
    · have q := L.seven
      go_wp2_with fail
      exact bodyPost_ret (res_got (p := 4) Tryz.results37 rfl (Lies.all7 L _ _ _ _ _ _ _)) rfl (gpost_ok (HE.out.trans hr) hb (TIn.wide _ hT (fun g hg _ => by simpa using hg)))
  by_cases h2 : X = [108, 101, 116]
  · have HC2 := Lib.hid (HT i i (w.alloc (.cells zero7 68)) rfl hi (by omega) hR1)
    subst h2
    have HE : Hid (gExpr (f + 1) l i = gLet f l i) := by
      refine Lib.hid ?_
      rw [gExpr]
      rw [← hX]; rfl
    clear T
    obtain ⟨r, hr⟩ : ∃ r, r = gLet f l i := ⟨_, rfl⟩
    rw [← hr] at HE HC2
    clear hr hX
    go_enter Tryz.func37, Tryz.ntmps37
    go_wp2_with fail
    refine HX.out.mono ?_
    rintro e w' ⟨rfl, rfl⟩
    go_wp2_with fail
    refine HC2.out.mono ?_
    intro e V hG
    have hb := hb0.trans (hG.1.mono hb0.size)
    have L := (Lies.new w 68 zero7).below hG.1 (by simp)
    rcases hG.split with ⟨j, hr, rfl⟩ | ⟨t, j, A2, c2, hr, rfl, hT⟩
    · have q := L.seven
      go_wp2_with fail
      exact bodyPost_ret (res_got (p := 4) Tryz.results37 rfl (Lies.all7 L _ _ _ _ _ _ _)) rfl (gpost_err (HE.out.trans hr) hb)
    · have q := L.seven
      go_wp2_with fail
      exact bodyPost_ret (res_got (p := 4) Tryz.results37 rfl (Lies.all7 L _ _ _ _ _ _ _)) rfl (gpost_ok (HE.out.trans hr) hb (TIn.wide _ hT (fun g hg _ => by simpa using hg)))
  by_cases h3 : X = [108, 101, 116, 114, 101, 99]
  · have HC2 := Lib.hid (HT i i (w.alloc (.cells zero7 68)) rfl hi (by omega) hR1)
    subst h3
    have HE : Hid (gExpr (f + 1) l i = gLet f l i) := by
      refine Lib.hid ?_
      rw [gExpr]
      rw [← hX]; rfl
    clear T
    obtain ⟨r, hr⟩ : ∃ r, r = gLet f l i := ⟨_, rfl⟩
    rw [← hr] at HE HC2
    clear hr hX
    go_enter Tryz.func37, Tryz.ntmps37
    go_wp2_with fail
    refine HX.out.mono ?_
    rintro e w' ⟨rfl, rfl⟩
    go_wp2_with fail
    refine HC2.out.mono ?_
    intro e V hG
    have hb := hb0.trans (hG.1.mono hb0.size)
    have L := (Lies.new w 68 zero7).below hG.1 (by simp)
    rcases hG.split with ⟨j, hr, rfl⟩ | ⟨t, j, A2, c2, hr, rfl, hT⟩
    · have q := L.seven
      go_wp2_with fail
      exact bodyPost_ret (res_got (p := 4) Tryz.results37 rfl (Lies.all7 L _ _ _ _ _ _ _)) rfl (gpost_err (HE.out.trans hr) hb)
    · have q := L.seven
      go_wp2_with fail
      exact bodyPost_ret (res_got (p := 4) Tryz.results37 rfl (Lies.all7 L _ _ _ _ _ _ _)) rfl (gpost_ok (HE.out.trans hr) hb (TIn.wide _ hT (fun g hg _ => by simpa using hg)))
  by_cases h4 : X = [99, 97, 115, 101]
  · have HC3 := Lib.hid (HM i i (w.alloc (.cells zero7 68)) rfl (by rw [T.len]; exact xAt_lt (hX.symm.trans h4) (by simp)) (by omega) hR1)
    subst h4
    have HE : Hid (gExpr (f + 1) l i = gMatch f l i) := by
      refine Lib.hid ?_
      rw [gExpr]
      rw [← hX]; rfl
    clear T
    obtain ⟨r, hr⟩ : ∃ r, r = gMatch f l i := ⟨_, rfl⟩
    rw [← hr] at HE HC3
    clear hr hX
    go_enter Tryz.func37, Tryz.ntmps37
    go_wp2_with fail
    refine HX.out.mono ?_
    rintro e w' ⟨rfl, rfl⟩
    go_wp2_with fail
    refine HC3.out.mono ?_
    intro e V hG
    have hb := hb0.trans (hG.1.mono hb0.size)
    have L := (Lies.new w 68 zero7).below hG.1 (by simp)
    rcases hG.split with ⟨j, hr, rfl⟩ | ⟨t, j, A2, c2, hr, rfl, hT⟩
    · have q := L.seven
      go_wp2_with fail
      exact bodyPost_ret (res_got (p := 4) Tryz.results37 rfl (Lies.all7 L _ _ _ _ _ _ _)) rfl (gpost_err (HE.out.trans hr) hb)
    · have q := L.seven
      go_wp2_with fail
      exact bodyPost_ret (res_got (p := 4) Tryz.results37 rfl (Lies.all7 L _ _ _ _ _ _ _)) rfl (gpost_ok (HE.out.trans hr) hb (TIn.wide _ hT (fun g hg _ => by simpa using hg)))
  have HC4 := Lib.hid (HO i i 0 (w.alloc (.cells zero7 68)) rfl rfl hi (by omega) hR1)
  have n1 := bytes_ne h1
  have b1 : (X == [92]) = false := beq_eq_false_iff_ne.2 h1
  have b2 : (X == [108, 101, 116]) = false := beq_eq_false_iff_ne.2 h2
  have b3 : (X == [108, 101, 116, 114, 101, 99]) = false := beq_eq_false_iff_ne.2 h3
  have b4 : (X == [99, 97, 115, 101]) = false := beq_eq_false_iff_ne.2 h4
  have n2 : ¬ (⟨X.toArray⟩ : ByteArray).toList = [108, 101, 116] := bytes_ne h2
  have n3 : ¬ (⟨X.toArray⟩ : ByteArray).toList = [108, 101, 116, 114, 101, 99] := bytes_ne h3
  have n4 : ¬ (⟨X.toArray⟩ : ByteArray).toList = [99, 97, 115, 101] := bytes_ne h4
  have HE : Hid (gExpr (f + 1) l i = gOps f l i ((0 : Nat) : Int)) := by
    refine Lib.hid ?_
    rw [gExpr]
    rw [← hX, if_neg (by simpa using h1), if_neg (by simp [letS, letrecS, h2, h3]), if_neg (by simpa [caseS] using h4)]; rfl
  clear T
  obtain ⟨r, hr⟩ : ∃ r, r = gOps f l i ((0 : Nat) : Int) := ⟨_, rfl⟩
  rw [← hr] at HE HC4
  clear hr hX
  go_enter Tryz.func37, Tryz.ntmps37
  go_wp2_with fail
  refine HX.out.mono ?_
  rintro e w' ⟨rfl, rfl⟩
  go_wp2_with fail
  refine HC4.out.mono ?_
  intro e V hG
  have hb := hb0.trans (hG.1.mono hb0.size)
  have L := (Lies.new w 68 zero7).below hG.1 (by simp)
  rcases hG.split with ⟨j, hr, rfl⟩ | ⟨t, j, A2, c2, hr, rfl, hT⟩
  · have q := L.seven
    go_wp2_with fail
    exact bodyPost_ret (res_got (p := 4) Tryz.results37 rfl (Lies.all7 L _ _ _ _ _ _ _)) rfl (gpost_err (HE.out.trans hr) hb)
  · have q := L.seven
    go_wp2_with fail
    exact bodyPost_ret (res_got (p := 4) Tryz.results37 rfl (Lies.all7 L _ _ _ _ _ _ _)) rfl (gpost_ok (HE.out.trans hr) hb (TIn.wide _ hT (fun g hg _ => by simpa using hg)))
end Lx
end Go.Proofs.YtobdoahdjbmflaaGreatDoor
namespace Go.Proofs.YtobdoahdjbmflaaGreatDoor
open Go.RowKit
namespace Lx
set_option maxRecDepth 100000
set_option maxHeartbeats 4000000 in
theorem gsign_any {l : List Tok} {A : Option Addr} {n c : Nat} (T : GTok l n) (i lev : Nat) (x y : Int) (w : World) (hx : x = (i : Int)) (hy : y = (lev : Int)) (hi : i ≤ n + 8) (hl : lev < 3) (hR : Row w A l) :
    Calls Tryz.prog 92 #[.slice A n c, .int .i64 x, .int .i64 y] w fun e w' => e = .returned (.bool (signA l i lev)) ∧ w = w' := by
  subst hx hy
  have HX := Lib.hid (gtext_any l A n c i w T.len (by have := T.few; omega) T.few hR)
  have hs := fun v => signA l i v
  obtain ⟨X, hX⟩ : ∃ X, X = xAt l i := ⟨_, rfl⟩
  rw [← hX] at HX
  clear hs
  by_cases h0 : lev = 0
  · subst h0
    have HE : Hid (signA l i ((0 : Nat) : Int) = (X == [60] || X == [61, 61])) := by
      refine Lib.hid ?_
      unfold signA; rw [if_pos (by rfl), ← hX]
    clear hX T hR
    by_cases g0 : X = [60]
    · subst g0
      go_enter Tryz.func92, Tryz.ntmps92
      go_wp2_with fail
      refine HX.out.mono ?_
      rintro e w' ⟨rfl, rfl⟩
      go_wp2_with fail
      go_ret
      exact ⟨ret_bool (by rw [HE.out]; rfl), rfl⟩
    by_cases g1 : X = [61, 61]
    · subst g1
      go_enter Tryz.func92, Tryz.ntmps92
      go_wp2_with fail
      refine HX.out.mono ?_
      rintro e w' ⟨rfl, rfl⟩
      go_wp2_with fail
      go_ret
      exact ⟨ret_bool (by rw [HE.out]; rfl), rfl⟩
    have b0 : (X == [60]) = false := beq_eq_false_iff_ne.2 g0
    have b1 : (X == [61, 61]) = false := beq_eq_false_iff_ne.2 g1
    go_enter Tryz.func92, Tryz.ntmps92
    go_wp2_with fail
    refine HX.out.mono ?_
    rintro e w' ⟨rfl, rfl⟩
    go_wp2_with fail
    go_ret
    exact ⟨ret_bool (by rw [HE.out, b0, b1]; rfl), rfl⟩
  by_cases h1 : lev = 1
  · subst h1
    have HE : Hid (signA l i ((1 : Nat) : Int) = (X == [43] || X == [45])) := by
      refine Lib.hid ?_
      unfold signA; rw [if_neg (by decide), if_pos (by rfl), ← hX]
    clear hX T hR
    by_cases g0 : X = [43]
    · subst g0
      go_enter Tryz.func92, Tryz.ntmps92
      go_wp2_with fail
      refine HX.out.mono ?_
      rintro e w' ⟨rfl, rfl⟩
      go_wp2_with fail
      go_ret
      exact ⟨ret_bool (by rw [HE.out]; rfl), rfl⟩
    by_cases g1 : X = [45]
    · subst g1
      go_enter Tryz.func92, Tryz.ntmps92
      go_wp2_with fail
      refine HX.out.mono ?_
      rintro e w' ⟨rfl, rfl⟩
      go_wp2_with fail
      go_ret
      exact ⟨ret_bool (by rw [HE.out]; rfl), rfl⟩
    have b0 : (X == [43]) = false := beq_eq_false_iff_ne.2 g0
    have b1 : (X == [45]) = false := beq_eq_false_iff_ne.2 g1
    go_enter Tryz.func92, Tryz.ntmps92
    go_wp2_with fail
    refine HX.out.mono ?_
    rintro e w' ⟨rfl, rfl⟩
    go_wp2_with fail
    go_ret
    exact ⟨ret_bool (by rw [HE.out, b0, b1]; rfl), rfl⟩
  obtain rfl : lev = 2 := by omega
  have HE : Hid (signA l i ((2 : Nat) : Int) = (X == [42] || X == [47])) := by
    refine Lib.hid ?_
    unfold signA; rw [if_neg (by decide), if_neg (by decide), ← hX]
  clear hX T hR
  by_cases g0 : X = [42]
  · subst g0
    go_enter Tryz.func92, Tryz.ntmps92
    go_wp2_with fail
    refine HX.out.mono ?_
    rintro e w' ⟨rfl, rfl⟩
    go_wp2_with fail
    go_ret
    exact ⟨ret_bool (by rw [HE.out]; rfl), rfl⟩
  by_cases g1 : X = [47]
  · subst g1
    go_enter Tryz.func92, Tryz.ntmps92
    go_wp2_with fail
    refine HX.out.mono ?_
    rintro e w' ⟨rfl, rfl⟩
    go_wp2_with fail
    go_ret
    exact ⟨ret_bool (by rw [HE.out]; rfl), rfl⟩
  have b0 : (X == [42]) = false := beq_eq_false_iff_ne.2 g0
  have b1 : (X == [47]) = false := beq_eq_false_iff_ne.2 g1
  go_enter Tryz.func92, Tryz.ntmps92
  go_wp2_with fail
  refine HX.out.mono ?_
  rintro e w' ⟨rfl, rfl⟩
  go_wp2_with fail
  go_ret
  exact ⟨ret_bool (by rw [HE.out, b0, b1]; rfl), rfl⟩
end Lx
end Go.Proofs.YtobdoahdjbmflaaGreatDoor
namespace Go.Proofs.YtobdoahdjbmflaaGreatDoor
namespace Lx
set_option maxRecDepth 100000
theorem names_err : ∀ (f : Nat) (l : List Tok) (j : Nat) (acc : List Tr) (j2 : Nat), gNames f l j acc = .error j2 → j2 ≤ j ∨ j2 ≤ l.length
  | 0, l, j, acc, j2, h => by cases h; omega
  | f + 1, l, j, acc, j2, h => by
    rw [gNames] at h
    split at h
    · rename_i hk
      have hlt := kAt_lt (l := l) (i := j) (by omega)
      split at h
      · cases h; omega
      · have := names_err f l (j + 1) _ j2 h
        omega
    · cases h
theorem sign_lt {l : List Tok} {i : Nat} {lev : Int} (h : signA l i lev = true) : i < l.length := by
  unfold signA at h
  split at h
  · simp at h; rcases h with h | h <;> exact xAt_lt h (by simp)
  · split at h
    · simp at h; rcases h with h | h <;> exact xAt_lt h (by simp)
    · simp at h; rcases h with h | h <;> exact xAt_lt h (by simp)
def ErrB (l : List Tok) (b : Nat) (r : GR) : Prop := ∀ j, r = .error j → j ≤ b ∨ j ≤ l.length + 2
structure ErrAll (f : Nat) : Prop where
  expr : ∀ l i, ErrB l (i + 2) (gExpr f l i)
  lam : ∀ l i, ErrB l (i + 2) (gLam f l i)
  let_ : ∀ l i, ErrB l (i + 2) (gLet f l i)
  alt : ∀ l i, ErrB l (i + 2) (gAlt f l i)
  match_ : ∀ l i, ErrB l (i + 3) (gMatch f l i)
  alts : ∀ l i j acc, ErrB l (j + 2) (gAlts f l i j acc)
  ops : ∀ l i lev, ErrB l (i + 2) (gOps f l i lev)
  opsL : ∀ l lev n a j, j ≤ l.length → ErrB l 0 (gOpsL f l lev n a j)
  app : ∀ l i, ErrB l (i + 2) (gApp f l i)
  appL : ∀ l con a j, j ≤ l.length → ErrB l 0 (gAppL f l con a j)
  atom : ∀ l i, ErrB l (i + 2) (gAtom f l i)
theorem eq_of_nn {a b : List UInt8} (h : ¬ a ≠ b) : a = b := Classical.byContradiction fun e => h e
theorem err_all : ∀ f, ErrAll f
  | 0 => by
    refine ⟨?_, ?_, ?_, ?_, ?_, ?_, ?_, ?_, ?_, ?_, ?_⟩
    all_goals
      intros
      intro j h
      first
        | (rw [gExpr] at h; cases h; omega)
        | (rw [gLam] at h; cases h; omega)
        | (rw [gLet] at h; cases h; omega)
        | (rw [gAlt] at h; cases h; omega)
        | (rw [gMatch] at h; cases h; omega)
        | (rw [gAlts] at h; cases h; omega)
        | (rw [gOps] at h; cases h; omega)
        | (rw [gOpsL] at h; cases h; omega)
        | (rw [gApp] at h; cases h; omega)
        | (rw [gAppL] at h; cases h; omega)
        | (rw [gAtom] at h; cases h; omega)
  | f + 1 => by
    have ih := err_all f
    have pr := prog_all f
    refine ⟨?_, ?_, ?_, ?_, ?_, ?_, ?_, ?_, ?_, ?_, ?_⟩
    · intro l i
      rw [gExpr]
      split
      · exact ih.lam l i
      · split
        · exact ih.let_ l i
        · split
          · rename_i hc
            have hlt := xAt_lt (l := l) (i := i) (s := caseS) (by simpa using hc) (by decide)
            intro j h
            have := ih.match_ l i j h
            omega
          · exact ih.ops l i 0
    · intro l i j h
      rw [gLam] at h
      split at h
      · cases h; omega
      · split at h
        · cases h; omega
        · rename_i hx
          have hlt := xAt_lt (eq_of_nn hx) (by simp)
          split at h
          · rename_i j' hb
            have := ih.expr l (i + 3) j' hb
            cases h
            omega
          · cases h
    · intro l i j h
      rw [gLet] at h
      split at h
      · cases h; omega
      · split at h
        · cases h; omega
        · rename_i hx
          have hlt := xAt_lt (eq_of_nn hx) (by simp)
          split at h
          · rename_i j' hb
            have := ih.expr l (i + 3) j' hb
            cases h
            omega
          · rename_i a j1 ha
            have h1 := pr.expr l (i + 3) a j1 ha
            split at h
            · cases h; omega
            · rename_i hx2
              have hlt2 := xAt_lt (eq_of_nn hx2) (by decide)
              split at h
              · rename_i j2 hb
                have := ih.expr l (j1 + 1) j2 hb
                cases h
                omega
              · cases h
    · intro l i j h
      rw [gAlt] at h
      split at h
      · cases h; omega
      · split at h
        · rename_i j1 hv
          have := names_err _ _ _ _ _ hv
          cases h
          omega
        · rename_i hk vs j1 hv
          have hlt := kAt_lt (l := l) (i := i) (by omega)
          have h1 := names_prog _ _ _ _ _ _ hv (by simp)
          split at h
          · cases h; omega
          · rename_i hx2
            have hlt2 := xAt_lt (eq_of_nn hx2) (by decide)
            split at h
            · rename_i j2 hb
              have := ih.expr l (j1 + 1) j2 hb
              cases h
              omega
            · cases h
    · intro l i j h
      rw [gMatch] at h
      split at h
      · rename_i j1 hb
        have := ih.expr l (i + 1) j1 hb
        cases h
        omega
      · rename_i a j1 ha
        have h1 := pr.expr l (i + 1) a j1 ha
        split at h
        · cases h; omega
        · split at h
          · cases h; omega
          · rename_i hx2
            have hlt2 := xAt_lt (eq_of_nn hx2) (by decide)
            have := ih.alts l i (j1 + 2) [a] j h
            omega
    · intro l i j acc j9 h
      rw [gAlts] at h
      split at h
      · rename_i j2 hb
        have := ih.alt l j j2 hb
        cases h
        omega
      · rename_i b j2 hb
        have h1 := pr.alt l j b j2 hb
        split at h
        · cases h
        · split at h
          · cases h; omega
          · rename_i hx
            have hx3 : xAt l j2 = [124] := Classical.byContradiction fun e => hx (.inl e)
            have hlt := xAt_lt hx3 (by simp)
            have := ih.alts l i (j2 + 1) (acc ++ [b]) j9 h
            omega
    · intro l i lev j h
      rw [gOps] at h
      split at h
      · exact ih.app l i j h
      · split at h
        · rename_i j1 ha
          have := ih.ops l i (lev + 1) j1 ha
          cases h
          omega
        · rename_i a j1 ha
          have h1 := pr.ops l i (lev + 1) a j1 ha
          have := ih.opsL l lev 0 a j1 h1.2 j h
          omega
    · intro l lev n a j hj j9 h
      rw [gOpsL] at h
      split at h
      · rename_i hs
        split at h
        · rename_i j2 hb
          have := ih.ops l (j + 1) (lev + 1) j2 hb
          cases h
          have hlt : j < l.length := sign_lt hs.1
          omega
        · rename_i b j2 hb
          have h1 := pr.ops l (j + 1) (lev + 1) b j2 hb
          exact ih.opsL l lev (n + 1) _ j2 h1.2 j9 h
      · cases h
    · intro l i j h
      rw [gApp] at h
      split at h
      · rename_i j1 ha
        have := ih.atom l i j1 ha
        cases h
        omega
      · rename_i a j1 ha
        have h1 := pr.atom l i a j1 ha
        have := ih.appL l _ a j1 h1.2 j h
        omega
    · intro l con a j hj j9 h
      rw [gAppL] at h
      split at h
      · split at h
        · cases h; omega
        · split at h
          · rename_i j2 hb
            have := ih.atom l j j2 hb
            cases h
            omega
          · rename_i b j2 hb
            have h1 := pr.atom l j b j2 hb
            exact ih.appL l con _ j2 h1.2 j9 h
      · cases h
    · intro l i j h
      rw [gAtom] at h
      split at h
      · rename_i hp
        have hlt := xAt_lt (l := l) (i := i) (s := [40]) (by simpa using hp) (by simp)
        split at h
        · rename_i j1 ha
          have := ih.expr l (i + 1) j1 ha
          cases h
          omega
        · rename_i a j1 ha
          have h1 := pr.expr l (i + 1) a j1 ha
          split at h
          · cases h; omega
          · cases h
      · split at h
        · cases h
        · split at h
          · cases h
          · split at h
            · cases h
            · cases h; omega
end Lx
end Go.Proofs.YtobdoahdjbmflaaGreatDoor
