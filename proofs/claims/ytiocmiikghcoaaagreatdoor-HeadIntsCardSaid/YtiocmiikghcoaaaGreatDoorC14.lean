/-
  Texts that lie one behind the other: Hd SuIn HdA HdB HdC HdD HdE SuPl SuLa.
-/
import Derived.Test.YtiocmiikghcoaaaGreatDoorC7
import Derived.Test.YtiocmiikghcoaaaGreatDoorC12
import Derived.Test.YtiocmiikghcoaaaGreatDoorC6
import Derived.Test.YtiocmiikghcoaaaGreatDoorC3
import Derived.Test.YtiocmiikghcoaaaGreatDoorC1
import Derived.Laws.AppendOwnNone
import Derived.Deep.AppendLies
import Derived.Maps.AppendAt
import Derived.Deep.RegionHeld3
import Derived.Deep.DrawnRows
namespace Go.Proofs.YtiocmiikghcoaaaGreatDoor
namespace Lx
set_option maxRecDepth 100000
def wrapI (a : Int) : Int := (a + 9223372036854775808) % 18446744073709551616 - 9223372036854775808
def noE : Te := .node 0 0 ⟨#[]⟩ []
def failE : Te := .node 9 0 ⟨#[]⟩ []
def numE (n : Int) : Te := .node 7 n ⟨#[]⟩ []
def truthE (b : Bool) : Te := if b then .node 4 0 ⟨#[84, 114, 117, 101]⟩ [] else .node 4 0 ⟨#[70, 97, 108, 115, 101]⟩ []
def prt (l : List Te) (i : Nat) : Te := l.getD i noE
def valK (k : Int) : Bool := decide (k = 2) || (decide (k = 4) || (decide (k = 7) || decide (k = 9)))
def waitK (k : Int) (l : List Te) : Option Nat :=
 if k = 3 ∨ k = 5 then (if valK (prt l 0).kind then none else some 0)
 else if k = 8 then (if (prt l 0).kind = 7 then (if valK (prt l 1).kind then none else some 1) else if valK (prt l 0).kind then none else some 0)
 else none
def waitE (t : Te) : Option Nat := waitK t.kind t.parts
def setE (t : Te) (i : Nat) (x : Te) : Te := .node t.kind t.n t.name (t.parts.set i x)
def opE (s : ByteArray) (a b : Int) : Te :=
 if s = ⟨#[43]⟩ then numE (wrapI (a + b)) else if s = ⟨#[45]⟩ then numE (wrapI (a - b)) else if s = ⟨#[42]⟩ then numE (wrapI (a * b))
 else if s = ⟨#[47]⟩ then numE (wrapI (a.tdiv b)) else if s = ⟨#[60]⟩ then truthE (decide (a < b)) else truthE (decide (a = b))
def pickE (s : Te) : List Te → Te × Int
 | [] => (failE, 4)
 | a :: r => if a.name = s.name ∧ a.n = s.parts.length then (instE (prt a.parts 0) s.parts, 2) else pickE s r
def applyE (f a : Te) : Te × Int := if f.kind = 2 then (putE (prt f.parts 0) 0 a, 1) else (failE, 4)
def chooseE (s : Te) (l : List Te) : Te × Int := if s.kind = 4 then pickE s l else (failE, 4)
def reckonE (s : ByteArray) (a b : Te) : Te × Int := if a.kind = 7 ∧ b.kind = 7 ∧ ¬ (s = ⟨#[47]⟩ ∧ b.n = 0) then (opE s a.n b.n, 3) else (failE, 4)
def actE (t : Te) : Te × Int :=
 if t.kind = 3 then applyE (prt t.parts 0) (prt t.parts 1) else if t.kind = 5 then chooseE (prt t.parts 0) (t.parts.drop 1)
 else if t.kind = 8 then reckonE t.name (prt t.parts 0) (prt t.parts 1) else (t, 0)
def stepF : Nat → Te → Te × Int
 | 0, t => (t, 0)
 | f + 1, t => match waitE t with
  | some i => (setE t i (stepF f (prt t.parts i)).1, (stepF f (prt t.parts i)).2)
  | none => actE t
def stepE (t : Te) : Te × Int := stepF (depthE t) t
def runE : Nat → Nat → Te → Te × Nat × Int
 | f, n, t => if 5000 < sizeE t then (noE, n, 91) else if valK t.kind then (t, n, 0) else
  match f with
  | 0 => (noE, n, 90)
  | f + 1 => runE f (n + 1) (stepE t).1
def plugE : Te → List (Te × Nat) → Te
 | t, [] => t
 | t, (u, i) :: p => plugE (setE u i t) p
def pathE (p : List (Te × Nat)) : Prop := ∀ e ∈ p, waitE e.1 = some e.2 ∧ e.2 < e.1.parts.length

theorem prt_depth (l : List Te) (i : Nat) : depthE (prt l i) ≤ max 1 (depthEL l) := by
 rw [prt, List.getD_eq_getElem?_getD]
 cases h : l[i]? with
 | none => simp [noE, depthE, depthEL]; exact Nat.le_max_left _ _
 | some a =>
  have := depthEL_mem l a (List.mem_of_getElem? h)
  simp; omega
theorem wait_no : waitE noE = none := by decide
theorem stepF_no (f : Nat) : stepF f noE = (noE, 0) := by
 cases f with
 | zero => rfl
 | succ f => rw [stepF, wait_no]; simp [actE, noE, Te.kind]
theorem stepF_eq : ∀ (f g : Nat) (t : Te), depthE t ≤ f → depthE t ≤ g → stepF f t = stepF g t
 | 0, _, t, h, _ => by have := depthE_pos t; omega
 | _, 0, t, _, h => by have := depthE_pos t; omega
 | f + 1, g + 1, t, hf, hg => by
  rw [stepF, stepF]
  cases h : waitE t with
  | none => rfl
  | some i =>
   have e : stepF f (prt t.parts i) = stepF g (prt t.parts i) := by
    rw [prt, List.getD_eq_getElem?_getD]
    cases hi : t.parts[i]? with
    | none => simp only [Option.getD_none]; rw [stepF_no, stepF_no]
    | some a =>
     obtain ⟨k, n, s, l⟩ := t
     have := depthEL_mem l a (List.mem_of_getElem? hi)
     rw [depthE] at hf hg
     exact stepF_eq f g a (by omega) (by omega)
   simp only [e]
theorem stepE_wait {t : Te} {i : Nat} (h : waitE t = some i) : stepE t = (setE t i (stepE (prt t.parts i)).1, (stepE (prt t.parts i)).2) := by
 have hp := depthE_pos t
 obtain ⟨d, hd⟩ : ∃ d, depthE t = d + 1 := ⟨depthE t - 1, by omega⟩
 have e : stepF d (prt t.parts i) = stepE (prt t.parts i) := by
  rw [stepE]
  by_cases hl : t.parts = []
  ·rw [hl]; show stepF d noE = _; rw [stepF_no]; exact (stepF_no _).symm
  ·have h1 := prt_depth t.parts i
   have h2 : depthEL t.parts ≤ d := by obtain ⟨k, n, s, l⟩ := t; rw [depthE] at hd; exact Nat.le_of_succ_le_succ (Nat.le_of_eq hd)
   have h3 : 0 < depthEL t.parts := by
    cases hx : t.parts with
    | nil => exact absurd hx hl
    | cons a r => rw [depthEL]; have := depthE_pos a; omega
   exact stepF_eq _ _ _ (by omega) (Nat.le_refl _)
 rw [stepE, hd, stepF, h]
 simp only [e]
theorem stepE_act {t : Te} (h : waitE t = none) : stepE t = actE t := by
 have hp := depthE_pos t
 obtain ⟨d, hd⟩ : ∃ d, depthE t = d + 1 := ⟨depthE t - 1, by omega⟩
 rw [stepE, hd, stepF, h]
theorem wait_kind {t : Te} {i : Nat} (h : waitE t = some i) : valK t.kind = false ∧ (t.kind = 3 ∨ t.kind = 5 ∨ t.kind = 8) := by
 unfold waitE waitK at h
 split at h
 ·rename_i hk; rcases hk with hk | hk <;> rw [hk] <;> decide
 ·split at h
  ·rename_i hk; rw [hk]; decide
  ·cases h
theorem wait_part {t : Te} {i : Nat} (h : waitE t = some i) : valK (prt t.parts i).kind = false := by
 unfold waitE waitK at h
 split at h
 ·split at h
  ·cases h
  ·rename_i h1; cases h; simpa using h1
 ·split at h
  ·split at h
   ·split at h
    ·cases h
    ·rename_i h1; cases h; simpa using h1
   ·split at h
    ·cases h
    ·rename_i h1; cases h; simpa using h1
  ·cases h
theorem prt_set {l : List Te} {i : Nat} (h : i < l.length) (x : Te) (j : Nat) : prt (l.set i x) j = if j = i then x else prt l j := by
 simp only [prt, List.getD_eq_getElem?_getD, List.getElem?_set]
 by_cases e : i = j
 ·subst e; simp [h]
 ·rw [if_neg e, if_neg (fun e' => e e'.symm)]
theorem wait_set {t : Te} {i : Nat} (h : waitE t = some i) (hi : i < t.parts.length) {x : Te} (hx : valK x.kind = false) : waitE (setE t i x) = some i := by
 have hv : ¬ valK x.kind = true := by rw [hx]; decide
 have h7 : ¬ x.kind = 7 := fun e => by rw [e] at hx; revert hx; decide
 unfold waitE at h ⊢
 show waitK t.kind (t.parts.set i x) = some i
 unfold waitK at h ⊢
 split at h
 ·rename_i hk
  rw [if_pos hk]
  split at h
  ·cases h
  ·cases h; rw [prt_set hi, if_pos rfl, if_neg hv]
 ·rename_i hk
  rw [if_neg hk]
  split at h
  ·rename_i hk8
   rw [if_pos hk8]
   split at h
   ·rename_i h0
    split at h
    ·cases h
    ·cases h
     rw [prt_set hi, if_neg (show ¬ (0 : Nat) = 1 by decide), if_pos h0, prt_set hi, if_pos rfl, if_neg hv]
   ·rename_i h0
    split at h
    ·cases h
    ·cases h
     rw [prt_set hi, if_pos rfl, if_neg h7, if_neg hv]
  ·cases h
theorem setE_setE (t : Te) (i : Nat) (x y : Te) : setE (setE t i x) i y = setE t i y := by
 simp only [setE, Te.kind, Te.n, Te.name, Te.parts, List.set_set]
theorem setE_prt {t : Te} {i : Nat} : setE t i (prt t.parts i) = t := by
 obtain ⟨k, n, s, l⟩ := t
 simp only [setE, Te.kind, Te.n, Te.name, Te.parts]
 by_cases h : i < l.length
 ·rw [prt, List.getD_eq_getElem?_getD, List.getElem?_eq_getElem h]
  simp
 ·rw [List.set_eq_of_length_le (by omega)]
theorem setE_kind (t : Te) (i : Nat) (x : Te) : (setE t i x).kind = t.kind := rfl
theorem plug_val : ∀ (p : List (Te × Nat)) (t : Te), pathE p → valK t.kind = false → valK (plugE t p).kind = false
 | [], _, _, h => h
 | (u, i) :: p, t, hp, _ => by
  have h1 := hp (u, i) (by simp)
  exact plug_val p (setE u i t) (fun e he => hp e (by simp [he])) (by rw [setE_kind]; exact (wait_kind h1.1).1)
theorem step_plug : ∀ (p : List (Te × Nat)) (t : Te), pathE p → valK t.kind = false → stepE (plugE t p) = (plugE (stepE t).1 p, (stepE t).2)
 | [], _, _, _ => rfl
 | (u, i) :: p, t, hp, h => by
  have h1 := hp (u, i) (by simp)
  have h2 := wait_set h1.1 h1.2 h
  rw [plugE, step_plug p (setE u i t) (fun e he => hp e (by simp [he])) (by rw [setE_kind]; exact (wait_kind h1.1).1), stepE_wait h2]
  have h3 : prt (setE u i t).parts i = t := by
   show prt (u.parts.set i t) i = t
   rw [prt_set h1.2, if_pos rfl]
  rw [h3, setE_setE]
  rfl
theorem sizeEL_set : ∀ (l : List Te) (i : Nat) (x : Te), i < l.length → sizeEL (l.set i x) + sizeE (prt l i) = sizeEL l + sizeE x
 | [], _, _, h => by simp at h
 | a :: r, 0, x, _ => by simp only [List.set, sizeEL, prt, List.getD_cons_zero]; omega
 | a :: r, i + 1, x, h => by
  have := sizeEL_set r i x (by simpa using h)
  simp only [List.set, sizeEL, prt, List.getD_cons_succ] at this ⊢
  omega
theorem size_plug : ∀ (p : List (Te × Nat)) (t x : Te), pathE p → sizeE (plugE x p) + sizeE t = sizeE (plugE t p) + sizeE x
 | [], t, x, _ => by simp only [plugE]; omega
 | (u, i) :: p, t, x, hp => by
  have h1 := hp (u, i) (by simp)
  have h2 := size_plug p (setE u i t) (setE u i x) (fun e he => hp e (by simp [he]))
  have h3 := sizeEL_set u.parts i t h1.2
  have h4 := sizeEL_set u.parts i x h1.2
  simp only [plugE]
  have e : ∀ y, sizeE (setE u i y) = sizeEL (u.parts.set i y) + 1 := fun y => by rw [setE, sizeE]
  rw [e, e] at h2
  omega
end Lx
end Go.Proofs.YtiocmiikghcoaaaGreatDoor
namespace Go.Proofs.YtiocmiikghcoaaaGreatDoor
open Go.RowKit
namespace Lx
set_option maxRecDepth 100000
def FineL (l : List Te) : Prop := ∀ t ∈ l, depthE t ≤ 12000 ∧ sizeE t ≤ 1000000000000 ∧ tameE 1099511627776 1099511627776 t
set_option maxHeartbeats 1000000 in
theorem inst1_any (l : List Te) (Al : Option Addr) (cl gl : Nat) (w0 : World) (hgl : gl < w0.heap.size) (cg : w0.cell? ⟨gl, 0, none⟩ = some (.slice Al l.length cl))
  (hI : ELIn w0 Any l Al 0) (hl : FineL l) (hlen : l.length ≤ 1000000) :
  ClosE 92 #[.pointer (some ⟨gl, 0, none⟩)] (instF l) w0 := by
 intro n s A c b W hW hss n0 n1 b0 b1
 have c1 := (hW.cell (p := ⟨gl, 0, none⟩) hgl).trans cg
 have l2 : gl < W.heap.size := by have := hW.size; omega
 have hIW : ELIn W Any l Al 0 := ELIn.keep _ hI fun g j _ hlt => ⟨hW.cell (p := ⟨g, j, none⟩) hlt, trivial⟩
 have hlx : ∀ x : Int, Lies ((W.alloc (.cells #[.int .i64 1, .int .i64 x, .string s, .slice A 0 c] 24)).alloc (.cells #[.int .i64 1, .int .i64 x, .string s, .slice A 0 c] 24)) (W.heap.size + 1) 24 #[.int .i64 1, .int .i64 x, .string s, .slice A 0 c] := fun x => by
  simpa using Lies.new (W.alloc (.cells #[.int .i64 1, .int .i64 x, .string s, .slice A 0 c] 24)) 24 #[.int .i64 1, .int .i64 x, .string s, .slice A 0 c]
 have HL := Lib.hid hlx
 clear hlx hW cg hgl hI
 show Calls Tryz.prog 92 #[.agg #[.int .i64 1, .int .i64 n, .string s, .slice A 0 c], .int .i64 b, .pointer (some ⟨gl, 0, none⟩)] W _
 obtain ⟨m, hm⟩ : ∃ m, m = l.length := ⟨_, rfl⟩
 rw [← hm] at c1 hlen
 have HM := Lib.hid hm
 rcases (by omega : (b ≤ n ∧ n < b + m) ∨ n < b ∨ (n = b ∧ m = 0) ∨ (b < n ∧ b + m ≤ n)) with hc | hc | hc | hc
 ·have hjm : (m - 1 - (n - b).toNat) < l.length := by omega
  obtain ⟨g, o, A', c', ⟨hA, _⟩, d0, d1, d2, d3, hIn⟩ := ELIn.at_ l hIW (m - 1 - (n - b).toNat) hjm
  have hfine := hl _ (List.getElem_mem hjm)
  have HF : Hid (instF l n s b = upE (l[m - 1 - (n - b).toNat]'hjm) b 0) := by
   refine Lib.hid ?_
   rw [instF, if_pos (by omega), lastE_mem _ _ (by omega)]
   simp only [HM.out]
  obtain ⟨u, hu⟩ : ∃ u, u = l[m - 1 - (n - b).toNat]'hjm := ⟨_, rfl⟩
  rw [← hu] at d0 d1 d2 d3 hIn hfine HF
  clear hu hIW hl hm
  simp only [Nat.zero_add] at d0 d1 d2 d3
  obtain ⟨j, hj⟩ : ∃ j, j = m - 1 - (n - b).toNat := ⟨_, rfl⟩
  have hj1 : (m : Int) - 1 - (n - b) = (j : Int) := by omega
  rw [← hj] at d0 d1 d2 d3
  have hj2 : j < m := by omega
  clear hj hjm
  subst hA
  have hb2 : Below W.heap.size W ((W.alloc (.cells #[.int .i64 1, .int .i64 n, .string s, .slice A 0 c] 24)).alloc (.cells #[.int .i64 0, .int .i64 0, .string ⟨#[]⟩, .slice none 0 0] 24)) := below2_new _ _
  have hup := up_any u A' c' b 0 ((W.alloc (.cells #[.int .i64 1, .int .i64 n, .string s, .slice A 0 c] 24)).alloc (.cells #[.int .i64 0, .int .i64 0, .string ⟨#[]⟩, .slice none 0 0] 24)) (EIn.below _ hIn hb2 (Nat.le_refl _)) hfine.1 hfine.2.1 hfine.2.2 (by omega) (by omega) (by omega) (by omega)
  have lz : Lies ((W.alloc (.cells #[.int .i64 1, .int .i64 n, .string s, .slice A 0 c] 24)).alloc (.cells #[.int .i64 0, .int .i64 0, .string ⟨#[]⟩, .slice none 0 0] 24)) (W.heap.size + 1) 24 #[.int .i64 0, .int .i64 0, .string ⟨#[]⟩, .slice none 0 0] := by
   simpa using Lies.new (W.alloc (.cells #[.int .i64 1, .int .i64 n, .string s, .slice A 0 c] 24)) 24 #[.int .i64 0, .int .i64 0, .string ⟨#[]⟩, .slice none 0 0]
  have HU := Lib.hid hup
  have HZ := Lib.hid lz
  have HB := Lib.hid hb2
  have hgW : g < W.heap.size := cell_lt d0
  clear hup lz hb2 hIn hfine
  obtain ⟨uk, un, us, ul⟩ := u
  simp only [Te.kind, Te.n, Te.name, Te.parts] at d0 d1 d2 d3
  have hn1 : 0 ≤ n - b := by omega
  have hn2 : n - b < m := by omega
  go_enter Tryz.func92, Tryz.ntmps92
  go_wp2_with fail
  refine HU.out.mono ?_
  rintro e w2 ⟨A2, c2, rfl, hT, hb2⟩
  generalize upE (.node uk un us ul) b 0 = U at HF hT ⊢
  obtain ⟨vk, vn, vs, vl⟩ := U
  simp only [ev, Te.kind, Te.n, Te.name, Te.parts]
  have lz2 := HZ.out.below hb2 HZ.out.lt
  have hbw := HB.out.trans (hb2.mono HB.out.size)
  obtain ⟨⟨x0, x1, x2, x3⟩, g0, g1, g2, g3⟩ := lz2.four
  have HT := Lib.hid hT
  have HW := Lib.hid hbw
  clear hT hb2 hbw
  go_wp2_with fail
  refine bodyPost_ret (res_term2 (p := 5) (q := 6) Tryz.results92 rfl (lz2.all _ _ _ _)) rfl ?_
  obtain ⟨A3, c3, h3, h4, h5⟩ := gives_all (c2 := c2) HT.out (by omega : W.heap.size ≤ W.heap.size + 1) (by simp) HW.out (.int .i64 vk) (.int .i64 vn) (.string vs) (.slice A2 vl.length (capF vl.length c2))
  refine ⟨h5, .inl ⟨A2, c2, by rw [HF.out]; rfl, ?_⟩⟩
  rw [HF.out]
  have h6 : A3 = A2 := by injection h3 with h3; injection h3 with h3; simp at h3; exact h3.1.symm
  rw [h6] at h4
  exact h4
 ·clear hIW hl hm
  have hn1 : n - b < 0 := by omega
  have HF : Hid (instF l n s b = .node 1 n s []) := by
   refine Lib.hid ?_
   rw [instF, if_neg (by omega), if_neg (by omega)]
  go_enter Tryz.func92, Tryz.ntmps92
  go_wp2_with fail
  exact bodyPost_ret (res_term2 (p := 5) (q := 6) Tryz.results92 rfl (HL.out _)) rfl ⟨below2_new _ _, .inr ⟨_, rfl, ⟨by omega, by omega⟩, HF.out⟩⟩
 ·clear hIW hl hm
  obtain ⟨rfl, rfl⟩ := hc
  have hn1 : n - n = 0 := by omega
  have HF : Hid (instF l n s n = .node 1 n s []) := by
   refine Lib.hid ?_
   rw [instF, if_neg (by have := HM.out; omega), if_neg (by omega)]
  go_enter Tryz.func92, Tryz.ntmps92
  go_wp2_with fail
  exact bodyPost_ret (res_term2 (p := 5) (q := 6) Tryz.results92 rfl (HL.out _)) rfl ⟨below2_new _ _, .inr ⟨_, rfl, ⟨by omega, by omega⟩, HF.out⟩⟩
 ·clear hIW hl hm
  have hn1 : 0 ≤ n - b := by omega
  have hn2 : (m : Int) ≤ n - b := by omega
  have HF : Hid (instF l n s b = .node 1 (n - m) s []) := by
   refine Lib.hid ?_
   rw [instF, if_neg (by have := HM.out; omega), if_pos (by omega), HM.out]
  go_enter Tryz.func92, Tryz.ntmps92
  go_wp2_with fail
  exact bodyPost_ret (res_term2 (p := 5) (q := 6) Tryz.results92 rfl (HL.out _)) rfl ⟨below2_new _ _, .inr ⟨_, rfl, ⟨by omega, by omega⟩, HF.out⟩⟩
set_option maxHeartbeats 1000000 in
theorem inst_any (t : Te) (l : List Te) (A Al : Option Addr) (c cl : Nat) (w : World) (hI : EIn w Any t A) (hd : depthE t ≤ 12000) (hs : sizeE t ≤ 1000000000000) (ht : tameE 1099511627776 1099511627776 t)
  (hIl : ELIn w Any l Al 0) (hl : FineL l) (hlen : l.length ≤ 1000000) :
  Calls Tryz.prog 64 #[ev t A c, .slice Al l.length cl] w (GivesE (instE t l) w) := by
 obtain ⟨tk, tn, ts, tl⟩ := t
 show Calls Tryz.prog 64 #[.agg #[.int .i64 tk, .int .i64 tn, .string ts, .slice A tl.length (capF tl.length c)], .slice Al l.length cl] w _
 obtain ⟨O1, hO1⟩ : ∃ O, O = Obj.cells #[.int .i64 tk, .int .i64 tn, .string ts, .slice A tl.length (capF tl.length c)] 24 := ⟨_, rfl⟩
 obtain ⟨O2, hO2⟩ : ∃ O, O = Obj.cells #[.slice Al l.length cl] 22 := ⟨_, rfl⟩
 obtain ⟨O4, hO4⟩ : ∃ O, O = Obj.cells #[.int .i64 0, .int .i64 0, .string ⟨#[]⟩, .slice none 0 0] 24 := ⟨_, rfl⟩
 obtain ⟨W, hW⟩ : ∃ W, W = ((w.alloc O1).alloc O2).alloc O4 := ⟨_, rfl⟩
 have hb : Below w.heap.size w W := by rw [hW]; exact (((Below.refl _ w).alloc (Nat.le_refl _) _).alloc (by simp) _).alloc (by simp; omega) _
 have hz : W.heap.size = w.heap.size + 3 := by rw [hW]; simp
 have lk : Lies W (w.heap.size + 1) 22 #[.slice Al l.length cl] := by
  rw [hW, hO2]; refine Lies.old ?_ _; simpa using Lies.new (w.alloc O1) 22 #[.slice Al l.length cl]
 have lz : Lies W (w.heap.size + 1 + 1) 24 #[.int .i64 0, .int .i64 0, .string ⟨#[]⟩, .slice none 0 0] := by
  rw [hW, hO4]; simpa using Lies.new ((w.alloc O1).alloc O2) 24 #[.int .i64 0, .int .i64 0, .string ⟨#[]⟩, .slice none 0 0]
 have hcl := inst1_any l Al cl (w.heap.size + 1) W lk.lt (lk.cell 0) (ELIn.keep _ hIl fun g j _ hlt => ⟨hb.cell (p := ⟨g, j, none⟩) hlt, trivial⟩) hl hlen
 have hch := ch_any _ _ _ W (enters_of Tryz.func92 (by kernel_rfl) rfl) hcl (depthE (.node tk tn ts tl)) (.node tk tn ts tl) 0 (Nat.le_refl _) hd hs ht (by omega) (by omega) A c W (Below.refl _ _) (EIn.below _ hI hb (Nat.le_refl _))
 have hpe : chE (instF l) (.node tk tn ts tl) 0 = instE (.node tk tn ts tl) l := rfl
 rw [hpe] at hch
 have HCH := Lib.hid hch
 generalize instE (.node tk tn ts tl) l = U at HCH
 clear hch hcl ht hs hd hI lk hIl hl hpe hlen
 rw [hW, hO1, hO2, hO4] at HCH
 go_enter Tryz.func64, Tryz.ntmps64
 go_wp2_with fail
 refine HCH.out.mono ?_
 rw [← hO1, ← hO2, ← hO4, ← hW]
 clear HCH hW hO1 hO2 hO4
 rintro e w2 ⟨A2, c2, rfl, hT, hb2⟩
 obtain ⟨vk, vn, vs, vl⟩ := U
 simp only [ev, Te.kind, Te.n, Te.name, Te.parts]
 have lz2 := lz.below hb2 lz.lt
 have hbw := hb.trans (hb2.mono hb.size)
 obtain ⟨⟨x0, x1, x2, x3⟩, g0, g1, g2, g3⟩ := lz2.four
 have HT := Lib.hid hT
 clear hT hb2 hb
 go_wp2_with fail
 exact bodyPost_ret (res_term (p := 4) Tryz.results64 rfl (lz2.all _ _ _ _)) rfl (gives_all HT.out (by omega) lz.lt hbw _ _ _ _)
theorem strE_q (s t : ByteArray) : (s.toList == t.toList) = decide (s = t) := by
 rw [Bool.eq_iff_iff, beq_iff_eq, decide_eq_true_eq]
 refine ⟨fun e => Classical.byContradiction fun h => ?_, fun e => by rw [e]⟩
 rw [data_list, data_list] at e
 exact h (byte_ext e)
theorem gives_leaf (k n : Int) (s : ByteArray) (w w' : World) (hs : s.size ≤ 140737488351232) (h0 : -9223372036854775808 ≤ n) (h1 : n ≤ 9223372036854775807) (hb : Below w.heap.size w w') : GivesE (.node k n s []) w (.returned (.agg #[.int .i64 k, .int .i64 n, .string s, .slice none 0 0])) w' :=
 ⟨none, 0, rfl, ein_mk hs h0 h1 (by simp) (by rw [ELIn]; trivial), hb⟩
theorem numH_any (n : Int) (w : World) (h0 : -9223372036854775808 ≤ n) (h1 : n ≤ 9223372036854775807) : Calls Tryz.prog 93 #[.int .i64 n] w (GivesE (numE n) w) := by
 go_enter Tryz.func93, Tryz.ntmps93
 go_wp2_with fail
 exact bodyPost_ret (res_term (p := 2) Tryz.results93 rfl (Lies.new w _ _)) rfl (gives_leaf 7 n _ w _ (by decide) h0 h1 ((Below.refl _ w).alloc (Nat.le_refl _) _))
theorem truthH_any (b : Bool) (w : World) : Calls Tryz.prog 94 #[.bool b] w (GivesE (truthE b) w) := by
 cases b with
 | true =>
  go_enter Tryz.func94, Tryz.ntmps94
  go_wp2_with fail
  exact bodyPost_ret (res_term (p := 2) Tryz.results94 rfl (Lies.new w _ _)) rfl (gives_leaf 4 0 ⟨#[84, 114, 117, 101]⟩ w _ (by decide) (by decide) (by decide) ((Below.refl _ w).alloc (Nat.le_refl _) _))
 | false =>
  go_enter Tryz.func94, Tryz.ntmps94
  go_wp2_with fail
  exact bodyPost_ret (res_term (p := 2) Tryz.results94 rfl (Lies.new w _ _)) rfl (gives_leaf 4 0 ⟨#[70, 97, 108, 115, 101]⟩ w _ (by decide) (by decide) (by decide) ((Below.refl _ w).alloc (Nat.le_refl _) _))
def GivesS (t : Te) (x : Int) (w : World) (e : Ending) (w' : World) : Prop :=
 ∃ A c, e = .returned (.tuple #[ev t A c, .int .i64 x]) ∧ EIn w' (fun g => w.heap.size ≤ g) t A ∧ Below w.heap.size w w'
theorem failH_any (w : World) : Calls Tryz.prog 62 #[] w (GivesS failE 4 w) := by
 go_enter Tryz.func62, Tryz.ntmps62
 go_wp2_with fail
 exact bodyPost_ret (res_term2 (p := 0) (q := 1) Tryz.results62 rfl (Lies.new w _ _)) rfl ⟨none, 0, rfl, ein_mk (by decide) (by decide) (by decide) (by simp) (by rw [ELIn]; trivial), (Below.refl _ w).alloc (Nat.le_refl _) _⟩
theorem wrap_in (a : Int) : -9223372036854775808 ≤ wrapI a ∧ wrapI a ≤ 9223372036854775807 := by unfold wrapI; omega
theorem isDone_any (k n : Int) (s : ByteArray) (A : Option Addr) (m c : Nat) (w : World) :
  Calls Tryz.prog 28 #[.agg #[.int .i64 k, .int .i64 n, .string s, .slice A m c]] w fun e w' => e = .returned (.bool (valK k)) ∧ Below w.heap.size w w' := by
 have hb : Below w.heap.size w (w.alloc (.cells #[.int .i64 k, .int .i64 n, .string s, .slice A m c] 24)) := (Below.refl _ w).alloc (Nat.le_refl _) _
 rcases (by omega : k = 2 ∨ k = 4 ∨ k = 7 ∨ k = 9 ∨ (k ≠ 2 ∧ k ≠ 4 ∧ k ≠ 7 ∧ k ≠ 9)) with rfl | rfl | rfl | rfl | ⟨h2, h4, h7, h9⟩
 ·go_enter Tryz.func28, Tryz.ntmps28
  go_wp2_with fail
  go_ret
  exact ⟨rfl, hb⟩
 ·go_enter Tryz.func28, Tryz.ntmps28
  go_wp2_with fail
  go_ret
  exact ⟨rfl, hb⟩
 ·go_enter Tryz.func28, Tryz.ntmps28
  go_wp2_with fail
  go_ret
  exact ⟨rfl, hb⟩
 ·go_enter Tryz.func28, Tryz.ntmps28
  go_wp2_with fail
  go_ret
  exact ⟨rfl, hb⟩
 ·have e2 : (k == 2) = false := by simpa using h2
  have e4 : (k == 4) = false := by simpa using h4
  have e7 : (k == 7) = false := by simpa using h7
  have e9 : (k == 9) = false := by simpa using h9
  have HE : Hid (valK k = false) := Lib.hid (by simp [valK, h2, h4, h7, h9])
  clear h2 h4 h7 h9
  go_enter Tryz.func28, Tryz.ntmps28
  go_wp2_with fail
  go_ret
  exact ⟨ret_bool HE.out.symm, hb⟩
theorem wrapI_64 (x : Int) : wrapI x = wrap64 x := by unfold wrapI wrap64; omega
set_option maxHeartbeats 4000000 in
theorem result_any (s : ByteArray) (a b : Int) (w : World) (_ha0 : -9223372036854775808 ≤ a) (_ha1 : a ≤ 9223372036854775807) (_hb0 : -9223372036854775808 ≤ b) (_hb1 : b ≤ 9223372036854775807) (hdv : s = ⟨#[47]⟩ → b ≠ 0) :
  Calls Tryz.prog 65 #[.string s, .int .i64 a, .int .i64 b] w (GivesE (opE s a b) w) := by
 have hb : Below w.heap.size w (w.alloc (.cells #[.int .i64 0, .int .i64 0, .string ⟨#[]⟩, .slice none 0 0] 24)) := (Below.refl _ w).alloc (Nat.le_refl _) _
 have lz := Lies.new w 24 #[.int .i64 0, .int .i64 0, .string ⟨#[]⟩, .slice none 0 0]
 by_cases hs0 : s = ⟨#[43]⟩
 ·subst hs0
  clear hdv
  have HE : Hid (opE ⟨#[43]⟩ a b = numE (wrapI (a + b))) := Lib.hid (by rw [opE, if_pos rfl])
  obtain ⟨U, hU⟩ : ∃ U, U = numE (wrapI (a + b)) := ⟨_, rfl⟩
  have HC := Lib.hid (numH_any (wrapI (a + b)) (w.alloc (.cells #[.int .i64 0, .int .i64 0, .string ⟨#[]⟩, .slice none 0 0] 24)) (wrap_in _).1 (wrap_in _).2)
  rw [← hU] at HC HE
  clear hU
  obtain ⟨uk, un, us, ul⟩ := U
  try simp only [wrapI_64] at HC
  go_enter Tryz.func65, Tryz.ntmps65
  go_wp2_with fail
  refine HC.out.mono ?_
  rintro e w2 ⟨A2, c2, rfl, hT, hb2⟩
  simp only [ev, Te.kind, Te.n, Te.name, Te.parts]
  have lz2 := lz.below hb2 lz.lt
  have hbw := hb.trans (hb2.mono hb.size)
  obtain ⟨⟨x0, x1, x2, x3⟩, g0, g1, g2, g3⟩ := lz2.four
  have HT := Lib.hid hT
  have HW := Lib.hid hbw
  clear hT hb2 hbw hb HC
  go_wp2_with fail
  refine bodyPost_ret (res_term (p := 6) Tryz.results65 rfl (lz2.all _ _ _ _)) rfl ?_
  rw [HE.out]
  exact gives_all HT.out (Nat.le_refl _) lz.lt HW.out _ _ _ _
 have n0 : (s.toList == [43]) = false := by show (s.toList == (⟨#[43]⟩ : ByteArray).data.toList) = false; rw [← data_list, strE_q, decide_eq_false hs0]
 by_cases hs1 : s = ⟨#[45]⟩
 ·subst hs1
  clear hdv
  have HE : Hid (opE ⟨#[45]⟩ a b = numE (wrapI (a - b))) := Lib.hid (by rw [opE, if_neg (by decide), if_pos rfl])
  obtain ⟨U, hU⟩ : ∃ U, U = numE (wrapI (a - b)) := ⟨_, rfl⟩
  have HC := Lib.hid (numH_any (wrapI (a - b)) (w.alloc (.cells #[.int .i64 0, .int .i64 0, .string ⟨#[]⟩, .slice none 0 0] 24)) (wrap_in _).1 (wrap_in _).2)
  rw [← hU] at HC HE
  clear hU
  obtain ⟨uk, un, us, ul⟩ := U
  try simp only [wrapI_64] at HC
  go_enter Tryz.func65, Tryz.ntmps65
  go_wp2_with fail
  refine HC.out.mono ?_
  rintro e w2 ⟨A2, c2, rfl, hT, hb2⟩
  simp only [ev, Te.kind, Te.n, Te.name, Te.parts]
  have lz2 := lz.below hb2 lz.lt
  have hbw := hb.trans (hb2.mono hb.size)
  obtain ⟨⟨x0, x1, x2, x3⟩, g0, g1, g2, g3⟩ := lz2.four
  have HT := Lib.hid hT
  have HW := Lib.hid hbw
  clear hT hb2 hbw hb HC
  go_wp2_with fail
  refine bodyPost_ret (res_term (p := 6) Tryz.results65 rfl (lz2.all _ _ _ _)) rfl ?_
  rw [HE.out]
  exact gives_all HT.out (Nat.le_refl _) lz.lt HW.out _ _ _ _
 have n1 : (s.toList == [45]) = false := by show (s.toList == (⟨#[45]⟩ : ByteArray).data.toList) = false; rw [← data_list, strE_q, decide_eq_false hs1]
 by_cases hs2 : s = ⟨#[42]⟩
 ·subst hs2
  clear hdv
  have HE : Hid (opE ⟨#[42]⟩ a b = numE (wrapI (a * b))) := Lib.hid (by rw [opE, if_neg (by decide), if_neg (by decide), if_pos rfl])
  obtain ⟨U, hU⟩ : ∃ U, U = numE (wrapI (a * b)) := ⟨_, rfl⟩
  have HC := Lib.hid (numH_any (wrapI (a * b)) (w.alloc (.cells #[.int .i64 0, .int .i64 0, .string ⟨#[]⟩, .slice none 0 0] 24)) (wrap_in _).1 (wrap_in _).2)
  rw [← hU] at HC HE
  clear hU
  obtain ⟨uk, un, us, ul⟩ := U
  try simp only [wrapI_64] at HC
  go_enter Tryz.func65, Tryz.ntmps65
  go_wp2_with fail
  refine HC.out.mono ?_
  rintro e w2 ⟨A2, c2, rfl, hT, hb2⟩
  simp only [ev, Te.kind, Te.n, Te.name, Te.parts]
  have lz2 := lz.below hb2 lz.lt
  have hbw := hb.trans (hb2.mono hb.size)
  obtain ⟨⟨x0, x1, x2, x3⟩, g0, g1, g2, g3⟩ := lz2.four
  have HT := Lib.hid hT
  have HW := Lib.hid hbw
  clear hT hb2 hbw hb HC
  go_wp2_with fail
  refine bodyPost_ret (res_term (p := 6) Tryz.results65 rfl (lz2.all _ _ _ _)) rfl ?_
  rw [HE.out]
  exact gives_all HT.out (Nat.le_refl _) lz.lt HW.out _ _ _ _
 have n2 : (s.toList == [42]) = false := by show (s.toList == (⟨#[42]⟩ : ByteArray).data.toList) = false; rw [← data_list, strE_q, decide_eq_false hs2]
 by_cases hs3 : s = ⟨#[47]⟩
 ·subst hs3
  have HE : Hid (opE ⟨#[47]⟩ a b = numE (wrapI (a.tdiv b))) := Lib.hid (by rw [opE, if_neg (by decide), if_neg (by decide), if_neg (by decide), if_pos rfl])
  have hb9 : b ≠ 0 := hdv rfl
  have hb8 : (b == 0) = false := by simpa using hb9
  obtain ⟨U, hU⟩ : ∃ U, U = numE (wrapI (a.tdiv b)) := ⟨_, rfl⟩
  have HC := Lib.hid (numH_any (wrapI (a.tdiv b)) (w.alloc (.cells #[.int .i64 0, .int .i64 0, .string ⟨#[]⟩, .slice none 0 0] 24)) (wrap_in _).1 (wrap_in _).2)
  rw [← hU] at HC HE
  clear hU
  obtain ⟨uk, un, us, ul⟩ := U
  try simp only [wrapI_64] at HC
  go_enter Tryz.func65, Tryz.ntmps65
  go_wp2_with fail
  refine HC.out.mono ?_
  rintro e w2 ⟨A2, c2, rfl, hT, hb2⟩
  simp only [ev, Te.kind, Te.n, Te.name, Te.parts]
  have lz2 := lz.below hb2 lz.lt
  have hbw := hb.trans (hb2.mono hb.size)
  obtain ⟨⟨x0, x1, x2, x3⟩, g0, g1, g2, g3⟩ := lz2.four
  have HT := Lib.hid hT
  have HW := Lib.hid hbw
  clear hT hb2 hbw hb HC
  go_wp2_with fail
  refine bodyPost_ret (res_term (p := 6) Tryz.results65 rfl (lz2.all _ _ _ _)) rfl ?_
  rw [HE.out]
  exact gives_all HT.out (Nat.le_refl _) lz.lt HW.out _ _ _ _
 have n3 : (s.toList == [47]) = false := by show (s.toList == (⟨#[47]⟩ : ByteArray).data.toList) = false; rw [← data_list, strE_q, decide_eq_false hs3]
 by_cases hs4 : s = ⟨#[60]⟩
 ·subst hs4
  clear hdv
  have HE : Hid (opE ⟨#[60]⟩ a b = truthE (decide (a < b))) := Lib.hid (by rw [opE, if_neg (by decide), if_neg (by decide), if_neg (by decide), if_neg (by decide), if_pos rfl])
  cases hlt : decide (a < b) with
  | true =>
   rw [hlt] at HE
   have hlt2 : a < b := of_decide_eq_true hlt
   obtain ⟨U, hU⟩ : ∃ U, U = truthE true := ⟨_, rfl⟩
   have HC := Lib.hid (truthH_any true (w.alloc (.cells #[.int .i64 0, .int .i64 0, .string ⟨#[]⟩, .slice none 0 0] 24)))
   rw [← hU] at HC HE
   clear hU
   obtain ⟨uk, un, us, ul⟩ := U
   try simp only [wrapI_64] at HC
   go_enter Tryz.func65, Tryz.ntmps65
   go_wp2_with fail
   refine HC.out.mono ?_
   rintro e w2 ⟨A2, c2, rfl, hT, hb2⟩
   simp only [ev, Te.kind, Te.n, Te.name, Te.parts]
   have lz2 := lz.below hb2 lz.lt
   have hbw := hb.trans (hb2.mono hb.size)
   obtain ⟨⟨x0, x1, x2, x3⟩, g0, g1, g2, g3⟩ := lz2.four
   have HT := Lib.hid hT
   have HW := Lib.hid hbw
   clear hT hb2 hbw hb HC
   go_wp2_with fail
   refine bodyPost_ret (res_term (p := 6) Tryz.results65 rfl (lz2.all _ _ _ _)) rfl ?_
   rw [HE.out]
   exact gives_all HT.out (Nat.le_refl _) lz.lt HW.out _ _ _ _
  | false =>
   rw [hlt] at HE
   have hlt2 : ¬ a < b := of_decide_eq_false hlt
   obtain ⟨U, hU⟩ : ∃ U, U = truthE false := ⟨_, rfl⟩
   have HC := Lib.hid (truthH_any false (w.alloc (.cells #[.int .i64 0, .int .i64 0, .string ⟨#[]⟩, .slice none 0 0] 24)))
   rw [← hU] at HC HE
   clear hU
   obtain ⟨uk, un, us, ul⟩ := U
   try simp only [wrapI_64] at HC
   go_enter Tryz.func65, Tryz.ntmps65
   go_wp2_with fail
   refine HC.out.mono ?_
   rintro e w2 ⟨A2, c2, rfl, hT, hb2⟩
   simp only [ev, Te.kind, Te.n, Te.name, Te.parts]
   have lz2 := lz.below hb2 lz.lt
   have hbw := hb.trans (hb2.mono hb.size)
   obtain ⟨⟨x0, x1, x2, x3⟩, g0, g1, g2, g3⟩ := lz2.four
   have HT := Lib.hid hT
   have HW := Lib.hid hbw
   clear hT hb2 hbw hb HC
   go_wp2_with fail
   refine bodyPost_ret (res_term (p := 6) Tryz.results65 rfl (lz2.all _ _ _ _)) rfl ?_
   rw [HE.out]
   exact gives_all HT.out (Nat.le_refl _) lz.lt HW.out _ _ _ _
 have n4 : (s.toList == [60]) = false := by show (s.toList == (⟨#[60]⟩ : ByteArray).data.toList) = false; rw [← data_list, strE_q, decide_eq_false hs4]
 have HE : Hid (opE s a b = truthE (decide (a = b))) := Lib.hid (by rw [opE, if_neg hs0, if_neg hs1, if_neg hs2, if_neg hs3, if_neg hs4])
 clear hdv hs0 hs1 hs2 hs3 hs4
 cases hlt : decide (a = b) with
 | true =>
  rw [hlt] at HE
  have hlt2 : (a == b) = true := by rw [← hlt]; rfl
  clear hlt
  obtain ⟨U, hU⟩ : ∃ U, U = truthE true := ⟨_, rfl⟩
  have HC := Lib.hid (truthH_any true (w.alloc (.cells #[.int .i64 0, .int .i64 0, .string ⟨#[]⟩, .slice none 0 0] 24)))
  rw [← hU] at HC HE
  clear hU
  obtain ⟨uk, un, us, ul⟩ := U
  try simp only [wrapI_64] at HC
  go_enter Tryz.func65, Tryz.ntmps65
  go_wp2_with fail
  refine HC.out.mono ?_
  rintro e w2 ⟨A2, c2, rfl, hT, hb2⟩
  simp only [ev, Te.kind, Te.n, Te.name, Te.parts]
  have lz2 := lz.below hb2 lz.lt
  have hbw := hb.trans (hb2.mono hb.size)
  obtain ⟨⟨x0, x1, x2, x3⟩, g0, g1, g2, g3⟩ := lz2.four
  have HT := Lib.hid hT
  have HW := Lib.hid hbw
  clear hT hb2 hbw hb HC
  go_wp2_with fail
  refine bodyPost_ret (res_term (p := 6) Tryz.results65 rfl (lz2.all _ _ _ _)) rfl ?_
  rw [HE.out]
  exact gives_all HT.out (Nat.le_refl _) lz.lt HW.out _ _ _ _
 | false =>
  rw [hlt] at HE
  have hlt2 : (a == b) = false := by rw [← hlt]; rfl
  clear hlt
  obtain ⟨U, hU⟩ : ∃ U, U = truthE false := ⟨_, rfl⟩
  have HC := Lib.hid (truthH_any false (w.alloc (.cells #[.int .i64 0, .int .i64 0, .string ⟨#[]⟩, .slice none 0 0] 24)))
  rw [← hU] at HC HE
  clear hU
  obtain ⟨uk, un, us, ul⟩ := U
  try simp only [wrapI_64] at HC
  go_enter Tryz.func65, Tryz.ntmps65
  go_wp2_with fail
  refine HC.out.mono ?_
  rintro e w2 ⟨A2, c2, rfl, hT, hb2⟩
  simp only [ev, Te.kind, Te.n, Te.name, Te.parts]
  have lz2 := lz.below hb2 lz.lt
  have hbw := hb.trans (hb2.mono hb.size)
  obtain ⟨⟨x0, x1, x2, x3⟩, g0, g1, g2, g3⟩ := lz2.four
  have HT := Lib.hid hT
  have HW := Lib.hid hbw
  clear hT hb2 hbw hb HC
  go_wp2_with fail
  refine bodyPost_ret (res_term (p := 6) Tryz.results65 rfl (lz2.all _ _ _ _)) rfl ?_
  rw [HE.out]
  exact gives_all HT.out (Nat.le_refl _) lz.lt HW.out _ _ _ _
theorem upE_zero : ∀ (t : Te) (K M : Int), tameE K M t → ∀ b : Int, chE (upF 0) t b = t := by
 intro t K M
 refine Te.rec (motive_1 := fun t => tameE K M t → ∀ b : Int, chE (upF 0) t b = t) (motive_2 := fun l => tameEL K M l → ∀ b : Int, chEL (upF 0) l b = l) ?_ ?_ ?_ t
 ·intro k n s l ih h b
  rw [tameE] at h
  rw [chE]
  split
  ·rename_i hk
   subst hk
   rw [(h.1 rfl).2.2, upF, Int.add_zero, ite_self]
  ·rw [ih h.2.2]
 ·intro _ b; rw [chEL]
 ·intro a r iha ihr h b
  rw [tameEL] at h
  rw [chEL, iha h.1, ihr h.2]
set_option maxHeartbeats 1000000 in
theorem copied_any (t : Te) (A : Option Addr) (c : Nat) (w : World) (hI : EIn w Any t A) (hd : depthE t ≤ 12000) (hs : sizeE t ≤ 1000000000000) (ht : tameE 1099511627776 1099511627776 t) :
  Calls Tryz.prog 22 #[ev t A c] w (GivesE t w) := by
 have hU : upE t 0 0 = t := upE_zero t _ _ ht 0
 obtain ⟨k, n, s, l⟩ := t
 have hb : Below w.heap.size w ((w.alloc (.cells #[.int .i64 k, .int .i64 n, .string s, .slice A l.length (capF l.length c)] 24)).alloc (.cells #[.int .i64 0, .int .i64 0, .string ⟨#[]⟩, .slice none 0 0] 24)) := below2_new _ _
 have lz : Lies ((w.alloc (.cells #[.int .i64 k, .int .i64 n, .string s, .slice A l.length (capF l.length c)] 24)).alloc (.cells #[.int .i64 0, .int .i64 0, .string ⟨#[]⟩, .slice none 0 0] 24)) (w.heap.size + 1) 24 #[.int .i64 0, .int .i64 0, .string ⟨#[]⟩, .slice none 0 0] := by simpa using Lies.new (w.alloc (.cells #[.int .i64 k, .int .i64 n, .string s, .slice A l.length (capF l.length c)] 24)) 24 #[.int .i64 0, .int .i64 0, .string ⟨#[]⟩, .slice none 0 0]
 have HC := Lib.hid (up_any (.node k n s l) A c 0 0 ((w.alloc (.cells #[.int .i64 k, .int .i64 n, .string s, .slice A l.length (capF l.length c)] 24)).alloc (.cells #[.int .i64 0, .int .i64 0, .string ⟨#[]⟩, .slice none 0 0] 24)) (EIn.below _ hI hb (Nat.le_refl _)) hd hs ht (by decide) (by decide) (by decide) (by decide))
 rw [hU] at HC
 simp only [ev, Te.kind, Te.n, Te.name, Te.parts] at HC
 show Calls Tryz.prog 22 #[.agg #[.int .i64 k, .int .i64 n, .string s, .slice A l.length (capF l.length c)]] w _
 clear hI hd hs ht hU
 go_enter Tryz.func22, Tryz.ntmps22
 go_wp2_with fail
 refine HC.out.mono ?_
 rintro e w2 ⟨A2, c2, rfl, hT, hb2⟩
 simp only [ev, Te.kind, Te.n, Te.name, Te.parts]
 have lz2 := lz.below hb2 lz.lt
 have hbw := hb.trans (hb2.mono hb.size)
 obtain ⟨⟨x0, x1, x2, x3⟩, g0, g1, g2, g3⟩ := lz2.four
 have HT := Lib.hid hT
 have HW := Lib.hid hbw
 clear hT hb2 hbw hb HC
 go_wp2_with fail
 refine bodyPost_ret (res_term (p := 2) Tryz.results22 rfl (lz2.all _ _ _ _)) rfl ?_
 exact gives_all HT.out (by omega) lz.lt HW.out _ _ _ _
def WaitP (o : Option Nat) (e : Ending) : Prop := match o with
 | some i => e = .returned (.tuple #[.int .i64 i, .bool true])
 | none => ∃ i : Int, e = .returned (.tuple #[.int .i64 i, .bool false])
theorem wait_val {o : Option Nat} {i : Nat} {b : Bool} (h : o = if b then none else some i) : WaitP o (.returned (.tuple #[.int .i64 i, .bool (!b)])) := by
 subst h
 cases b with
 | true => exact ⟨_, rfl⟩
 | false => exact rfl
set_option maxHeartbeats 4000000 in
theorem waits_any (k n : Int) (s : ByteArray) (l : List Te) (A : Option Addr) (m c : Nat) (w : World) (hm : m = l.length) (hI : ELIn w Any l A 0) (h1 : k = 3 ∨ k = 5 ∨ k = 8 → 2 ≤ l.length) :
  Calls Tryz.prog 37 #[.agg #[.int .i64 k, .int .i64 n, .string s, .slice A m c]] w fun e w' => WaitP (waitK k l) e ∧ Below w.heap.size w w' := by
 have hb : Below w.heap.size w (w.alloc (.cells #[.int .i64 k, .int .i64 n, .string s, .slice A m c] 24)) := (Below.refl _ w).alloc (Nat.le_refl _) _
 by_cases hk : k = 3 ∨ k = 5 ∨ k = 8
 ·have h2 := h1 hk
  have hm2 : 2 ≤ m := by omega
  have hm0 : 0 < m := by omega
  have hm1 : 1 < m := by omega
  obtain ⟨gp, op, Ap, cp, ⟨hAp, _⟩, dp0, dp1, dp2, dp3, _⟩ := ELIn.at_ l (ELIn.keep (Y := Any) l hI (fun g j _ h => ⟨hb.cell (p := ⟨g, j, none⟩) h, trivial⟩)) 0 (by omega)
  obtain ⟨Pp, hPp⟩ : ∃ t, t = l[0]'(by omega) := ⟨_, rfl⟩
  rw [← hPp] at dp0 dp1 dp2 dp3
  have hqp : prt l 0 = Pp := by rw [prt, List.getD_eq_getElem?_getD, List.getElem?_eq_getElem (by omega), hPp]; rfl
  clear hPp
  obtain ⟨gq, oq, Aq, cq, ⟨hAq, _⟩, dq0, dq1, dq2, dq3, _⟩ := ELIn.at_ l (ELIn.keep (Y := Any) l hI (fun g j _ h => ⟨hb.cell (p := ⟨g, j, none⟩) h, trivial⟩)) 1 (by omega)
  obtain ⟨Pq, hPq⟩ : ∃ t, t = l[1]'(by omega) := ⟨_, rfl⟩
  rw [← hPq] at dq0 dq1 dq2 dq3
  have hqq : prt l 1 = Pq := by rw [prt, List.getD_eq_getElem?_getD, List.getElem?_eq_getElem (by omega), hPq]; rfl
  clear hPq
  subst hAp
  simp only [Nat.zero_mul, Nat.add_zero] at dp0 dp1 dp2 dp3
  cases hAq
  simp only [Nat.zero_add, Nat.one_mul] at dq0 dq1 dq2 dq3
  obtain ⟨pk, pn, ps, pl⟩ := Pp
  obtain ⟨qk, qn, qs, ql⟩ := Pq
  simp only [Te.kind, Te.n, Te.name, Te.parts] at dp0 dp1 dp2 dp3 dq0 dq1 dq2 dq3
  have HW : ∀ k', Hid (waitK k' l = if k' = 3 ∨ k' = 5 then (if valK pk then none else some 0) else if k' = 8 then (if pk = 7 then (if valK qk then none else some 1) else if valK pk then none else some 0) else none) := fun k' => Lib.hid (by rw [waitK, hqp, hqq]; rfl)
  have HI1 : Hid (∀ X, Calls Tryz.prog 28 #[.agg #[.int .i64 pk, .int .i64 pn, .string ps, .slice Ap pl.length (capF pl.length cp)]] X fun e w' => e = .returned (.bool (valK pk)) ∧ Below X.heap.size X w') := Lib.hid fun X => isDone_any pk pn ps Ap _ _ X
  have HI2 : Hid (∀ X, Calls Tryz.prog 28 #[.agg #[.int .i64 qk, .int .i64 qn, .string qs, .slice Aq ql.length (capF ql.length cq)]] X fun e w' => e = .returned (.bool (valK qk)) ∧ Below X.heap.size X w') := Lib.hid fun X => isDone_any qk qn qs Aq _ _ X
  clear hqp hqq h1 hI
  obtain ⟨vp, hvp⟩ : ∃ v, v = valK pk := ⟨_, rfl⟩
  obtain ⟨vq, hvq⟩ : ∃ v, v = valK qk := ⟨_, rfl⟩
  have HW2 : ∀ k', Hid (waitK k' l = if k' = 3 ∨ k' = 5 then (if vp then none else some 0) else if k' = 8 then (if pk = 7 then (if vq then none else some 1) else if vp then none else some 0) else none) := fun k' => Lib.hid (by rw [(HW k').out, hvp, hvq])
  rw [← hvp] at HI1
  rw [← hvq] at HI2
  clear hvp hvq HW hm
  rcases hk with rfl | rfl | rfl
  ·have HV := Lib.hid (wait_val (o := waitK 3 l) (i := 0) (b := vp) (by rw [(HW2 3).out]; rfl))
   clear HW2
   go_enter Tryz.func37, Tryz.ntmps37
   go_wp2_with fail
   refine (HI1.out _).mono ?_
   rintro e w2 ⟨rfl, hb2⟩
   have hbw := hb.trans (hb2.mono hb.size)
   go_wp2_with fail
   go_ret2
   exact ⟨HV.out, hbw⟩
  ·have HV := Lib.hid (wait_val (o := waitK 5 l) (i := 0) (b := vp) (by rw [(HW2 5).out]; rfl))
   clear HW2
   go_enter Tryz.func37, Tryz.ntmps37
   go_wp2_with fail
   refine (HI1.out _).mono ?_
   rintro e w2 ⟨rfl, hb2⟩
   have hbw := hb.trans (hb2.mono hb.size)
   go_wp2_with fail
   go_ret2
   exact ⟨HV.out, hbw⟩
  ·by_cases h7 : pk = 7
   ·have e7 : (pk == 7) = true := by simpa using h7
    have HV := Lib.hid (wait_val (o := waitK 8 l) (i := 1) (b := vq) (by rw [(HW2 8).out, if_neg (by decide), if_pos rfl, if_pos h7]))
    clear HW2 h7
    go_enter Tryz.func37, Tryz.ntmps37
    go_wp2_with fail
    refine (HI2.out _).mono ?_
    rintro e w2 ⟨rfl, hb2⟩
    have hbw := hb.trans (hb2.mono hb.size)
    go_wp2_with fail
    go_ret2
    exact ⟨HV.out, hbw⟩
   ·have e7 : (pk == 7) = false := by simpa using h7
    have HV := Lib.hid (wait_val (o := waitK 8 l) (i := 0) (b := vp) (by rw [(HW2 8).out, if_neg (by decide), if_pos rfl, if_neg h7]))
    clear HW2 h7
    go_enter Tryz.func37, Tryz.ntmps37
    go_wp2_with fail
    refine (HI1.out _).mono ?_
    rintro e w2 ⟨rfl, hb2⟩
    have hbw := hb.trans (hb2.mono hb.size)
    go_wp2_with fail
    go_ret2
    exact ⟨HV.out, hbw⟩
 ·have e3 : (k == 3) = false := by simp; omega
  have e5 : (k == 5) = false := by simp; omega
  have e8 : (k == 8) = false := by simp; omega
  have HV : Hid (waitK k l = none) := Lib.hid (by rw [waitK, if_neg (by omega), if_neg (by omega)])
  clear hk h1 hI hm
  go_enter Tryz.func37, Tryz.ntmps37
  go_wp2_with fail
  go_ret2
  exact ⟨by rw [HV.out]; exact ⟨_, rfl⟩, hb⟩
theorem row_cells {w : World} {X : Nat → Prop} {g o : Nat} : ∀ (l : List Te) (j : Nat), ELIn w X l (some ⟨g, o, none⟩) j → ∃ xs, RowTe w X l xs ∧ (∀ i u, xs[i]? = some u → w.cell? ⟨g, o + j * 4 + i, none⟩ = some u) ∧ ∀ u ∈ xs, u.oneCell' = true
 | [], j, _ => ⟨[], RowTe.nil w X, fun i u h => by simp at h, fun u h => by simp at h⟩
 | t :: r, j, h => by
  rw [ELIn] at h
  obtain ⟨⟨g', o', A', c, ⟨hA, hX⟩, h0, h1, h2, h3, ht⟩, hr⟩ := h
  cases hA
  obtain ⟨ys, hy, hc, ho⟩ := row_cells r (j + 1) hr
  refine ⟨cellsE t A' c ++ ys, ⟨by rw [List.length_append, hy.1, cellsE_length, List.length_cons]; omega, fun i hi => ?_⟩, fun i u hu => ?_, fun u hu => ?_⟩
  ·cases i with
   | zero =>
    refine ⟨A', c, fun q hq => ?_, ht⟩
    rw [Nat.zero_mul, Nat.zero_add, List.getElem?_append_left (by rw [cellsE_length]; exact hq)]
    rfl
   | succ i =>
    obtain ⟨A2, c2, h4, h5⟩ := hy.2 i (by simpa using hi)
    refine ⟨A2, c2, fun q hq => ?_, h5⟩
    rw [List.getElem?_append_right (by rw [cellsE_length]; omega), cellsE_length, show (i + 1) * 4 + q - 4 = i * 4 + q by omega]
    exact h4 q hq
  ·by_cases hi : i < 4
   ·rw [List.getElem?_append_left (by rw [cellsE_length]; exact hi)] at hu
    rcases (by omega : i = 0 ∨ i = 1 ∨ i = 2 ∨ i = 3) with rfl | rfl | rfl | rfl <;> (cases hu; assumption)
   ·rw [List.getElem?_append_right (by rw [cellsE_length]; omega), cellsE_length] at hu
    have := hc (i - 4) u hu
    rw [show o + (j + 1) * 4 + (i - 4) = o + j * 4 + i by omega] at this
    exact this
  ·rcases List.mem_append.1 hu with hu | hu
   ·simp only [cellsE, List.mem_cons, List.not_mem_nil, or_false] at hu
    rcases hu with rfl | rfl | rfl | rfl <;> rfl
   ·exact ho u hu
set_option maxHeartbeats 2000000 in
theorem cloneE_any (l : List Te) (A : Option Addr) (m c : Nat) (w : World) (X : Nat → Prop) (hm : m = l.length) (hl : 0 < l.length) (hm2 : m ≤ 100000) (hI : ELIn w X l A 0) :
  Calls Tryz.prog 61 #[.slice A m c] w fun e w' => ∃ A' c' xs, e = .returned (.slice A' m c') ∧ w'.ownsRow w.heap.size 24 4 (.slice A' m c') m xs ∧ RowTe w' X l xs ∧ Below w.heap.size w w' := by
 obtain ⟨g, o, rfl⟩ : ∃ g o, A = some ⟨g, o, none⟩ := by
  cases l with
  | nil => simp at hl
  | cons a r => rw [ELIn] at hI; obtain ⟨⟨g, o, _, _, ⟨h, _⟩, _⟩, _⟩ := hI; exact ⟨g, o, h⟩
 obtain ⟨xs, hx, hc, ho⟩ := row_cells l 0 hI
 have hxl : xs.length = m * 4 := by rw [hx.1, hm]
 have hcb : ∀ j u, xs[j]? = some u → (w.alloc (.cells #[] 24)).cell? ((⟨g, o, none⟩ : Addr).add j) = some u := fun j u hu => by
  have h1 := hc j u hu
  have hadd : (⟨g, o, none⟩ : Addr).add j = ⟨g, o + j, none⟩ := by unfold Addr.add; split <;> simp_all
  rw [hadd, World.cell?_alloc_lt _ _ _ (show g < w.heap.size from cell_lt h1)]
  simpa using h1
 have hm1 : 0 < m := by omega
 obtain ⟨i0, hi, hz0, hz1, hz2⟩ : ∃ i, Tryz.prog.info? 24 = some i ∧ i.zero = some (.agg #[.int .i64 0, .int .i64 0, .string ⟨#[]⟩, .slice none 0 0]) ∧ i.size = 4 ∧ i.bytes = 56 := by
  have h := infoE
  cases hq : Tryz.prog.info? 24 with
  | none => rw [hq] at h; cases h
  | some i => rw [hq] at h; simp only [Option.map_some, Option.some.injEq, Prod.mk.injEq] at h; exact ⟨i, rfl, h.1, h.2.1, h.2.2⟩
 have hown0 : (w.alloc (.cells #[] 24)).ownsRow w.heap.size 24 4 (.slice (some ⟨w.heap.size, 0, none⟩) 0 0) 0 [] := World.ownsRow_made w #[] 0 (Nat.le_refl _) (by simp [maxLen]) rfl
 have hb0 : Below w.heap.size w (w.alloc (.cells #[] 24)) := (Below.refl _ w).alloc (Nat.le_refl _) _
 have heq : ∀ W, (binOp .eql 22 (.slice (some ⟨g, o, none⟩) m c) (.slice none 0 0)).run Tryz.prog W = .ok (.bool false) W := fun W => by kernel_rfl
 have HX := Lib.hid hx
 clear hm hl hI hx hc
 go_enter Tryz.func61, Tryz.ntmps61
 go_wp2_with (at_builtin; refine wpList_append_own _ rfl (.tmp 5) (.tmp 6) 22 rfl w.heap.size 24 i0 (.agg #[.int .i64 0, .int .i64 0, .string ⟨#[]⟩, .slice none 0 0]) 4 56 Tryz.underlying22 hi hz0 hz1 hz2 rfl (by decide) _ _ _ rfl hown0 ⟨g, o, none⟩ m c xs rfl hxl hcb ho ?c3 ?c4 ?c5 ?_)
 case c3 => unfold maxLen; omega
 case c4 => omega
 case c5 => simp
 intro v1 w1 hown1 hg1 _
 obtain ⟨A1, c1, rfl⟩ := own_slice hown1
 try simp only [Nat.zero_add, List.nil_append] at hown1
 have hb1 : Below w.heap.size w w1 := hb0.grown hg1 (by simp) (fun k hk => (hown0.lt k hk).1)
 clear hown0 hb0 hg1 hi hz0 hz1 hz2 hcb ho
 have HO := Lib.hid hown1
 have HB := Lib.hid hb1
 clear hown1 hb1
 go_wp2_with fail
 go_ret
 exact ⟨_, c1, xs, rfl, HO.out, HX.out.below HB.out (Nat.le_refl _), HB.out⟩
theorem infoR : (Tryz.prog.info? 60).map (fun i => (i.size, i.bytes)) = some (5, 64) := by kernel_rfl
def OffG (g r : Nat) (B : Option Addr) : Nat → Prop := fun b => b ≠ g ∧ b ≠ r ∧ ∀ a, B = some a → b ≠ a.block
def cellsP (e : Te × Nat) (A : Option Addr) (c : Nat) : List Value := cellsE e.1 A c ++ [.int .i64 (e.2 : Int)]
theorem cellsP_length (e : Te × Nat) (A : Option Addr) (c : Nat) : (cellsP e A c).length = 5 := rfl
def RowP (w : World) (X : Nat → Prop) (q : List (Te × Nat)) (xs : List Value) : Prop :=
 xs.length = q.length * 5 ∧ ∀ (j : Nat) (hj : j < q.length), ∃ A c, (∀ r, r < 5 → xs[j * 5 + r]? = (cellsP (q[j]'hj) A c)[r]?) ∧ EIn w X (q[j]'hj).1 A
theorem RowP.nil (w : World) (X : Nat → Prop) : RowP w X [] [] := ⟨rfl, fun j hj => by simp at hj⟩
theorem RowP.keep {w w' : World} {X Y : Nat → Prop} {q : List (Te × Nat)} {xs : List Value} (h : RowP w X q xs) (hk : ∀ g j, X g → g < w.heap.size → w'.cell? ⟨g, j, none⟩ = w.cell? ⟨g, j, none⟩ ∧ Y g) : RowP w' Y q xs :=
 ⟨h.1, fun j hj => by
  obtain ⟨A, c, hc, ht⟩ := h.2 j hj
  exact ⟨A, c, hc, EIn.keep _ ht hk⟩⟩
theorem RowP.snoc {w : World} {X : Nat → Prop} {q : List (Te × Nat)} {xs : List Value} (h : RowP w X q xs) {e : Te × Nat} {A : Option Addr} {c : Nat} (ht : EIn w X e.1 A) : RowP w X (q ++ [e]) (xs ++ cellsP e A c) := by
 refine ⟨by simp [h.1, cellsP_length]; omega, fun j hj => ?_⟩
 rcases Nat.lt_or_ge j q.length with hlt | hge
 ·obtain ⟨A', c', hc, ht'⟩ := h.2 j hlt
  rw [List.getElem_append_left hlt]
  refine ⟨A', c', fun r hr => ?_, ht'⟩
  rw [List.getElem?_append_left (by rw [h.1]; omega)]
  exact hc r hr
 ·have hj' : j = q.length := by simp at hj; omega
  subst hj'
  rw [List.getElem_append_right (Nat.le_refl _)]
  simp only [Nat.sub_self, List.getElem_singleton]
  refine ⟨A, c, fun r hr => ?_, ht⟩
  rw [List.getElem?_append_right (by rw [h.1]; omega), h.1]
  congr 1
  omega
theorem RowP.front {w : World} {X : Nat → Prop} {q : List (Te × Nat)} {e : Te × Nat} {xs : List Value} (h : RowP w X (q ++ [e]) xs) : RowP w X q (xs.take (q.length * 5)) := by
 have hl : xs.length = (q.length + 1) * 5 := by have := h.1; simpa using this
 refine ⟨by rw [List.length_take]; omega, fun j hj => ?_⟩
 obtain ⟨A, c, hc, ht⟩ := h.2 j (by simp; omega)
 rw [List.getElem_append_left hj] at hc ht
 refine ⟨A, c, fun r hr => ?_, ht⟩
 rw [List.getElem?_take_of_lt (by omega)]
 exact hc r hr
theorem own_front {w : World} {base : Nat} {B : Option Addr} {n c : Nat} {xs : List Value} (h : w.ownsRow base 60 5 (.slice B (n + 1) c) (n + 1) xs) : w.ownsRow base 60 5 (.slice B n c) n (xs.take (n * 5)) := by
 rcases h with ⟨hl, h⟩
 refine ⟨by rw [List.length_take]; omega, ?_⟩
 rcases h with ⟨_, h⟩ | ⟨g, cap, cur, hv, hb, hg, hc, hm, hz, ht⟩
 ·omega
 ·cases hv
  refine .inr ⟨g, c, cur, rfl, hb, hg, by omega, hm, hz, ?_⟩
  rw [← ht, List.take_take, Nat.min_eq_left (by omega)]
structure Zp (w : World) (g r : Nat) (t : Te) (q : List (Te × Nat)) (A : Option Addr) (c : Nat) (B : Option Addr) (bc : Nat) (xs : List Value) : Prop where
 box : Lies w g 43 #[.int .i64 t.kind, .int .i64 t.n, .string t.name, .slice A t.parts.length (capF t.parts.length c), .slice B q.length bc]
 own : w.ownsRow (g + 1) 60 5 (.slice B q.length bc) q.length xs
 row : RowP w (OffG g r B) q xs
 ein : EIn w (OffG g r B) t A
theorem Zp.blk {w : World} {g r : Nat} {t : Te} {q : List (Te × Nat)} {A : Option Addr} {c : Nat} {B : Option Addr} {bc : Nat} {xs : List Value} (h : Zp w g r t q A c B bc xs) : ∀ a, B = some a → g < a.block ∧ a.block < w.heap.size := fun a ha => by
 have := h.own.lt a.block (by rw [ha]; rfl)
 exact ⟨by omega, this.2⟩
theorem Zp.below {w w' : World} {g r : Nat} {t : Te} {q : List (Te × Nat)} {A : Option Addr} {c : Nat} {B : Option Addr} {bc : Nat} {xs : List Value} (h : Zp w g r t q A c B bc xs) (hb : Below w.heap.size w w') : Zp w' g r t q A c B bc xs := by
 refine ⟨h.box.below hb h.box.lt, own_below h.own hb (Nat.le_refl _), h.row.keep fun b j hX hlt => ⟨hb.cell (p := ⟨b, j, none⟩) hlt, hX⟩, EIn.keep _ h.ein fun b j hX hlt => ⟨hb.cell (p := ⟨b, j, none⟩) hlt, hX⟩⟩
theorem elin_put {w : World} {X0 X1 : Nat → Prop} {l : List Te} {ga : Nat} {cur : Array Value} (hL : Lies w ga 24 cur) (hx : RowTe w X0 l (cur.toList.take (l.length * 4))) (hsz : l.length * 4 ≤ cur.size) (i : Nat) (hi : i < l.length) {t : Te} {A : Option Addr} {c : Nat} (ht : EIn w X0 t A) (h0 : ¬ X0 ga) (h1 : X1 ga) (h01 : ∀ b, X0 b → X1 b) :
  ELIn (w.setCells ga (i * 4) [.int .i64 t.kind, .int .i64 t.n, .string t.name, .slice A t.parts.length (capF t.parts.length c)]) X1 (l.set i t) (some ⟨ga, 0, none⟩) 0 := by
 show ELIn ((((w.setCell ⟨ga, i * 4, none⟩ (.int .i64 t.kind)).setCell ⟨ga, i * 4 + 1, none⟩ (.int .i64 t.n)).setCell ⟨ga, i * 4 + 2, none⟩ (.string t.name)).setCell ⟨ga, i * 4 + 3, none⟩ (.slice A t.parts.length (capF t.parts.length c))) X1 (l.set i t) (some ⟨ga, 0, none⟩) 0
 have hX : ∀ p : Addr, p.block = ga → ¬ X0 p.block := fun p e => by rw [e]; exact h0
 have k1 : ∀ u B, EIn w X0 u B → EIn ((((w.setCell ⟨ga, i * 4, none⟩ (.int .i64 t.kind)).setCell ⟨ga, i * 4 + 1, none⟩ (.int .i64 t.n)).setCell ⟨ga, i * 4 + 2, none⟩ (.string t.name)).setCell ⟨ga, i * 4 + 3, none⟩ (.slice A t.parts.length (capF t.parts.length c))) X1 u B := fun u B h =>
  EIn.wide _ (EIn.setCell _ (EIn.setCell _ (EIn.setCell _ (EIn.setCell _ h ⟨ga, i * 4, none⟩ _ (hX _ rfl)) ⟨ga, i * 4 + 1, none⟩ _ (hX _ rfl)) ⟨ga, i * 4 + 2, none⟩ _ (hX _ rfl)) ⟨ga, i * 4 + 3, none⟩ _ (hX _ rfl)) (fun b hb _ => h01 b hb)
 have L3 := (((hL.put (i * 4) (.int .i64 t.kind)).put (i * 4 + 1) (.int .i64 t.n)).put (i * 4 + 2) (.string t.name)).put (i * 4 + 3) (.slice A t.parts.length (capF t.parts.length c))
 refine ELIn.mk _ 0 fun j hj => ?_
 have hjl : j < l.length := by simpa using hj
 by_cases e : j = i
 ·subst e
  refine ⟨ga, 0, A, c, ⟨rfl, h1⟩, ?_, ?_, ?_, ?_, ?_⟩
  ·rw [L3.cell]; simp [Array.getElem?_setIfInBounds]; omega
  ·rw [L3.cell]; simp [Array.getElem?_setIfInBounds]; omega
  ·rw [L3.cell]; simp [Array.getElem?_setIfInBounds]; omega
  ·rw [L3.cell]; simp [Array.getElem?_setIfInBounds]; omega
  ·simpa using k1 _ _ ht
 ·obtain ⟨A', c', hc, he⟩ := hx.2 j hjl
  have hg : (l.set i t)[j]'hj = l[j]'hjl := by rw [List.getElem_set_ne (fun e' => e e'.symm)]
  rw [hg]
  have hq : ∀ q, q < 4 → cur[j * 4 + q]? = (cellsE (l[j]'hjl) A' c')[q]? := fun q hq => by
   have := hc q hq
   rw [List.getElem?_take_of_lt (by omega)] at this
   simpa using this
  have n00 : ¬ i * 4 = j * 4 := by omega
  have n01 : ¬ i * 4 = j * 4 + 1 := by omega
  have n02 : ¬ i * 4 = j * 4 + 2 := by omega
  have n03 : ¬ i * 4 = j * 4 + 3 := by omega
  have n10 : ¬ i * 4 + 1 = j * 4 := by omega
  have n12 : ¬ i * 4 + 1 = j * 4 + 2 := by omega
  have n13 : ¬ i * 4 + 1 = j * 4 + 3 := by omega
  have n20 : ¬ i * 4 + 2 = j * 4 := by omega
  have n21 : ¬ i * 4 + 2 = j * 4 + 1 := by omega
  have n23 : ¬ i * 4 + 2 = j * 4 + 3 := by omega
  have n30 : ¬ i * 4 + 3 = j * 4 := by omega
  have n31 : ¬ i * 4 + 3 = j * 4 + 1 := by omega
  have n32 : ¬ i * 4 + 3 = j * 4 + 2 := by omega
  refine ⟨ga, 0, A', c', ⟨rfl, h1⟩, ?_, ?_, ?_, ?_, k1 _ _ he⟩
  ·rw [L3.cell]; simp [n00, n10, n20, n30]; exact (hq 0 (by omega)).trans rfl
  ·rw [L3.cell]; simp [n00, n01, n21, n31]; exact (hq 1 (by omega)).trans rfl
  ·rw [L3.cell]; simp [n00, n01, n02, n32]; exact (hq 2 (by omega)).trans rfl
  ·rw [L3.cell]; simp [n00, n01, n02, n03]; exact (hq 3 (by omega)).trans rfl
theorem there_mid {w : World} {g n o : Nat} {t : TypeId} {cs : Array Value} (h : Lies w g t cs) (hn : o + n ≤ cs.size) : w.there g o n := fun k hk => by
 have hlt : o + k < cs.size := by omega
 exact ⟨by rw [h.cell (o + k), Array.getElem?_eq_getElem hlt]; rfl, h.frozen _⟩
theorem heap_cells (w : World) (g b : Nat) (hb : b ≠ g) : ∀ (vs : List Value) (o : Nat), (w.setCells g o vs).heap[b]? = w.heap[b]? := by
 intro vs
 induction vs generalizing w with
 | nil => intro o; rfl
 | cons v vs ih =>
  intro o
  show ((w.setCell ⟨g, o, none⟩ v).setCells g (o + 1) vs).heap[b]? = _
  rw [ih]
  exact Below.heap_setCell w ⟨g, o, none⟩ v b (fun e => hb (by rw [e]))
theorem own_heap {w w' : World} {base : Nat} {e : TypeId} {size : Nat} {v : Value} {n : Nat} {xs : List Value} (h : w.ownsRow base e size v n xs) (hb : ∀ k, v.ownBlock = some k → w'.heap[k]? = w.heap[k]?) :
  (v = .slice none 0 0 ∧ n = 0) ∨ ∃ g cap cur, v = .slice (some ⟨g, 0, none⟩) n cap ∧ base ≤ g ∧ w'.heap[g]? = some (.cells cur e (0, 0)) ∧ n ≤ cap ∧ cap ≤ maxLen ∧ cur.size = cap * size ∧ cur.toList.take (n * size) = xs := by
 rcases h.2 with h1 | ⟨g, cap, cur, hv, h2, hg, h3⟩
 ·exact .inl h1
 ·exact .inr ⟨g, cap, cur, hv, h2, (hb g (by rw [hv]; rfl)).trans hg, h3⟩
theorem own_cur {w : World} {base g : Nat} {n c : Nat} {xs : List Value} (h : w.ownsRow base 24 4 (.slice (some ⟨g, 0, none⟩) n c) n xs) : ∃ cur, n ≤ c ∧ Lies w g 24 cur ∧ n * 4 ≤ cur.size ∧ cur.toList.take (n * 4) = xs := by
 rcases h.2 with ⟨hv, _⟩ | ⟨g', cap, cur, hv, h2, hg, h3, _, h4, h5⟩
 ·cases hv
 ·cases hv
  exact ⟨cur, h3, hg, by omega, h5⟩
set_option maxHeartbeats 8000000 in
theorem goOut_any (g r : Nat) (t u : Te) (i : Nat) (q : List (Te × Nat)) (A : Option Addr) (c : Nat) (B : Option Addr) (bc : Nat) (xs : List Value) (w : World) (h : Zp w g r t (q ++ [(u, i)]) A c B bc xs) (hi : i < u.parts.length) (hl : u.parts.length ≤ 100) (hq : q.length ≤ 1000000) (hrw : r < w.heap.size) :
  Calls Tryz.prog 36 #[.pointer (some ⟨g, 0, none⟩)] w fun e w' => e = .returned (.tuple #[]) ∧ (∃ A' c' bc' xs', Zp w' g r (setE u i t) q A' c' B bc' xs') ∧ Below g w w' ∧ w.heap.size ≤ w'.heap.size ∧ (∀ b, b < w.heap.size → b ≠ g → w'.heap[b]? = w.heap[b]?) := by
 obtain ⟨nq, hnq⟩ : ∃ nq, nq = q.length := ⟨_, rfl⟩
 have hl9 : (q ++ [(u, i)]).length = nq + 1 := by simp [hnq]
 have hbx := h.box
 have hown := h.own
 have hrow := h.row
 have het := h.ein
 rw [hl9] at hbx hown
 obtain ⟨gb, hB⟩ : ∃ gb, B = some ⟨gb, 0, none⟩ := by
  obtain ⟨gq, cap, hv⟩ := Joins.ownsRow_form hown (by omega)
  exact ⟨gq, by injection hv⟩
 subst hB
 have hgb := hown.lt gb rfl
 have hnb : nq + 1 ≤ bc := by
  rcases hown.2 with ⟨hv, _⟩ | ⟨g', cap, cur, hv, _, _, h3, _⟩
  ·cases hv
  ·cases hv; exact h3
 obtain ⟨Au, cu, hxc, heu⟩ := hrow.2 nq (by rw [hl9]; omega)
 have hge : (q ++ [(u, i)])[nq]'(by rw [hl9]; omega) = (u, i) := by subst hnq; simp
 rw [hge] at hxc heu
 have hcell : ∀ r, r < 5 → ∀ v, (cellsP (u, i) Au cu)[r]? = some v → w.cell? ⟨gb, nq * 5 + r, none⟩ = some v := fun r hr v hv => by
  have h1 := hown.cells (g := gb) rfl (nq * 5 + r) v ((hxc r hr).trans hv)
  have hadd : (⟨gb, 0, none⟩ : Addr).add (nq * 5 + r) = ⟨gb, nq * 5 + r, none⟩ := by unfold Addr.add; split <;> simp_all
  rw [hadd] at h1; exact h1
 have d0 := hcell 0 (by omega) _ rfl
 have d1 := hcell 1 (by omega) _ rfl
 have d2 := hcell 2 (by omega) _ rfl
 have d3 := hcell 3 (by omega) _ rfl
 have d4 := hcell 4 (by omega) _ rfl
 obtain ⟨uk, un, us, ul⟩ := u
 obtain ⟨tk, tn, ts, tl⟩ := t
 simp only [Te.kind, Te.n, Te.name, Te.parts] at hbx d0 d1 d2 d3 d4 hi hl
 have hus : us.size ≤ 140737488351232 := by rw [EIn] at heu; exact heu.1.1
 have hun0 : -9223372036854775808 ≤ un := by rw [EIn] at heu; exact heu.1.2.1
 have hun1 : un ≤ 9223372036854775807 := by rw [EIn] at heu; exact heu.1.2.2
 have HEU : Hid (ELIn w (OffG g r (some ⟨gb, 0, none⟩)) ul Au 0) := Lib.hid (by rw [EIn] at heu; exact heu.2.2)
 have HET := Lib.hid het
 have HBX := Lib.hid hbx
 have HOW := Lib.hid hown
 have HRO := Lib.hid hrow
 have HNQ := Lib.hid hnq
 have hgw := hbx.lt
 have hi9 := hi
 have hq9 : nq ≤ 1000000 := by omega
 obtain ⟨⟨y0, y1, y2, y3⟩, y4⟩ : (w.cell? ⟨g, 0, none⟩ = some (.int .i64 tk) ∧ w.cell? ⟨g, 1, none⟩ = some (.int .i64 tn) ∧ w.cell? ⟨g, 2, none⟩ = some (.string ts) ∧ w.cell? ⟨g, 3, none⟩ = some (.slice A tl.length (capF tl.length c))) ∧ w.cell? ⟨g, 4, none⟩ = some (.slice (some ⟨gb, 0, none⟩) (nq + 1) bc) := ⟨⟨hbx.cell 0, hbx.cell 1, hbx.cell 2, hbx.cell 3⟩, hbx.cell 4⟩
 have HS1 : Hid (∀ V', Below w.heap.size w V' → (fun V' : World => (V'.cell? ⟨g, 0, none⟩ = some (.int .i64 tk) ∧ V'.cell? ⟨g, 1, none⟩ = some (.int .i64 tn) ∧ V'.cell? ⟨g, 2, none⟩ = some (.string ts) ∧ V'.cell? ⟨g, 3, none⟩ = some (.slice A tl.length (capF tl.length c)) ∧ V'.cell? ⟨g, 4, none⟩ = some (.slice (some ⟨gb, 0, none⟩) (nq + 1) bc) ∧ V'.cell? ⟨gb, nq * 5, none⟩ = some (.int .i64 uk) ∧ V'.cell? ⟨gb, nq * 5 + 1, none⟩ = some (.int .i64 un) ∧ V'.cell? ⟨gb, nq * 5 + 2, none⟩ = some (.string us) ∧ V'.cell? ⟨gb, nq * 5 + 3, none⟩ = some (.slice Au ul.length (capF ul.length cu)) ∧ V'.cell? ⟨gb, nq * 5 + 4, none⟩ = some (.int .i64 (i : Int)))) V') := Lib.hid fun V' h =>
  ⟨(h.cell (p := ⟨g, 0, none⟩) hgw).trans y0, (h.cell (p := ⟨g, 1, none⟩) hgw).trans y1, (h.cell (p := ⟨g, 2, none⟩) hgw).trans y2, (h.cell (p := ⟨g, 3, none⟩) hgw).trans y3, (h.cell (p := ⟨g, 4, none⟩) hgw).trans y4,
   (h.cell (p := ⟨gb, nq * 5, none⟩) hgb.2).trans d0, (h.cell (p := ⟨gb, nq * 5 + 1, none⟩) hgb.2).trans d1, (h.cell (p := ⟨gb, nq * 5 + 2, none⟩) hgb.2).trans d2, (h.cell (p := ⟨gb, nq * 5 + 3, none⟩) hgb.2).trans d3, (h.cell (p := ⟨gb, nq * 5 + 4, none⟩) hgb.2).trans d4⟩
 have hnb2 : (nq : Int) ≤ (bc : Int) := by omega
 have hnq1 : (nq : Int) < (nq : Int) + 1 := by omega
 have hnq2 : nq < nq + 1 := by omega
 clear h hbx hown hrow het heu hxc hge hcell hl9 hnq d0 d1 d2 d3 d4 y0 y1 y2 y3 hq
 go_enter Tryz.func36, Tryz.ntmps36
 go_upto_region 1 with fail
 clear y4
 have hb_1 : Below w.heap.size w w := Below.refl _ _
 refine wp_region_K (S := (fun V' : World => (V'.cell? ⟨g, 0, none⟩ = some (.int .i64 tk) ∧ V'.cell? ⟨g, 1, none⟩ = some (.int .i64 tn) ∧ V'.cell? ⟨g, 2, none⟩ = some (.string ts) ∧ V'.cell? ⟨g, 3, none⟩ = some (.slice A tl.length (capF tl.length c)) ∧ V'.cell? ⟨g, 4, none⟩ = some (.slice (some ⟨gb, 0, none⟩) (nq + 1) bc) ∧ V'.cell? ⟨gb, nq * 5, none⟩ = some (.int .i64 uk) ∧ V'.cell? ⟨gb, nq * 5 + 1, none⟩ = some (.int .i64 un) ∧ V'.cell? ⟨gb, nq * 5 + 2, none⟩ = some (.string us) ∧ V'.cell? ⟨gb, nq * 5 + 3, none⟩ = some (.slice Au ul.length (capF ul.length cu)) ∧ V'.cell? ⟨gb, nq * 5 + 4, none⟩ = some (.int .i64 (i : Int))))) 18 rfl (HS1.out _ hb_1.drew) (fun hSs => ?_)
 change wpAnyK _ _ _ _ _ _ 19 (Array.replicate 19 false) _ _
 refine tkB (i := 0) (oi := ⟨some 11, _, _, _, _, _⟩) (v := .pointer (some ⟨g, 0, none⟩)) hSs ?_
 try go_frame
 refine tkA (i := 1) (oi := ⟨some 12, _, _, _, _, _⟩) (v := .pointer (some ⟨g, 0, none⟩)) hSs ?_
 try go_frame
 refine tkA (i := 2) (oi := ⟨some 13, _, _, _, _, _⟩) (v := .pointer (some ⟨g, 4, none⟩)) hSs ?_
 try go_frame
 refine tkA (i := 3) (oi := ⟨some 14, _, _, _, _, _⟩) (v := .slice (some ⟨gb, 0, none⟩) (nq + 1) bc) hSs ?_
 try go_frame
 refine tkB (i := 4) (oi := ⟨some 15, _, _, _, _, _⟩) (v := .int .i64 (nq : Int)) hSs ?_
 try go_frame
 refine tkA (i := 5) (oi := ⟨some 16, _, _, _, _, _⟩) (v := .pointer (some ⟨gb, nq * 5, none⟩)) hSs ?_
 try go_frame
 refine tkA (i := 6) (oi := ⟨some 17, _, _, _, _, _⟩) (v := .pointer (some ⟨gb, nq * 5, none⟩)) hSs ?_
 try go_frame
 refine tkA (i := 7) (oi := ⟨some 18, _, _, _, _, _⟩) (v := .agg #[.int .i64 uk, .int .i64 un, .string us, .slice Au ul.length (capF ul.length cu)]) hSs ?_
 try go_frame
 refine tkB (i := 8) (oi := ⟨some 19, _, _, _, _, _⟩) (v := .pointer (some ⟨g, 0, none⟩)) hSs ?_
 try go_frame
 refine tkA (i := 9) (oi := ⟨some 20, _, _, _, _, _⟩) (v := .pointer (some ⟨g, 0, none⟩)) hSs ?_
 try go_frame
 refine tkA (i := 10) (oi := ⟨some 21, _, _, _, _, _⟩) (v := .pointer (some ⟨g, 4, none⟩)) hSs ?_
 try go_frame
 refine tkA (i := 11) (oi := ⟨some 22, _, _, _, _, _⟩) (v := .slice (some ⟨gb, 0, none⟩) (nq + 1) bc) hSs ?_
 try go_frame
 refine tkB (i := 12) (oi := ⟨some 23, _, _, _, _, _⟩) (v := .int .i64 (nq : Int)) hSs ?_
 try go_frame
 refine tkA (i := 13) (oi := ⟨some 24, _, _, _, _, _⟩) (v := .pointer (some ⟨gb, nq * 5, none⟩)) hSs ?_
 try go_frame
 refine tkA (i := 14) (oi := ⟨some 25, _, _, _, _, _⟩) (v := .pointer (some ⟨gb, nq * 5 + 4, none⟩)) hSs ?_
 try go_frame
 refine tkA (i := 15) (oi := ⟨some 26, _, _, _, _, _⟩) (v := .int .i64 (i : Int)) hSs ?_
 try go_frame
 refine wpAnyK_one  (i := 16) rfl rfl (by kernel_rfl) (fun K hK => ?_)
 go_simp
 have hb_2 := Below.alloc hb_1 hb_1.size (.cells #[.int .i64 0, .int .i64 0, .string (⟨#[]⟩ : ByteArray), .slice none 0 0] 24)
 have hl_2 : Lies (w.alloc (.cells #[.int .i64 0, .int .i64 0, .string (⟨#[]⟩ : ByteArray), .slice none 0 0] 24)) (w.heap.size) 24 #[.int .i64 0, .int .i64 0, .string (⟨#[]⟩ : ByteArray), .slice none 0 0] := Lies.new _ _ _
 refine hK.out _ _ (fun _ => HS1.out _ (hb_2.drew)) (fun hS9 => ?_)
 have hS_2 := hS9 (by decide)
 clear hK K hS9
 try go_frame
 refine wpAnyK_one  (i := 17) rfl rfl (by kernel_rfl) (fun K hK => ?_)
 have hlt_3_0 := hl_2.lt
 have hsz_3 := hb_2.size
 refine wp_store_as (F := fun W9 => Below w.heap.size w W9 ∧ Lies W9 (w.heap.size) 24 #[.int .i64 uk, .int .i64 un, .string us, .slice Au ul.length (capF ul.length cu)]) _ _ _ rfl (w.heap.size) 0 #[.int .i64 uk, .int .i64 un, .string us, .slice Au ul.length (capF ul.length cu)] rfl rfl (lies_is hl_2.drew rfl) (by kernel_rfl) (by simp [Value.oneCell']) ⟨below_cells (hb_2.drew) (by omega) _ _, lies_set4 (hl_2.drew) (.int .i64 uk) (.int .i64 un) (.string us) (.slice Au ul.length (capF ul.length cu))⟩ (fun W_3 hF_3 => ?_)
 refine hK.out _ _ (fun _ => HS1.out _ hF_3.1) (fun hS9 => ?_)
 have hS_3 := hS9 (by decide)
 clear hK K hS9
 try go_frame
 obtain ⟨hb_3, hl_2_3⟩ := hF_3
 refine wpAnyK_one  (i := 18) rfl rfl (by kernel_rfl) (fun K hK => ?_)
 go_simp
 refine hK.out _ _ (fun h => absurd rfl h) (fun _ => ?_)
 clear hK K
 try go_frame
 refine wpAnyK_done (by kernel_rfl) ?_ _
 have L1 := hl_2_3
 have hb1 := hb_3
 clear hSs
 have hsz1 : w.heap.size < W_3.heap.size := L1.lt
 have hq9 : ELIn W_3 (fun b => OffG g r (some ⟨gb, 0, none⟩) b ∧ b < w.heap.size) ul Au 0 := by
  refine ELIn.keep _ HEU.out fun b j hX hlt => ⟨hb1.cell (p := ⟨b, j, none⟩) hlt, hX, hlt⟩
 have HC := Lib.hid (cloneE_any ul Au ul.length (capF ul.length cu) W_3 (fun b => OffG g r (some ⟨gb, 0, none⟩) b ∧ b < w.heap.size) rfl (by omega) (by omega) hq9)
 obtain ⟨⟨x0, x1, x2, x3⟩, _⟩ := L1.four
 clear hq9
 go_wp2_with fail
 refine HC.out.mono ?_
 rintro e w2 ⟨A2, ca, ys, rfl, hown2, hrow2, hb2⟩
 obtain ⟨gq, hA2⟩ : ∃ gq, A2 = some ⟨gq, 0, none⟩ := by
  obtain ⟨gq, cap, hv⟩ := Joins.ownsRow_form hown2 (by omega)
  exact ⟨gq, by injection hv⟩
 subst hA2
 generalize gq = ga at *
 have hga := hown2.lt ga rfl
 obtain ⟨cur, hca, hcu, hcs, hct⟩ := own_cur hown2
 have hbw2 := Lib.hid (hb1.trans (hb2.mono hb1.size))
 have L2 := L1.below hb2 L1.lt
 have c3 := L2.cell 3
 have f3 := L2.frozen 3
 simp at c3
 clear x0 x1 x2 x3 HC
 go_upto_region 3 with fail
 have L3 : Lies (w2.setCell ⟨w.heap.size, 3, none⟩ (.slice (some ⟨ga, 0, none⟩) ul.length ca)) w.heap.size 24 #[.int .i64 uk, .int .i64 un, .string us, .slice (some ⟨ga, 0, none⟩) ul.length ca] := by simpa using L2.put 3 (.slice (some ⟨ga, 0, none⟩) ul.length ca)
 have LG : Lies (w2.setCell ⟨w.heap.size, 3, none⟩ (.slice (some ⟨ga, 0, none⟩) ul.length ca)) g 43 #[.int .i64 tk, .int .i64 tn, .string ts, .slice A tl.length (capF tl.length c), .slice (some ⟨gb, 0, none⟩) (nq + 1) bc] := (HBX.out.below hbw2.out hgw).far (by show g ≠ w.heap.size; omega) _
 have L9 : Lies (w2.setCell ⟨w.heap.size, 3, none⟩ (.slice (some ⟨ga, 0, none⟩) ul.length ca)) ga 24 cur := Lies.far hcu (by show ga ≠ w.heap.size; omega) _
 have hX0 : ¬ (OffG g r (some ⟨gb, 0, none⟩) ga ∧ ga < w.heap.size) := fun h => by omega
 have hx9 : RowTe (w2.setCell ⟨w.heap.size, 3, none⟩ (.slice (some ⟨ga, 0, none⟩) ul.length ca)) (fun b => OffG g r (some ⟨gb, 0, none⟩) b ∧ b < w.heap.size) ul (cur.toList.take (ul.length * 4)) := by
  rw [hct]
  exact hrow2.setCell _ _ (fun h => by have h9 : w.heap.size < w.heap.size := h.2; omega)
 have ht9 : EIn (w2.setCell ⟨w.heap.size, 3, none⟩ (.slice (some ⟨ga, 0, none⟩) ul.length ca)) (fun b => OffG g r (some ⟨gb, 0, none⟩) b ∧ b < w.heap.size) (.node tk tn ts tl) A :=
  EIn.setCell _ (EIn.keep _ HET.out fun b j hX hlt => ⟨hbw2.out.cell (p := ⟨b, j, none⟩) hlt, hX, hlt⟩) _ _ (fun h => by have h9 : w.heap.size < w.heap.size := h.2; omega)
 have HH3 : Hid (∀ b, b ≠ w.heap.size → (w2.setCell ⟨w.heap.size, 3, none⟩ (.slice (some ⟨ga, 0, none⟩) ul.length ca)).heap[b]? = w2.heap[b]?) := Lib.hid fun b hb => Below.heap_setCell _ ⟨w.heap.size, 3, none⟩ _ b (fun e => hb (by rw [e]))
 have hbg : Below g w (w2.setCell ⟨w.heap.size, 3, none⟩ (.slice (some ⟨ga, 0, none⟩) ul.length ca)) := (hbw2.out.mono (by omega)).setCell (p := ⟨w.heap.size, 3, none⟩) (by show g ≤ w.heap.size; omega) _
 have hv3 : w2.heap.size ≤ (w2.setCell ⟨w.heap.size, 3, none⟩ (.slice (some ⟨ga, 0, none⟩) ul.length ca)).heap.size := by simp [World.setCell]
 generalize w2.setCell ⟨w.heap.size, 3, none⟩ (.slice (some ⟨ga, 0, none⟩) ul.length ca) = V3 at *
 have HS3 : Hid (∀ V', Below V3.heap.size V3 V' → (fun V' : World => (V'.cell? ⟨w.heap.size, 0, none⟩ = some (.int .i64 uk) ∧ V'.cell? ⟨w.heap.size, 1, none⟩ = some (.int .i64 un) ∧ V'.cell? ⟨w.heap.size, 2, none⟩ = some (.string us) ∧ V'.cell? ⟨w.heap.size, 3, none⟩ = some (.slice (some ⟨ga, 0, none⟩) ul.length ca) ∧ V'.cell? ⟨g, 0, none⟩ = some (.int .i64 tk) ∧ V'.cell? ⟨g, 1, none⟩ = some (.int .i64 tn) ∧ V'.cell? ⟨g, 2, none⟩ = some (.string ts) ∧ V'.cell? ⟨g, 3, none⟩ = some (.slice A tl.length (capF tl.length c)))) V') := Lib.hid fun V' h =>
  ⟨(h.cell (p := ⟨w.heap.size, 0, none⟩) L3.lt).trans (L3.cell 0), (h.cell (p := ⟨w.heap.size, 1, none⟩) L3.lt).trans (L3.cell 1), (h.cell (p := ⟨w.heap.size, 2, none⟩) L3.lt).trans (L3.cell 2), (h.cell (p := ⟨w.heap.size, 3, none⟩) L3.lt).trans (L3.cell 3), (h.cell (p := ⟨g, 0, none⟩) LG.lt).trans (LG.cell 0), (h.cell (p := ⟨g, 1, none⟩) LG.lt).trans (LG.cell 1), (h.cell (p := ⟨g, 2, none⟩) LG.lt).trans (LG.cell 2), (h.cell (p := ⟨g, 3, none⟩) LG.lt).trans (LG.cell 3)⟩
 clear c3 f3 hown2 hrow2 hcu hct L2
 have hb_1 : Below V3.heap.size V3 V3 := Below.refl _ _
 refine wp_region_K (S := (fun V' : World => (V'.cell? ⟨w.heap.size, 0, none⟩ = some (.int .i64 uk) ∧ V'.cell? ⟨w.heap.size, 1, none⟩ = some (.int .i64 un) ∧ V'.cell? ⟨w.heap.size, 2, none⟩ = some (.string us) ∧ V'.cell? ⟨w.heap.size, 3, none⟩ = some (.slice (some ⟨ga, 0, none⟩) ul.length ca) ∧ V'.cell? ⟨g, 0, none⟩ = some (.int .i64 tk) ∧ V'.cell? ⟨g, 1, none⟩ = some (.int .i64 tn) ∧ V'.cell? ⟨g, 2, none⟩ = some (.string ts) ∧ V'.cell? ⟨g, 3, none⟩ = some (.slice A tl.length (capF tl.length c))))) 8 rfl (HS3.out _ hb_1.drew) (fun hSs => ?_)
 change wpAnyK _ _ _ _ _ _ 9 (Array.replicate 9 false) _ _
 refine tkA (i := 0) (oi := ⟨some 31, _, _, _, _, _⟩) (v := .pointer (some ⟨w.heap.size, 3, none⟩)) hSs ?_
 try go_frame
 refine tkA (i := 1) (oi := ⟨some 32, _, _, _, _, _⟩) (v := .slice (some ⟨ga, 0, none⟩) ul.length ca) hSs ?_
 try go_frame
 refine tkB (i := 2) (oi := ⟨some 33, _, _, _, _, _⟩) (v := .int .i64 (i : Int)) hSs ?_
 try go_frame
 refine tkB (i := 3) (oi := ⟨some 34, _, _, _, _, _⟩) (v := .pointer (some ⟨g, 0, none⟩)) hSs ?_
 try go_frame
 refine tkA (i := 4) (oi := ⟨some 35, _, _, _, _, _⟩) (v := .pointer (some ⟨g, 0, none⟩)) hSs ?_
 try go_frame
 refine tkA (i := 5) (oi := ⟨some 36, _, _, _, _, _⟩) (v := .pointer (some ⟨g, 0, none⟩)) hSs ?_
 try go_frame
 refine tkA (i := 6) (oi := ⟨some 37, _, _, _, _, _⟩) (v := .agg #[.int .i64 tk, .int .i64 tn, .string ts, .slice A tl.length (capF tl.length c)]) hSs ?_
 try go_frame
 refine tkA (i := 7) (oi := ⟨some 38, _, _, _, _, _⟩) (v := .pointer (some ⟨ga, i * 4, none⟩)) hSs ?_
 try go_frame
 refine wpAnyK_one  (i := 8) rfl rfl (by kernel_rfl) (fun K hK => ?_)
 refine wp_store_as (F := fun W9 => Below g w W9 ∧ Lies W9 w.heap.size 24 #[.int .i64 uk, .int .i64 un, .string us, .slice (some ⟨ga, 0, none⟩) ul.length ca] ∧ Lies W9 g 43 #[.int .i64 tk, .int .i64 tn, .string ts, .slice A tl.length (capF tl.length c), .slice (some ⟨gb, 0, none⟩) (nq + 1) bc] ∧ ELIn W9 (fun b => (OffG g r (some ⟨gb, 0, none⟩) b ∧ b < w.heap.size) ∨ b = ga) (ul.set i (.node tk tn ts tl)) (some ⟨ga, 0, none⟩) 0 ∧ V3.heap.size ≤ W9.heap.size ∧ Hid (∀ b, b ≠ ga → W9.heap[b]? = V3.heap[b]?)) _ _ _ rfl ga (i * 4) #[.int .i64 tk, .int .i64 tn, .string ts, .slice A tl.length (capF tl.length c)] rfl rfl (there_mid (n := 4) L9.drew (by omega)) (by kernel_rfl) (by simp [Value.oneCell'])
  ⟨below_cells (hbg.drew) (by omega) _ _, lies_offs (L3.drew) (by omega) _ _, lies_offs (LG.drew) (by omega) _ _, elin_put (L9.drew) (hx9.below (Below.refl _ _).drew (Nat.le_refl _)) (by omega) i hi9 (t := .node tk tn ts tl) (A := A) (c := c) (EIn.below _ ht9 (Below.refl _ _).drew (Nat.le_refl _)) hX0 (.inr rfl) (fun b h => .inl h), (by rw [size_cells]; exact Nat.le_refl _), Lib.hid (fun b hb => heap_cells V3.drew ga b hb _ _)⟩ (fun W_2 hF_2 => ?_)
 refine hK.out _ _ (fun h => absurd rfl h) (fun _ => ?_)
 clear hK K
 try go_frame
 refine wpAnyK_done (by kernel_rfl) ?_ _
 obtain ⟨hbg4, L4, LG4, hE4, hsz34, HH4⟩ := hF_2
 clear hbg L3 LG L9 hx9 ht9 hSs
 have hsz4 : w2.heap.size ≤ W_2.heap.size := Nat.le_trans hv3 hsz34
 have FIN : Hid (∀ W, W = (W_2.setCells g 0 [.int .i64 uk, .int .i64 un, .string us, .slice (some ⟨ga, 0, none⟩) ul.length ca, .slice (some ⟨gb, 0, none⟩) nq bc]).drew → (Below g w W ∧ Lies W g 43 #[.int .i64 uk, .int .i64 un, .string us, .slice (some ⟨ga, 0, none⟩) ul.length ca, .slice (some ⟨gb, 0, none⟩) nq bc] ∧ W_2.heap.size ≤ W.heap.size ∧ (∀ b, b ≠ g → W.heap[b]? = W_2.heap[b]?))) := Lib.hid fun W hW => by
  subst hW
  refine ⟨(below_cells hbg4 (Nat.le_refl _) _ _).drew, ?_, ?_, fun b hb => heap_cells W_2 g b hb _ _⟩
  ·have := (((((LG4.put 0 (.int .i64 uk)).put 1 (.int .i64 un)).put 2 (.string us)).put 3 (.slice (some ⟨ga, 0, none⟩) ul.length ca)).put 4 (.slice (some ⟨gb, 0, none⟩) nq bc)).drew
   simp at this
   exact this
  ·show W_2.heap.size ≤ (W_2.setCells g 0 _).heap.size
   rw [size_cells]; exact Nat.le_refl _
 have TAIL : Hid (∀ W, (Below g w W ∧ Lies W g 43 #[.int .i64 uk, .int .i64 un, .string us, .slice (some ⟨ga, 0, none⟩) ul.length ca, .slice (some ⟨gb, 0, none⟩) nq bc] ∧ W_2.heap.size ≤ W.heap.size ∧ (∀ b, b ≠ g → W.heap[b]? = W_2.heap[b]?)) → ((∃ A' c' bc' xs', Zp W g r (setE (.node uk un us ul) i (.node tk tn ts tl)) q A' c' (some ⟨gb, 0, none⟩) bc' xs') ∧ Below g w W ∧ w.heap.size ≤ W.heap.size ∧ (∀ b, b < w.heap.size → b ≠ g → W.heap[b]? = w.heap[b]?))) := Lib.hid fun W hW => by
  obtain ⟨hbf, LGf, hszf, HH5⟩ := hW
  have HHf : ∀ b, b ≠ g → b ≠ ga → b ≠ w.heap.size → W.heap[b]? = w2.heap[b]? := fun b h1 h2 h3 => ((HH5 b h1).trans (HH4.out b h2)).trans (HH3.out b h3)
  have HHw : ∀ b, b < w.heap.size → b ≠ g → W.heap[b]? = w.heap[b]? := fun b h1 h2 => (HHf b h2 (by omega) (by omega)).trans (hbw2.out.block b h1)
  have hE5 : ELIn W (OffG g r (some ⟨gb, 0, none⟩)) (ul.set i (.node tk tn ts tl)) (some ⟨ga, 0, none⟩) 0 := ELIn.keep _ hE4 fun b j hX _ => by
   have hbg9 : b ≠ g := by
    rcases hX with h | h
    ·exact h.1.1
    ·omega
   have hbr9 : b ≠ r := by
    rcases hX with h | h
    ·exact h.1.2.1
    ·omega
   refine ⟨World.cell?_of_block (a := ⟨b, j, none⟩) (HH5 b hbg9), hbg9, hbr9, fun a ha => ?_⟩
   cases ha
   show b ≠ gb
   rcases hX with h | h
   ·exact h.1.2.2 _ rfl
   ·omega
  refine ⟨⟨some ⟨ga, 0, none⟩, ca, bc, (xs.take (nq * 5)), ?_, ?_, ?_, ?_⟩, hbf, by omega, HHw⟩
  ·have e9 : capF ul.length ca = ca := capF_of hca
   rw [← HNQ.out]
   simpa [setE, Te.kind, Te.n, Te.name, Te.parts, e9] using LGf
  ·rw [← HNQ.out]
   exact ⟨(own_front HOW.out).1, own_heap (own_front HOW.out) (fun b hb => by cases hb; exact HHw gb (by omega) (by omega))⟩
  ·have := (HRO.out.front).keep (w' := W) (Y := OffG g r (some ⟨gb, 0, none⟩)) (fun b j hX hb => ⟨World.cell?_of_block (a := ⟨b, j, none⟩) (HHw b hb hX.1), hX⟩)
   rw [← HNQ.out] at this
   exact this
  ·show EIn W _ (.node uk un us (ul.set i (.node tk tn ts tl))) _
   exact ein_mk hus hun0 hun1 (by rw [List.length_set]; omega) hE5
 have k0 := L4.cell 0
 have k1 := L4.cell 1
 have k2 := L4.cell 2
 have k3 := L4.cell 3
 have p4 := LG4.cell 4
 simp at k0 k1 k2 k3 p4
 have p0 := LG4.cell 0
 have p1 := LG4.cell 1
 have p2 := LG4.cell 2
 have p3 := LG4.cell 3
 simp at p0 p1 p2 p3
 have q0 := LG4.frozen 0
 have q1 := LG4.frozen 1
 have q2 := LG4.frozen 2
 have q3 := LG4.frozen 3
 have q4 := LG4.frozen 4
 clear hbg4 L4 LG4 hE4 HH4 hsz34 HH3 hv3
 go_upto_region 4 with fail
 go_region
 all_goals
  go_end0
  exact ⟨rfl, TAIL.out _ (FIN.out _ rfl)⟩
end Lx
end Go.Proofs.YtiocmiikghcoaaaGreatDoor
namespace Go.Proofs.YtiocmiikghcoaaaGreatDoor
namespace Lx
set_option maxRecDepth 100000
mutual
def wfE : Te → Prop
 | .node k n _ l => (k = 1 → l = []) ∧ (k = 6 → 0 ≤ n) ∧ wfEL l
def wfEL : List Te → Prop
 | [] => True
 | t :: r => wfE t ∧ wfEL r
end
mutual
def clE : Te → Int → Prop
 | .node k n _ l, f => (k = 1 → 0 ≤ n ∧ n < f ∧ l = []) ∧ (k = 6 → 0 ≤ n ∧ n ≤ 8) ∧ clEL l (f + moreE k n)
def clEL : List Te → Int → Prop
 | [], _ => True
 | t :: r, f => clE t f ∧ clEL r f
end
theorem more_nn {k n : Int} (h : k = 6 → 0 ≤ n) : 0 ≤ moreE k n := by
 rw [moreE]
 split
 ·omega
 ·split
  ·rename_i h6; exact h h6
  ·omega
mutual
theorem clE_wf : ∀ (t : Te) (f : Int), clE t f → wfE t
 | .node k n s l, f, h => by
  rw [clE] at h; rw [wfE]
  exact ⟨fun e => (h.1 e).2.2, fun e => (h.2.1 e).1, clEL_wf l _ h.2.2⟩
theorem clEL_wf : ∀ (l : List Te) (f : Int), clEL l f → wfEL l
 | [], _, _ => by rw [wfEL]; trivial
 | t :: r, f, h => by rw [clEL] at h; rw [wfEL]; exact ⟨clE_wf t f h.1, clEL_wf r f h.2⟩
end
mutual
theorem clE_tame : ∀ (t : Te) (f : Int), clE t f → tameE (f + 8 * depthE t + 1000) 8 t
 | .node k n s l, f, h => by
  rw [clE] at h; rw [tameE]
  have hm : moreE k n ≤ 8 := by
   rw [moreE]
   split
   ·omega
   ·split
    ·rename_i h6; exact (h.2.1 h6).2
    ·omega
  have hd : depthE (.node k n s l) = depthEL l + 1 := by rw [depthE]
  refine ⟨fun e => ?_, fun e => by have := h.2.1 e; omega, tameEL_mono (by omega) (Int.le_refl _) l (clEL_tame l _ h.2.2)⟩
  have := h.1 e
  exact ⟨by omega, by omega, this.2.2⟩
theorem clEL_tame : ∀ (l : List Te) (f : Int), clEL l f → tameEL (f + 8 * depthEL l + 1000) 8 l
 | [], _, _ => by rw [tameEL]; trivial
 | t :: r, f, h => by
  rw [clEL] at h; rw [tameEL, depthEL]
  exact ⟨tameE_mono (by omega) (Int.le_refl _) t (clE_tame t f h.1), tameEL_mono (by omega) (Int.le_refl _) r (clEL_tame r f h.2)⟩
end
mutual
theorem ch_comp {F G H : Int → ByteArray → Int → Te} {p q r : Int} (hv : ∀ n s b, 0 ≤ b → chE G (F n s (p + b)) (q + b) = H n s (r + b)) : ∀ (t : Te) (b : Int), 0 ≤ b → wfE t → chE G (chE F t (p + b)) (q + b) = chE H t (r + b)
 | .node k n s l, b, hb, hw => by
  rw [wfE] at hw
  by_cases hk : k = 1
  ·rw [chE.eq_1 F, chE.eq_1 H, if_pos hk, if_pos hk]; exact hv n s b hb
  ·have hm := more_nn hw.2.1
   rw [chE.eq_1 F, if_neg hk, chE.eq_1 G, if_neg hk, chE.eq_1 H, if_neg hk]
   have := ch_compL hv l (b + moreE k n) (by omega) hw.2.2
   rw [show p + (b + moreE k n) = p + b + moreE k n by omega, show q + (b + moreE k n) = q + b + moreE k n by omega, show r + (b + moreE k n) = r + b + moreE k n by omega] at this
   rw [this]
theorem ch_compL {F G H : Int → ByteArray → Int → Te} {p q r : Int} (hv : ∀ n s b, 0 ≤ b → chE G (F n s (p + b)) (q + b) = H n s (r + b)) : ∀ (l : List Te) (b : Int), 0 ≤ b → wfEL l → chEL G (chEL F l (p + b)) (q + b) = chEL H l (r + b)
 | [], _, _, _ => by rw [chEL, chEL, chEL]
 | t :: r', b, hb, hw => by rw [wfEL] at hw; rw [chEL.eq_2 F, chEL.eq_2 G, chEL.eq_2 H, ch_comp hv t b hb hw.1, ch_compL hv r' b hb hw.2]
end
mutual
theorem ch_two {F G F' G' : Int → ByteArray → Int → Te} {p q p' q' : Int} (hv : ∀ n s b, 0 ≤ b → chE G (F n s (p + b)) (q + b) = chE G' (F' n s (p' + b)) (q' + b)) : ∀ (t : Te) (b : Int), 0 ≤ b → wfE t → chE G (chE F t (p + b)) (q + b) = chE G' (chE F' t (p' + b)) (q' + b)
 | .node k n s l, b, hb, hw => by
  rw [wfE] at hw
  by_cases hk : k = 1
  ·rw [chE.eq_1 F, chE.eq_1 F', if_pos hk, if_pos hk]; exact hv n s b hb
  ·have hm := more_nn hw.2.1
   rw [chE.eq_1 F, if_neg hk, chE.eq_1 G, if_neg hk, chE.eq_1 F', if_neg hk, chE.eq_1 G', if_neg hk]
   have := ch_twoL hv l (b + moreE k n) (by omega) hw.2.2
   rw [show p + (b + moreE k n) = p + b + moreE k n by omega, show q + (b + moreE k n) = q + b + moreE k n by omega, show p' + (b + moreE k n) = p' + b + moreE k n by omega, show q' + (b + moreE k n) = q' + b + moreE k n by omega] at this
   rw [this]
theorem ch_twoL {F G F' G' : Int → ByteArray → Int → Te} {p q p' q' : Int} (hv : ∀ n s b, 0 ≤ b → chE G (F n s (p + b)) (q + b) = chE G' (F' n s (p' + b)) (q' + b)) : ∀ (l : List Te) (b : Int), 0 ≤ b → wfEL l → chEL G (chEL F l (p + b)) (q + b) = chEL G' (chEL F' l (p' + b)) (q' + b)
 | [], _, _, _ => by simp only [chEL]
 | t :: r', b, hb, hw => by rw [wfEL] at hw; rw [chEL.eq_2 F, chEL.eq_2 G, chEL.eq_2 F', chEL.eq_2 G', ch_two hv t b hb hw.1, ch_twoL hv r' b hb hw.2]
end
mutual
theorem ch_id {F : Int → ByteArray → Int → Te} {p f : Int} (hv : ∀ n s b, 0 ≤ b → 0 ≤ n → n < f + b → F n s (p + b) = .node 1 n s []) : ∀ (t : Te) (b : Int), 0 ≤ b → clE t (f + b) → chE F t (p + b) = t
 | .node k n s l, b, hb, hw => by
  rw [clE] at hw
  by_cases hk : k = 1
  ·have := hw.1 hk
   rw [chE, if_pos hk, hv n s b hb this.1 this.2.1, hk, this.2.2]
  ·have hm := more_nn (fun e => (hw.2.1 e).1)
   have := ch_idL hv l (b + moreE k n) (by omega) (by rw [show f + (b + moreE k n) = f + b + moreE k n by omega]; exact hw.2.2)
   rw [show p + (b + moreE k n) = p + b + moreE k n by omega] at this
   rw [chE, if_neg hk, this]
theorem ch_idL {F : Int → ByteArray → Int → Te} {p f : Int} (hv : ∀ n s b, 0 ≤ b → 0 ≤ n → n < f + b → F n s (p + b) = .node 1 n s []) : ∀ (l : List Te) (b : Int), 0 ≤ b → clEL l (f + b) → chEL F l (p + b) = l
 | [], _, _, _ => by rw [chEL]
 | t :: r', b, hb, hw => by rw [clEL] at hw; rw [chEL, ch_id hv t b hb hw.1, ch_idL hv r' b hb hw.2]
end
mutual
theorem ch_same : ∀ (t : Te) (b : Int), wfE t → chE (fun n s _ => .node 1 n s []) t b = t
 | .node k n s l, b, h => by
  rw [wfE] at h
  by_cases hk : k = 1
  ·rw [chE, if_pos hk, hk, h.1 hk]
  ·rw [chE, if_neg hk, ch_sameL l _ h.2.2]
theorem ch_sameL : ∀ (l : List Te) (b : Int), wfEL l → chEL (fun n s _ => .node 1 n s []) l b = l
 | [], _, _ => by rw [chEL]
 | t :: r, b, h => by rw [wfEL] at h; rw [chEL, ch_same t b h.1, ch_sameL r b h.2]
end
theorem v_up (u n : Int) (s : ByteArray) (f : Int) : chE (upF u) (.node 1 n s []) f = .node 1 (if f ≤ n then n + u else n) s [] := by rw [chE, if_pos rfl, upF]
theorem v_put (k : Int) (x : Te) (n : Int) (s : ByteArray) (b : Int) : chE (putF k x) (.node 1 n s []) b = putF k x n s b := by rw [chE, if_pos rfl]
theorem up_up {t : Te} (hw : wfE t) (u d g : Int) (hu : 0 ≤ u) (hg : 0 ≤ g) : chE (upF d) (chE (upF u) t g) g = chE (upF (u + d)) t g := by
 have := ch_comp (F := upF u) (G := upF d) (H := upF (u + d)) (p := 0) (q := 0) (r := 0) (fun n s b _ => by
  rw [upF, v_up, upF]; congr 1; (repeat' split) <;> omega) t g hg hw
 simpa using this
theorem up_after {t : Te} (hw : wfE t) (e d : Int) (he : 0 ≤ e) : chE (upF d) (chE (upF e) t 0) e = chE (upF (e + d)) t 0 := by
 have := ch_comp (F := upF e) (G := upF d) (H := upF (e + d)) (p := 0) (q := e) (r := 0) (fun n s b _ => by
  rw [upF, v_up, upF]; congr 1; (repeat' split) <;> omega) t 0 (by omega) hw
 simpa using this
theorem put_past {t x : Te} (hw : wfE t) (d : Int) (hd : 0 ≤ d) : chE (putF 0 x) (chE (upF (d + 1)) t 0) d = chE (upF d) t 0 := by
 have := ch_comp (F := upF (d + 1)) (G := putF 0 x) (H := upF d) (p := 0) (q := d) (r := 0) (fun n s b hb => by
  rw [upF, v_put, putF, upF, if_neg (by split <;> omega)]; congr 1; (repeat' split) <;> omega) t 0 (by omega) hw
 simpa using this
theorem put_up_swap {t c : Te} (hw : wfE t) (hc : wfE c) (k d : Int) (hk : 0 ≤ k) (hd : 0 ≤ d) : chE (putF k c) (chE (upF d) t 0) d = chE (upF d) (chE (putF k c) t 0) 0 := by
 have := ch_two (F := upF d) (G := putF k c) (F' := putF k c) (G' := upF d) (p := 0) (q := d) (p' := 0) (q' := 0) (fun n s b hb => by
  simp only [Int.zero_add]
  rw [upF, v_put, putF, putF]
  by_cases h : n = k + b
  ·rw [if_pos (show (if b ≤ n then n + d else n) = k + (d + b) by split <;> omega), if_pos h, upE, upE, up_after hc b d hb]
   congr 2; omega
  ·rw [if_neg (show ¬ (if b ≤ n then n + d else n) = k + (d + b) by split <;> omega), if_neg h, v_up]
   congr 1; (repeat' split) <;> omega) t 0 (by omega) hw
 simpa using this
theorem put_back {t x : Te} {f : Int} (hw : wfE t) (hl : clE t f) (k : Int) : chE (putF k x) (chE (upF 1) t k) 0 = t := by
 have h1 := ch_comp (F := upF 1) (G := putF k x) (H := fun n s _ => .node 1 n s []) (p := k) (q := 0) (r := 0) (fun n s b hb => by
  rw [upF, v_put, putF, if_neg (by split <;> omega)]; congr 1; (repeat' split) <;> omega) t 0 (by omega) hw
 rw [ch_id (F := fun n s _ => .node 1 n s []) (f := f) (fun n s b _ _ _ => rfl) t 0 (by omega) (by simpa using hl)] at h1
 simpa using h1
mutual
theorem wf_up : ∀ (t : Te) (u f : Int), wfE t → wfE (chE (upF u) t f)
 | .node k n s l, u, f, h => by
  rw [chE]
  rw [wfE] at h
  split
  ·rw [upF, wfE, wfEL]; exact ⟨fun _ => rfl, fun e => by omega, trivial⟩
  ·rename_i hk; rw [wfE]; exact ⟨fun e => absurd e hk, h.2.1, wf_upL l u _ h.2.2⟩
theorem wf_upL : ∀ (l : List Te) (u f : Int), wfEL l → wfEL (chEL (upF u) l f)
 | [], _, _, _ => by rw [chEL, wfEL]; trivial
 | t :: r, u, f, h => by rw [wfEL] at h; rw [chEL, wfEL]; exact ⟨wf_up t u f h.1, wf_upL r u f h.2⟩
end
mutual
theorem wf_put : ∀ (t : Te) (k : Int) (x : Te) (b : Int), wfE x → wfE t → wfE (chE (putF k x) t b)
 | .node k' n s l, k, x, b, hx, h => by
  rw [chE]
  rw [wfE] at h
  split
  ·rw [putF]
   split
   ·exact wf_up x b 0 hx
   ·rw [wfE, wfEL]; exact ⟨fun _ => rfl, fun e => by omega, trivial⟩
  ·rename_i hk; rw [wfE]; exact ⟨fun e => absurd e hk, h.2.1, wf_putL l k x _ hx h.2.2⟩
theorem wf_putL : ∀ (l : List Te) (k : Int) (x : Te) (b : Int), wfE x → wfEL l → wfEL (chEL (putF k x) l b)
 | [], _, _, _, _, _ => by rw [chEL, wfEL]; trivial
 | t :: r, k, x, b, hx, h => by rw [wfEL] at h; rw [chEL, wfEL]; exact ⟨wf_put t k x b hx h.1, wf_putL r k x b hx h.2⟩
end
theorem put_put {a b c : Te} (ha : wfE a) (hb : wfE b) (hc : wfE c) : putE (putE a 0 b) 0 c = putE (putE a 1 (upE c 1 0)) 0 (putE b 0 c) := by
 have := ch_two (F := putF 0 b) (G := putF 0 c) (F' := putF 1 (upE c 1 0)) (G' := putF 0 (putE b 0 c)) (p := 0) (q := 0) (p' := 0) (q' := 0) (fun n s d hd => by
  simp only [Int.zero_add]
  have L : putF 0 b n s d = (if n = d then upE b d 0 else .node 1 (if d < n then n - 1 else n) s []) := by rw [putF, Int.zero_add]
  have R : putF 1 (upE c 1 0) n s d = (if n = 1 + d then upE (upE c 1 0) d 0 else .node 1 (if 1 + d < n then n - 1 else n) s []) := by rw [putF]
  rw [L, R]
  by_cases h0 : n = d
  ·rw [if_pos h0, if_neg (show ¬ n = 1 + d by omega), if_neg (show ¬ 1 + d < n by omega), v_put, putF, if_pos (show n = 0 + d by omega), upE, upE, put_up_swap hb hc 0 d (by omega) hd]
   rfl
  ·by_cases h1 : n = 1 + d
   ·rw [if_neg h0, if_pos h1, if_pos (show d < n by omega), v_put, putF, if_pos (show n - 1 = 0 + d by omega), upE, upE, upE, up_up hc 1 d 0 (by omega) (by omega), Int.add_comm 1 d, put_past hc d hd]
   ·rw [if_neg h0, if_neg h1, v_put, v_put, putF, putF]
    by_cases h2 : n < d
    ·rw [if_neg (show ¬ d < n by omega), if_neg (show ¬ 1 + d < n by omega), if_neg (show ¬ n = 0 + d by omega), if_neg (show ¬ n = 0 + d by omega)]
    ·rw [if_pos (show d < n by omega), if_pos (show 1 + d < n by omega), if_neg (show ¬ n - 1 = 0 + d by omega), if_neg (show ¬ n - 1 = 0 + d by omega)]) a 0 (by omega) ha
 simpa [putE] using this
theorem up_none {t : Te} {f : Int} (h : clE t f) : upE t 0 0 = t := by
 have := ch_id (F := upF 0) (p := 0) (f := f) (fun n s b _ _ _ => by rw [upF]; congr 1; split <;> omega) t 0 (by omega) (by simpa using h)
 simpa [upE] using this
theorem up_far {t : Te} {f : Int} (h : clE t f) (u g : Int) (hg : f ≤ g) : upE t u g = t := by
 have := ch_id (F := upF u) (p := g) (f := f) (fun n s b _ _ _ => by rw [upF, if_neg (by omega)]) t 0 (by omega) (by simpa using h)
 simpa [upE] using this
theorem put_far {t : Te} (h : clE t 0) (k : Int) (x : Te) (hk : 0 ≤ k) : putE t k x = t := by
 have := ch_id (F := putF k x) (p := 0) (f := 0) (fun n s b _ _ _ => by rw [putF, if_neg (by omega), if_neg (by omega)]) t 0 (by omega) (by simpa using h)
 simpa [putE] using this
theorem put_lam {t x : Te} (ht : wfE t) (hx : wfE x) (k : Int) : chE (putF k x) t 1 = putE t (k + 1) (upE x 1 0) := by
 have := ch_comp (F := fun n s _ => .node 1 n s []) (G := putF k x) (H := putF (k + 1) (upE x 1 0)) (p := 0) (q := 1) (r := 0) (fun n s b hb => by
  rw [v_put, putF, putF]
  by_cases h : n = k + (1 + b)
  ·rw [if_pos h, if_pos (show n = k + 1 + (0 + b) by omega), upE, upE, upE, up_up hx 1 (0 + b) 0 (by omega) (by omega)]; simp
  ·rw [if_neg h, if_neg (show ¬ n = k + 1 + (0 + b) by omega)]; congr 1; (repeat' split) <;> omega) t 0 (by omega) ht
 have h2 : ∀ t : Te, wfE t → chE (fun n s _ => .node 1 n s []) t (0 + 0) = t := by
  intro t h
  have := ch_same t 0 h
  simpa using this
 rw [h2 t ht] at this
 simpa [putE] using this
end Lx
end Go.Proofs.YtiocmiikghcoaaaGreatDoor
namespace Go.Proofs.YtiocmiikghcoaaaGreatDoor
namespace Lx
abbrev n0B : ByteArray := ⟨#[]⟩
def lamE (b : Te) : Te := .node 2 0 n0B [b]
def appE (a b : Te) : Te := .node 3 0 n0B [a, b]
end Lx
end Go.Proofs.YtiocmiikghcoaaaGreatDoor
