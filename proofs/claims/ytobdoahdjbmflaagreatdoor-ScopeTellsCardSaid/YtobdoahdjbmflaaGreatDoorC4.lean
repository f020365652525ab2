/-
  Texts that lie one behind the other: Tm Byx RowTr RcA ScC RcB RcC ScD.
-/
import Derived.Test.YtobdoahdjbmflaaGreatDoorC1
import Derived.Test.YtobdoahdjbmflaaGreatDoorC3
import Derived.Deep.AppendLies
import Derived.Laws.AppendOwnNone
import Derived.Deep.QuietTactic
import Derived.BigQuiet
import Derived.Maps.AppendAt
import Derived.Deep.Light
namespace Go.Proofs.YtobdoahdjbmflaaGreatDoor
namespace Lx
set_option maxRecDepth 100000
def findR : List ByteArray → ByteArray → Nat → Nat
  | [], _, _ => 0
  | x :: r, s, k => if x = s then k else findR r s (k + 1)
/-- How many names stand behind the last one that is s. -/
def findN (b : List ByteArray) (s : ByteArray) : Nat := findR b.reverse s 0
def lam7 (t : Te) : Te := .node 2 0 ⟨#[]⟩ [t]
def two7 (k : Int) (a b : Te) : Te := .node k 0 ⟨#[]⟩ [a, b]
def var7 (n : Int) : Te := .node 1 n ⟨#[]⟩ []
def half7 : Te := lam7 (two7 3 (var7 1) (two7 3 (var7 0) (var7 0)))
def loop7 : Te := lam7 (two7 3 half7 half7)
def hd0 (l : List Te) (i : Nat) : Te := l.getD i (.node 0 0 ⟨#[]⟩ [])
def kind7 (k : Int) : Int := if k = 10 then 8 else if k = 7 then 5 else 4
mutual
def termT : List ByteArray → Tr → Te
  | b, .node k s n _ l =>
    if k = 1 then var7 (findN b s)
    else if k = 2 then lam7 (hd0 (termL (b ++ [s]) l) 0)
    else if k = 3 then two7 3 (hd0 (termL b l) 0) (hd0 (termL b l) 1)
    else if k = 4 then two7 3 (lam7 (hd0 (termL (b ++ [s]) l) 1)) (hd0 (termL b l) 0)
    else if k = 5 then two7 3 (lam7 (hd0 (termL (b ++ [s]) l) 1)) (two7 3 loop7 (lam7 (hd0 (termL (b ++ [s]) l) 0)))
    else if k = 8 then .node 6 n s [hd0 (termL (b ++ varsN n l) l) n.toNat]
    else if k = 9 then .node 7 n ⟨#[]⟩ []
    else .node (kind7 k) 0 s (termL b l)
def termL : List ByteArray → List Tr → List Te
  | _, [] => []
  | b, t :: r => termT b t :: termL b r
end
theorem termL_map (b : List ByteArray) (l : List Tr) : termL b l = l.map (termT b) := by
  induction l with
  | nil => rfl
  | cons t r ih => rw [termL, ih]; rfl
theorem termL_at (b : List ByteArray) (l : List Tr) (i : Nat) (h : i < l.length) : hd0 (termL b l) i = termT b (l[i]'h) := by
  rw [termL_map, hd0, List.getD_eq_getElem?_getD, List.getElem?_map, List.getElem?_eq_getElem h]; rfl
theorem termL_take (b : List ByteArray) (l : List Tr) (i : Nat) (h : i < l.length) : termL b (l.take (i + 1)) = termL b (l.take i) ++ [termT b (l[i]'h)] := by
  rw [termL_map, termL_map, List.take_succ_eq_append_getElem h, List.map_append]; rfl
theorem termL_len (b : List ByteArray) (l : List Tr) : (termL b l).length = l.length := by rw [termL_map, List.length_map]
theorem findR_le (l : List ByteArray) (s : ByteArray) (k : Nat) : findR l s k ≤ k + l.length := by
  induction l generalizing k with
  | nil => simp [findR]
  | cons x r ih =>
    rw [findR]
    split
    · simp
    · have := ih (k + 1); simp; omega
theorem findN_le (b : List ByteArray) (s : ByteArray) : findN b s ≤ b.length := by
  have := findR_le b.reverse s 0; simp [findN] at this ⊢; omega
theorem take_succ_rev (b : List ByteArray) (i : Nat) (h : i < b.length) : (b.take (i + 1)).reverse = (b[i]'h) :: (b.take i).reverse := by
  rw [List.take_succ_eq_append_getElem h, List.reverse_append]; rfl
end Lx
end Go.Proofs.YtobdoahdjbmflaaGreatDoor
namespace Go.Proofs.YtobdoahdjbmflaaGreatDoor
namespace Lx
theorem byte_ext {s t : ByteArray} (h : s.data.toList = t.data.toList) : s = t := by
  obtain ⟨⟨a⟩⟩ := s
  obtain ⟨⟨b⟩⟩ := t
  simp at h
  rw [h]
end Lx
end Go.Proofs.YtobdoahdjbmflaaGreatDoor
namespace Go.Proofs.YtobdoahdjbmflaaGreatDoor
open Go.RowKit
namespace Lx
set_option maxRecDepth 100000
theorem infoT : (Tryz.prog.info? 24).map (fun i => (i.zero, i.size, i.bytes)) = some (some (.agg #[.int .i64 0, .string ⟨#[]⟩, .int .i64 0, .int .i64 0, .slice none 0 0]), 5, 64) := by kernel_rfl
/-- The five cells of a tree. -/
def cellsT (t : Tr) (A : Option Addr) (c : Nat) : List Value := [.int .i64 t.kind, .string t.name, .int .i64 t.n, .int .i64 t.place, .slice A t.parts.length (capF t.parts.length c)]
theorem cellsT_length (t : Tr) (A : Option Addr) (c : Nat) : (cellsT t A c).length = 5 := rfl
/-- The cells xs read as the trees of l. -/
def RowTr (w : World) (X : Nat → Prop) (l : List Tr) (xs : List Value) : Prop :=
  xs.length = l.length * 5 ∧ ∀ (j : Nat) (hj : j < l.length), ∃ A c, (∀ q, q < 5 → xs[j * 5 + q]? = (cellsT (l[j]'hj) A c)[q]?) ∧ TIn w X (l[j]'hj) A
theorem RowTr.nil (w : World) (X : Nat → Prop) : RowTr w X [] [] := ⟨rfl, fun j hj => by simp at hj⟩
theorem RowTr.keep {w w' : World} {X Y : Nat → Prop} {l : List Tr} {xs : List Value} (h : RowTr w X l xs) (hk : ∀ g j, X g → g < w.heap.size → w'.cell? ⟨g, j, none⟩ = w.cell? ⟨g, j, none⟩ ∧ Y g) : RowTr w' Y l xs :=
  ⟨h.1, fun j hj => by
    obtain ⟨A, c, hc, ht⟩ := h.2 j hj
    exact ⟨A, c, hc, TIn.keep _ ht hk⟩⟩
theorem RowTr.below {w w' : World} {X : Nat → Prop} {l : List Tr} {xs : List Value} {B : Nat} (h : RowTr w X l xs) (hb : Below B w w') (hB : w.heap.size ≤ B) : RowTr w' X l xs :=
  h.keep fun g j hX hlt => ⟨hb.cell (p := ⟨g, j, none⟩) (by show g < B; omega), hX⟩
theorem RowTr.wide {w : World} {X Y : Nat → Prop} {l : List Tr} {xs : List Value} (h : RowTr w X l xs) (hXY : ∀ g, X g → g < w.heap.size → Y g) : RowTr w Y l xs :=
  h.keep fun g _ hX hlt => ⟨rfl, hXY g hX hlt⟩
theorem RowTr.setCell {w : World} {X : Nat → Prop} {l : List Tr} {xs : List Value} (h : RowTr w X l xs) (p : Addr) (u : Value) (hp : ¬ X p.block) : RowTr (w.setCell p u) X l xs :=
  h.keep fun g j hX _ => ⟨World.cell?_setCell_other w p ⟨g, j, none⟩ u (fun e => by subst e; exact hp hX), hX⟩
theorem RowTr.grown {w w' : World} {X : Nat → Prop} {l : List Tr} {xs : List Value} {row : Option Nat} (h : RowTr w X l xs) (hg : w.grownBy w' row) (hp : ∀ g, row = some g → ¬ X g) : RowTr w' X l xs :=
  h.keep fun g _ hX hlt => ⟨World.cell?_of_block (hg.block g hlt (fun e => hp g e.symm hX)), hX⟩
theorem RowTr.snoc {w : World} {X : Nat → Prop} {l : List Tr} {xs : List Value} (h : RowTr w X l xs) {t : Tr} {A : Option Addr} {c : Nat} (ht : TIn w X t A) : RowTr w X (l ++ [t]) (xs ++ cellsT t A c) := by
  refine ⟨by simp [h.1, cellsT_length]; omega, fun j hj => ?_⟩
  rcases Nat.lt_or_ge j l.length with hlt | hge
  · obtain ⟨A', c', hc, ht'⟩ := h.2 j hlt
    rw [List.getElem_append_left hlt]
    refine ⟨A', c', fun q hq => ?_, ht'⟩
    rw [List.getElem?_append_left (by rw [h.1]; omega)]
    exact hc q hq
  · have hj' : j = l.length := by simp at hj; omega
    subst hj'
    rw [List.getElem_append_right (Nat.le_refl _)]
    simp only [Nat.sub_self, List.getElem_singleton]
    refine ⟨A, c, fun q hq => ?_, ht⟩
    rw [List.getElem?_append_right (by rw [h.1]; omega), h.1]
    congr 1
    omega
/-- Trees in a row of the call's own are parts. -/
theorem RowTr.parts {w : World} {X Y : Nat → Prop} {l : List Tr} {xs : List Value} {g o : Nat} (h : RowTr w X l xs) (hg : Y g) (hXY : ∀ b, X b → b < w.heap.size → Y b)
    (hc : ∀ j u, xs[j]? = some u → w.cell? ⟨g, o + j, none⟩ = some u) : LIn w Y l (some ⟨g, o, none⟩) 0 := by
  refine LIn.mk l 0 fun i hi => ?_
  obtain ⟨A, c, hx, ht⟩ := h.2 i hi
  rw [Nat.zero_add]
  refine ⟨g, o, A, c, ⟨rfl, hg⟩, hc (i * 5) _ ((hx 0 (by omega)).trans rfl), ?_, ?_, ?_, ?_, TIn.wide _ ht hXY⟩
  · have := hc (i * 5 + 1) _ ((hx 1 (by omega)).trans rfl); simpa [Nat.add_assoc] using this
  · have := hc (i * 5 + 2) _ ((hx 2 (by omega)).trans rfl); simpa [Nat.add_assoc] using this
  · have := hc (i * 5 + 3) _ ((hx 3 (by omega)).trans rfl); simpa [Nat.add_assoc] using this
  · have := hc (i * 5 + 4) _ ((hx 4 (by omega)).trans rfl); simpa [Nat.add_assoc] using this
/-- A row that the call owns. -/
theorem RowTr.owned {w : World} {X Y : Nat → Prop} {l : List Tr} {xs : List Value} {base n c : Nat} {A : Option Addr} (h : RowTr w X l xs) (ho : w.ownsRow base 24 5 (.slice A n c) n xs) (hX : ∀ g, base ≤ g → Y g) (hXY : ∀ b, X b → b < w.heap.size → Y b) :
    LIn w Y l A 0 := by
  by_cases hl : l = []
  · subst hl; rw [LIn]; trivial
  · have hn : 0 < n := by
      have h1 := ho.1
      have h2 := h.1
      have := List.length_pos_iff.2 hl
      omega
    obtain ⟨g, cap, hv⟩ := Joins.ownsRow_form ho hn
    have hA : A = some ⟨g, 0, none⟩ := by injection hv
    subst hA
    refine h.parts (hX g ?_) hXY fun j u hu => ?_
    · rcases ho.2 with ⟨e, _⟩ | ⟨g', _, _, e, hb, _⟩
      · cases e
      · injection e with e; injection e with e; injection e with e; subst e; exact hb
    · have h1 := ho.cells (g := g) rfl j u hu
      have hadd : (⟨g, 0, none⟩ : Addr).add j = ⟨g, 0 + j, none⟩ := by unfold Addr.add; split <;> simp_all
      rw [hadd] at h1
      exact h1
theorem res_tree {fn : Func} {p : Tmp} (h : fn.results = #[.cell p 24]) {tmps : Array Value} {g : Nat} {a b c d e : Value} {w : World} (hp : tmps.getD p undef = .pointer (some ⟨g, 0, none⟩)) (L : Lies w g 24 #[a, b, c, d, e]) :
    (results fn tmps).run Tryz.prog w = .ok (.agg #[a, b, c, d, e]) w := by
  have hl := run_loadVar_row (P := Tryz.prog) w g 24 24 #[a, b, c, d, e] (0, 0) _ L Tryz.underlying24 rfl (by kernel_rfl)
  have hp' : tmps[p]?.getD undef = .pointer (some ⟨g, 0, none⟩) := by simpa using hp
  simp only [results, h]
  simp [hp', asAddr, hl]
theorem Lies.five {w : World} {g : Nat} {t : TypeId} {a b c d e : Value} (h : Lies w g t #[a, b, c, d, e]) :
    (w.cell? ⟨g, 0, none⟩ = some a ∧ w.cell? ⟨g, 1, none⟩ = some b ∧ w.cell? ⟨g, 2, none⟩ = some c ∧ w.cell? ⟨g, 3, none⟩ = some d ∧ w.cell? ⟨g, 4, none⟩ = some e) ∧
    w.frozen? ⟨g, 0, none⟩ = false ∧ w.frozen? ⟨g, 1, none⟩ = false ∧ w.frozen? ⟨g, 2, none⟩ = false ∧ w.frozen? ⟨g, 3, none⟩ = false ∧ w.frozen? ⟨g, 4, none⟩ = false :=
  ⟨⟨h.cell 0, h.cell 1, h.cell 2, h.cell 3, h.cell 4⟩, h.frozen 0, h.frozen 1, h.frozen 2, h.frozen 3, h.frozen 4⟩
theorem Lies.all5 {w : World} {g : Nat} {t : TypeId} {a b c d e : Value} (h : Lies w g t #[a, b, c, d, e]) (x y z u v : Value) : Lies (((((w.setCell ⟨g, 0, none⟩ x).setCell ⟨g, 1, none⟩ y).setCell ⟨g, 2, none⟩ z).setCell ⟨g, 3, none⟩ u).setCell ⟨g, 4, none⟩ v) g t #[x, y, z, u, v] := by
  simpa using ((((h.put 0 x).put 1 y).put 2 z).put 3 u).put 4 v
theorem Below.all5 {B : Nat} {a w : World} (h : Below B a w) {g : Nat} (hg : B ≤ g) (x y z u v : Value) : Below B a (((((w.setCell ⟨g, 0, none⟩ x).setCell ⟨g, 1, none⟩ y).setCell ⟨g, 2, none⟩ z).setCell ⟨g, 3, none⟩ u).setCell ⟨g, 4, none⟩ v) :=
  ((((h.setCell (p := ⟨g, 0, none⟩) hg x).setCell (p := ⟨g, 1, none⟩) hg y).setCell (p := ⟨g, 2, none⟩) hg z).setCell (p := ⟨g, 3, none⟩) hg u).setCell (p := ⟨g, 4, none⟩) hg v
end Lx
end Go.Proofs.YtobdoahdjbmflaaGreatDoor
namespace Go.Proofs.YtobdoahdjbmflaaGreatDoor
open Go.RowKit
namespace Lx
set_option maxRecDepth 100000
/-- Names lie from A on, in blocks of which X holds. -/
def SIn (w : World) (X : Nat → Prop) (l : List ByteArray) (A : Option Addr) : Prop :=
  ∀ (i : Nat) (hi : i < l.length), ∃ g o, A = some ⟨g, o, none⟩ ∧ X g ∧ w.cell? ⟨g, o + i, none⟩ = some (.string (l[i]'hi))
theorem SIn.keep {w w' : World} {X Y : Nat → Prop} {l : List ByteArray} {A : Option Addr} (h : SIn w X l A) (hk : ∀ g j, X g → g < w.heap.size → w'.cell? ⟨g, j, none⟩ = w.cell? ⟨g, j, none⟩ ∧ Y g) : SIn w' Y l A := fun i hi => by
  obtain ⟨g, o, hA, hX, hc⟩ := h i hi
  have := hk g (o + i) hX (cell_lt hc)
  exact ⟨g, o, hA, this.2, this.1.trans hc⟩
theorem SIn.below {w w' : World} {X : Nat → Prop} {l : List ByteArray} {A : Option Addr} {B : Nat} (h : SIn w X l A) (hb : Below B w w') (hB : w.heap.size ≤ B) : SIn w' X l A :=
  h.keep fun g j hX hlt => ⟨hb.cell (p := ⟨g, j, none⟩) (by show g < B; omega), hX⟩
theorem SIn.any {w : World} {X : Nat → Prop} {l : List ByteArray} {A : Option Addr} (h : SIn w X l A) : SIn w Any l A := h.keep fun _ _ _ _ => ⟨rfl, trivial⟩
theorem SIn.nil (w : World) (X : Nat → Prop) (A : Option Addr) : SIn w X [] A := fun i hi => by simp at hi
/-- The cells of names. -/
def cellsS (l : List ByteArray) : List Value := l.map Value.string
theorem cellsS_len (l : List ByteArray) : (cellsS l).length = l.length := by simp [cellsS]
theorem SIn.owned {w : World} {base n c : Nat} {A : Option Addr} {l : List ByteArray} (h : w.ownsRow base 9 1 (.slice A n c) n (cellsS l)) : SIn w (fun g => base ≤ g) l A := by
  have hl : l.length = n := by have := h.1; simp [cellsS] at this; omega
  rcases h.2 with ⟨hv, rfl⟩ | ⟨g, cap, cur, hv, hb, hg, hc, _, hz, ht⟩
  · intro i hi; omega
  · cases hv
    intro i hi
    refine ⟨g, 0, rfl, hb, ?_⟩
    have h1 : (cellsS l)[i]? = some (.string (l[i]'hi)) := by rw [cellsS, List.getElem?_map, List.getElem?_eq_getElem hi]; rfl
    rw [← ht, List.getElem?_take_of_lt (by omega)] at h1
    simp only [World.cell?, hg, Nat.zero_add]
    simpa using h1
theorem SIn.cells {w : World} {X : Nat → Prop} {l : List ByteArray} {g o : Nat} (h : SIn w X l (some ⟨g, o, none⟩)) : ∀ j u, (cellsS l)[j]? = some u → w.cell? ((⟨g, o, none⟩ : Addr).add j) = some u := fun j u hu => by
  rw [cellsS, List.getElem?_map] at hu
  cases hj : l[j]? with
  | none => rw [hj] at hu; cases hu
  | some s =>
    rw [hj] at hu
    cases hu
    obtain ⟨hlt, rfl⟩ := List.getElem?_eq_some_iff.1 hj
    obtain ⟨g', o', hA, _, hc⟩ := h j hlt
    cases hA
    have hadd : (⟨g, o, none⟩ : Addr).add j = ⟨g, o + j, none⟩ := by unfold Addr.add; split <;> simp_all
    rw [hadd]
    exact hc
theorem ename_q (s t : ByteArray) : (s.toList == t.toList) = decide (s = t) := by
  rw [Bool.eq_iff_iff, beq_iff_eq, decide_eq_true_eq]
  refine ⟨fun e => Classical.byContradiction fun h => ?_, fun e => by rw [e]⟩
  rw [data_list, data_list] at e
  exact h (byte_ext e)
theorem infoS : (Tryz.prog.info? 9).map (fun i => (i.zero, i.size, i.bytes)) = some (some (.string ⟨#[]⟩), 1, 16) := by kernel_rfl
set_option maxHeartbeats 1000000 in
theorem in5_any (l : List ByteArray) (s : ByteArray) (A : Option Addr) (m c : Nat) (w : World) (hm : m = l.length) (hm2 : m ≤ 100000) (hI : SIn w Any l A) :
    Calls Tryz.prog 19 #[.slice A m c, .string s] w fun e w' => e = .returned (.bool (inN l s)) ∧ Below w.heap.size w w' := by
  have hm1 : l.length ≤ m := by omega
  have hm3 : m ≤ l.length := by omega
  clear hm
  have HI := Lib.hid hI
  have HN : Hid (inN (l.drop 0) s = inN l s) := Lib.hid (by rw [List.drop_zero])
  clear hI
  go_enter Tryz.func19, Tryz.ntmps19
  go_wp2_with fail
  go_loopw [5] (fun x wr => ∃ i : Nat, i ≤ m ∧ x = .int .i64 i ∧ Hid (inN (l.drop i) s = inN l s) ∧ Below w.heap.size w wr) (fun x _ => m - (intOf x).toNat)
  case atStart => exact ⟨0, by omega, rfl, HN, Below.refl _ w⟩
  case round =>
    obtain ⟨i, hi, rfl, HQ, hbw⟩ := hrel
    have hbs := hbw.size
    by_cases hlt : i < m
    · have hia : i < l.length := by omega
      obtain ⟨g, o, rfl, _, d0⟩ := (HI.out.below hbw (Nat.le_refl _)) i hia
      have HD : Hid (inN (l.drop i) s = (decide (l[i]'hia = s) || inN (l.drop (i + 1)) s)) := Lib.hid (by rw [List.drop_eq_getElem_cons hia, inN])
      obtain ⟨x, hx⟩ : ∃ x, x = l[i]'hia := ⟨_, rfl⟩
      rw [← hx] at d0 HD
      clear hx
      by_cases hxs : x = s
      · have h1 : (x.toList == s.toList) = true := by rw [hxs]; exact BEq.rfl
        have HR : Hid (inN l s = true) := Lib.hid (by rw [← HQ.out, HD.out, hxs]; simp)
        clear hxs
        go_wp2_with fail
        go_ret
        exact ⟨ret_bool HR.out.symm, hbw⟩
      · have h1 : (x.toList == s.toList) = false := by rw [ename_q, decide_eq_false hxs]
        have HR : Hid (inN (l.drop (i + 1)) s = inN l s) := Lib.hid (by rw [← HQ.out, HD.out, decide_eq_false hxs, Bool.false_or])
        clear hxs
        go_wp2_with fail
        go_roundw
        case rel => exact ⟨i + 1, by omega, by go_num, HR, hbw⟩
        case measure => simp [intOf]; omega
    · go_wp2_with fail
      go_ret
      obtain rfl : i = m := by omega
      have := HQ.out
      rw [List.drop_of_length_le hm1] at this
      exact ⟨ret_bool (by rw [← this]; rfl), hbw⟩
/-- What a function that answers names answers. -/
def SGive (l : List ByteArray) (w : World) (e : Ending) (w' : World) : Prop :=
  ∃ A c, e = .returned (.slice A l.length c) ∧ SIn w' Any l A ∧ (A = none → c = 0) ∧ Below w.heap.size w w'
theorem own_some {w : World} {base : Nat} {e : TypeId} {size : Nat} {A : Option Addr} {n c : Nat} {xs : List Value} (h : w.ownsRow base e size (.slice A n c) n xs) : A = none → c = 0 := by
  intro hA
  subst hA
  rcases h.2 with ⟨hv, _⟩ | ⟨g, cap, cur, hv, _⟩
  · injection hv
  · injection hv with h1; cases h1
set_option maxHeartbeats 2000000 in
theorem with5_any (l : List ByteArray) (s : ByteArray) (A : Option Addr) (m c : Nat) (w : World) (hm : m = l.length) (hm2 : m ≤ 100000) (hI : SIn w Any l A) (hA : A = none → c = 0) :
    Calls Tryz.prog 70 #[.slice A m c, .string s] w (SGive (l ++ [s]) w) := by
  have hm1 : l.length ≤ m := by omega
  have hm3 : m ≤ l.length := by omega
  have hml : (cellsS l).length = m := by rw [cellsS_len]; omega
  obtain ⟨i0, hi, hz0, hz1, hz2⟩ := info_parts infoS
  have hown0 : (w.alloc (.cells #[] 9)).ownsRow w.heap.size 9 1 (.slice (some ⟨w.heap.size, 0, none⟩) 0 0) 0 [] := World.ownsRow_made w #[] 0 (Nat.le_refl _) (by simp [maxLen]) rfl
  have hb0 : Below w.heap.size w (w.alloc (.cells #[] 9)) := (Below.refl _ w).alloc (Nat.le_refl _) _
  have HF : Hid (∀ (V : World) (A1 : Option Addr) (n c1 : Nat) (xs : List Value), V.ownsRow w.heap.size 9 1 (.slice A1 n c1) n xs → xs = cellsS (l ++ [s]) → n = m + 1 → Below w.heap.size w V → SGive (l ++ [s]) w (.returned (.slice A1 n c1)) V) := Lib.hid fun V A1 n c1 xs ho hx hn hb => by
    subst hx hn
    refine ⟨A1, c1, ?_, (SIn.owned ho).any, own_some ho, hb⟩
    rw [List.length_append, List.length_singleton, ← hm]
  clear hm
  cases A with
  | none =>
    obtain rfl := hA rfl
    obtain rfl : l = [] := by
      cases l with
      | nil => rfl
      | cons a r => obtain ⟨g, o, h, _⟩ := hI 0 (by simp); cases h
    simp only [List.length_nil] at hm1 hm3
    obtain rfl : m = 0 := by omega
    clear hA hI hm1 hm3 hml
    go_enter Tryz.func70, Tryz.ntmps70
    go_wp2_with (at_builtin; refine wpList_append_own_none rfl (.tmp 5) (.tmp 6) 31 rfl w.heap.size 9 i0 1 Tryz.underlying31 hi _ _ _ rfl hown0 rfl ?_)
    go_ret
    have hb2 := (hb0.alloc hb0.size (.cells #[.string s] 9))
    refine ⟨some ⟨w.heap.size + 1 + 1, 0, none⟩, _, rfl, ?_, (fun h => by cases h), ((hb2.alloc hb2.size _).drew)⟩
    intro i hi
    have hi0 : i = 0 := by simp at hi; omega
    subst hi0
    refine ⟨w.heap.size + 1 + 1, 0, rfl, trivial, ?_⟩
    have L9 := Lies.new ((w.alloc (.cells #[] 9)).alloc (.cells #[.string s] 9)) 9 (#[Value.string s] ++ Builtin.zeroCells #[Value.string { data := #[] }] ((Question.appendCap 1 0 9).cut (w.tape w.drawn (Question.appendCap 1 0 9)) - 1))
    have := L9.drew.cell 0
    rw [Array.getElem?_append_left (by simp)] at this
    simpa using this
  | some ad =>
    have hcl : ∀ j u, (cellsS l)[j]? = some u → w.cell? (ad.add j) = some u := by
      intro j u hu
      cases l with
      | nil => simp [cellsS] at hu
      | cons a r =>
        obtain ⟨g, o, h, _⟩ := hI 0 (by simp)
        cases h
        exact hI.cells j u hu
    have hcb : ∀ j u, (cellsS l)[j]? = some u → (w.alloc (.cells #[] 9)).cell? (ad.add j) = some u := fun j u hu => by
      have h1 := hcl j u hu
      rw [World.cell?_alloc_lt _ _ _ (World.block_lt_of_cell? w _ h1)]; exact h1
    clear hI hA hcl
    go_enter Tryz.func70, Tryz.ntmps70
    go_wp2_with (at_builtin; refine wpList_append_own _ rfl (.tmp 5) (.tmp 6) 31 rfl w.heap.size 9 i0 (.string ⟨#[]⟩) 1 16 Tryz.underlying31 hi hz0 hz1 hz2 rfl (by decide) _ _ _ rfl hown0 ad m c (cellsS l) rfl (by omega) hcb ?c2 ?c3 ?c4 ?c5 ?_)
    case c2 => intro u hu; simp [cellsS] at hu; obtain ⟨a, _, rfl⟩ := hu; rfl
    case c3 => unfold maxLen; omega
    case c4 => omega
    case c5 => simp
    intro v1 w1 hown1 hg1 _
    obtain ⟨A1, c1, rfl⟩ := own_slice hown1
    have hb1 : Below w.heap.size w w1 := hb0.grown hg1 (by simp) (fun k hk => (hown0.lt k hk).1)
    have hs1 := hb1.size
    clear hown0 hg1 hb0 hcb
    go_wp2_with (at_builtin; refine wpList_append_own _ rfl (.tmp 7) (.tmp 9) 31 rfl w.heap.size 9 i0 (.string ⟨#[]⟩) 1 16 Tryz.underlying31 hi hz0 hz1 hz2 rfl (by decide) _ _ _ rfl (hown1.alloc _) ⟨w1.heap.size, 0, none⟩ 1 1 [.string s] rfl rfl ?c1 ?c2 ?c3 ?c4 ?c5 ?_)
    case c1 => exact new_cells _ 9 [.string s] _ rfl
    case c2 => intro u hu; simp at hu; subst hu; rfl
    case c3 => unfold maxLen; omega
    case c4 => omega
    case c5 => simp; omega
    intro v2 w2 hown2 hg2 _
    obtain ⟨A2, c2, rfl⟩ := own_slice hown2
    have hb2 : Below w.heap.size w w2 := ((hb1.alloc hb1.size _).grown hg2 (by simp; omega) (fun k hk => (hown1.lt k hk).1))
    clear hi hz0 hz1 hz2 hown1 hg2 hb1
    go_wp2_with fail
    go_ret
    exact HF.out _ _ _ _ _ hown2 (by simp [cellsS]) rfl hb2
end Lx
end Go.Proofs.YtobdoahdjbmflaaGreatDoor
namespace Go.Proofs.YtobdoahdjbmflaaGreatDoor
open Go Go.RowKit
namespace Lx
set_option maxRecDepth 100000
abbrev spotV (k n a : Int) (s : ByteArray) (A : Option Addr) (m c : Nat) (fr tw : Bool) : Value := .agg #[.int .i64 k, .string s, .int .i64 n, .int .i64 a, .slice A m c, .bool fr, .bool tw]
abbrev spotC (k n a : Int) (s : ByteArray) (A : Option Addr) (m c : Nat) (fr tw : Bool) : Array Value := #[.int .i64 k, .string s, .int .i64 n, .int .i64 a, .slice A m c, .bool fr, .bool tw]
theorem seven_cells {w : World} {g : Nat} {t : TypeId} {a b c d e f h : Value} (L : Lies w g t #[a, b, c, d, e, f, h]) : w.cell? ⟨g, 0, none⟩ = some a ∧ w.cell? ⟨g, 1, none⟩ = some b ∧ w.cell? ⟨g, 2, none⟩ = some c ∧ w.cell? ⟨g, 3, none⟩ = some d ∧ w.cell? ⟨g, 4, none⟩ = some e ∧ w.cell? ⟨g, 5, none⟩ = some f ∧ w.cell? ⟨g, 6, none⟩ = some h := ⟨L.cell 0, L.cell 1, L.cell 2, L.cell 3, L.cell 4, L.cell 5, L.cell 6⟩
theorem vars_no (k n a : Int) (s : ByteArray) (A : Option Addr) (m c : Nat) (fr tw : Bool) (w : World) (hk : k ≠ 8) :
    Calls Tryz.prog 65 #[spotV k n a s A m c fr tw] w fun e w' => e = .returned (.slice none 0 0) ∧ Below w.heap.size w w' := by
  have hk1 : (k != 8) = true := by simpa using hk
  obtain ⟨W, hW⟩ : ∃ W, W = w.alloc (.cells (spotC k n a s A m c fr tw) 54) := ⟨_, rfl⟩
  have hb : Below w.heap.size w W := by rw [hW]; exact (Below.refl _ w).alloc (Nat.le_refl _) _
  have L : Lies W w.heap.size 54 (spotC k n a s A m c fr tw) := by rw [hW]; exact Lies.new _ _ _
  obtain ⟨c0, c1, c2, c3, c4, c5, c6⟩ := seven_cells L
  clear L
  go_enter Tryz.func65, Tryz.ntmps65
  go_upto_region 1 with fail
  rw [← hW]
  clear hW
  go_wp2_with fail
  go_ret
  exact ⟨rfl, hb⟩
theorem vars_alt (n : Nat) (a : Int) (s : ByteArray) (g o : Nat) (m c : Nat) (fr tw : Bool) (w : World) (hn : n ≤ c) :
    Calls Tryz.prog 65 #[spotV 8 n a s (some ⟨g, o, none⟩) m c fr tw] w fun e w' => e = .returned (.slice (some ⟨g, o, none⟩) n c) ∧ Below w.heap.size w w' := by
  obtain ⟨W, hW⟩ : ∃ W, W = w.alloc (.cells (spotC 8 n a s (some ⟨g, o, none⟩) m c fr tw) 54) := ⟨_, rfl⟩
  have hb : Below w.heap.size w W := by rw [hW]; exact (Below.refl _ w).alloc (Nat.le_refl _) _
  have L : Lies W w.heap.size 54 (spotC 8 n a s (some ⟨g, o, none⟩) m c fr tw) := by rw [hW]; exact Lies.new _ _ _
  obtain ⟨c0, c1, c2, c3, c4, c5, c6⟩ := seven_cells L
  clear L
  go_enter Tryz.func65, Tryz.ntmps65
  go_upto_region 1 with fail
  rw [← hW]
  clear hW
  go_wp2_with fail
  go_ret
  exact ⟨rfl, hb⟩
/-- How many parts the constructor has here, if there is one. -/
theorem arity_any (k n a : Int) (s : ByteArray) (A : Option Addr) (m c : Nat) (fr tw : Bool) (w : World) :
    Calls Tryz.prog 41 #[spotV k n a s A m c fr tw] w fun e w' => e = .returned (.tuple #[.int .i64 (if k = 6 then (m : Int) else if k = 8 then n else 0), .bool (decide (k = 6 ∨ k = 8))]) ∧ Below w.heap.size w w' := by
  obtain ⟨W, hW⟩ : ∃ W, W = w.alloc (.cells (spotC k n a s A m c fr tw) 54) := ⟨_, rfl⟩
  have hb : Below w.heap.size w W := by rw [hW]; exact (Below.refl _ w).alloc (Nat.le_refl _) _
  have L : Lies W w.heap.size 54 (spotC k n a s A m c fr tw) := by rw [hW]; exact Lies.new _ _ _
  obtain ⟨c0, c1, c2, c3, c4, c5, c6⟩ := seven_cells L
  clear L
  by_cases h6 : k = 6
  · subst h6
    go_enter Tryz.func41, Tryz.ntmps41
    go_upto_region 1 with fail
    rw [← hW]
    clear hW
    go_wp2_with fail
    go_ret2
    exact ⟨by simp, hb⟩
  · have e6 : (k == 6) = false := by simpa using h6
    by_cases h8 : k = 8
    · subst h8
      go_enter Tryz.func41, Tryz.ntmps41
      go_upto_region 1 with fail
      rw [← hW]
      clear hW
      go_wp2_with fail
      go_ret2
      exact ⟨by simp, hb⟩
    · have e8 : (k == 8) = false := by simpa using h8
      go_enter Tryz.func41, Tryz.ntmps41
      go_upto_region 1 with fail
      rw [← hW]
      clear hW
      go_wp2_with fail
      go_ret2
      exact ⟨by simp, hb⟩
end Lx
end Go.Proofs.YtobdoahdjbmflaaGreatDoor
namespace Go.Proofs.YtobdoahdjbmflaaGreatDoor
open Go.RowKit
namespace Lx
set_option maxRecDepth 100000
/-- Arities lie from A on, in blocks of which X holds. -/
def AIn (w : World) (X : Nat → Prop) (l : List (ByteArray × Int)) (A : Option Addr) : Prop :=
  ∀ (i : Nat) (hi : i < l.length), ∃ g o, A = some ⟨g, o, none⟩ ∧ X g ∧ w.cell? ⟨g, o + i * 2, none⟩ = some (.string (l[i]'hi).1) ∧ w.cell? ⟨g, o + i * 2 + 1, none⟩ = some (.int .i64 (l[i]'hi).2)
theorem AIn.keep {w w' : World} {X Y : Nat → Prop} {l : List (ByteArray × Int)} {A : Option Addr} (h : AIn w X l A) (hk : ∀ g j, X g → g < w.heap.size → w'.cell? ⟨g, j, none⟩ = w.cell? ⟨g, j, none⟩ ∧ Y g) : AIn w' Y l A := fun i hi => by
  obtain ⟨g, o, hA, hX, hc, hd⟩ := h i hi
  have := hk g (o + i * 2) hX (cell_lt hc)
  exact ⟨g, o, hA, this.2, this.1.trans hc, (hk g (o + i * 2 + 1) hX (cell_lt hc)).1.trans hd⟩
theorem AIn.below {w w' : World} {X : Nat → Prop} {l : List (ByteArray × Int)} {A : Option Addr} {B : Nat} (h : AIn w X l A) (hb : Below B w w') (hB : w.heap.size ≤ B) : AIn w' X l A :=
  h.keep fun g j hX hlt => ⟨hb.cell (p := ⟨g, j, none⟩) (by show g < B; omega), hX⟩
theorem AIn.any {w : World} {X : Nat → Prop} {l : List (ByteArray × Int)} {A : Option Addr} (h : AIn w X l A) : AIn w Any l A := h.keep fun _ _ _ _ => ⟨rfl, trivial⟩
/-- The cells of arities. -/
def cellsA (l : List (ByteArray × Int)) : List Value := l.flatMap fun a => [.string a.1, .int .i64 a.2]
theorem cellsA_len (l : List (ByteArray × Int)) : (cellsA l).length = l.length * 2 := by
  induction l with
  | nil => rfl
  | cons a r ih => simp [cellsA] at ih ⊢; omega
theorem cellsA_at (l : List (ByteArray × Int)) (i : Nat) (hi : i < l.length) : (cellsA l)[i * 2]? = some (.string (l[i]'hi).1) ∧ (cellsA l)[i * 2 + 1]? = some (.int .i64 (l[i]'hi).2) := by
  induction l generalizing i with
  | nil => simp at hi
  | cons a r ih =>
    cases i with
    | zero => exact ⟨rfl, rfl⟩
    | succ i =>
      have := ih i (by simpa using hi)
      rw [show (i + 1) * 2 = i * 2 + 2 from by omega, show i * 2 + 2 + 1 = i * 2 + 1 + 2 from by omega]
      exact this
theorem cellsA_split (l : List (ByteArray × Int)) (j : Nat) (u : Value) (h : (cellsA l)[j]? = some u) : ∃ (i : Nat) (hi : i < l.length), (j = i * 2 ∧ u = .string (l[i]'hi).1) ∨ (j = i * 2 + 1 ∧ u = .int .i64 (l[i]'hi).2) := by
  have hj : j < (cellsA l).length := by
    by_cases hx : j < (cellsA l).length
    · exact hx
    · rw [List.getElem?_eq_none (by omega)] at h; cases h
  rw [cellsA_len] at hj
  have hi : j / 2 < l.length := by omega
  have h2 := cellsA_at l (j / 2) hi
  rcases (by omega : j = j / 2 * 2 ∨ j = j / 2 * 2 + 1) with e | e
  · rw [e, h2.1] at h; cases h; exact ⟨j / 2, hi, .inl ⟨e, rfl⟩⟩
  · rw [e, h2.2] at h; cases h; exact ⟨j / 2, hi, .inr ⟨e, rfl⟩⟩
theorem AIn.owned {w : World} {base n c : Nat} {A : Option Addr} {l : List (ByteArray × Int)} (h : w.ownsRow base 43 2 (.slice A n c) n (cellsA l)) : AIn w (fun g => base ≤ g) l A := by
  have hl : l.length = n := by have := h.1; rw [cellsA_len] at this; omega
  rcases h.2 with ⟨hv, rfl⟩ | ⟨g, cap, cur, hv, hb, hg, hc, _, hz, ht⟩
  · intro i hi; omega
  · cases hv
    intro i hi
    have h2 := cellsA_at l i hi
    rw [← ht, List.getElem?_take_of_lt (by omega), List.getElem?_take_of_lt (by omega)] at h2
    refine ⟨g, 0, rfl, hb, ?_, ?_⟩
    · simp only [World.cell?, hg, Nat.zero_add]; simpa using h2.1
    · simp only [World.cell?, hg, Nat.zero_add]; simpa using h2.2
theorem AIn.cells {w : World} {X : Nat → Prop} {l : List (ByteArray × Int)} {ad : Addr} (h : AIn w X l (some ad)) : ∀ j u, (cellsA l)[j]? = some u → w.cell? (ad.add j) = some u := fun j u hu => by
  obtain ⟨i, hi, hh⟩ := cellsA_split l j u hu
  obtain ⟨g, o, hA, _, hc, hd⟩ := h i hi
  cases hA
  have hadd : (⟨g, o, none⟩ : Addr).add j = ⟨g, o + j, none⟩ := by unfold Addr.add; split <;> simp_all
  rw [hadd]
  rcases hh with ⟨rfl, rfl⟩ | ⟨rfl, rfl⟩
  · exact hc
  · exact hd
theorem infoA : (Tryz.prog.info? 43).map (fun i => (i.zero, i.size, i.bytes)) = some (some (.agg #[.string ⟨#[]⟩, .int .i64 0]), 2, 24) := by kernel_rfl
set_option maxHeartbeats 1000000 in
theorem of5_any (l : List (ByteArray × Int)) (s : ByteArray) (A : Option Addr) (m c : Nat) (w : World) (hm : m = l.length) (hm2 : m ≤ 100000) (hI : AIn w Any l A) :
    Calls Tryz.prog 21 #[.slice A m c, .string s] w fun e w' => e = .returned (.int .i64 (ofN l s)) ∧ Below w.heap.size w w' := by
  have hm1 : l.length ≤ m := by omega
  have hm3 : m ≤ l.length := by omega
  clear hm
  have HI := Lib.hid hI
  have HN : Hid (ofN (l.drop 0) s = ofN l s) := Lib.hid (by rw [List.drop_zero])
  clear hI
  go_enter Tryz.func21, Tryz.ntmps21
  go_wp2_with fail
  go_loopw [5] (fun x wr => ∃ i : Nat, i ≤ m ∧ x = .int .i64 i ∧ Hid (ofN (l.drop i) s = ofN l s) ∧ Below w.heap.size w wr) (fun x _ => m - (intOf x).toNat)
  case atStart => exact ⟨0, by omega, rfl, HN, Below.refl _ w⟩
  case round =>
    obtain ⟨i, hi, rfl, HQ, hbw⟩ := hrel
    have hbs := hbw.size
    by_cases hlt : i < m
    · have hia : i < l.length := by omega
      obtain ⟨g, o, rfl, _, d0, d1⟩ := (HI.out.below hbw (Nat.le_refl _)) i hia
      have HD : Hid (ofN (l.drop i) s = if (l[i]'hia).1 = s then (l[i]'hia).2 else ofN (l.drop (i + 1)) s) := Lib.hid (by rw [List.drop_eq_getElem_cons hia, ofN])
      obtain ⟨x, hx⟩ : ∃ x, x = (l[i]'hia).1 := ⟨_, rfl⟩
      obtain ⟨v, hv⟩ : ∃ v, v = (l[i]'hia).2 := ⟨_, rfl⟩
      rw [← hx] at d0 HD
      rw [← hv] at d1 HD
      clear hx hv
      by_cases hxs : x = s
      · have h1 : (x.toList == s.toList) = true := by rw [hxs]; exact BEq.rfl
        have HR : Hid (ofN l s = v) := Lib.hid (by rw [← HQ.out, HD.out, if_pos hxs])
        clear hxs
        go_wp2_with fail
        go_ret
        exact ⟨ret_int HR.out.symm, hbw⟩
      · have h1 : (x.toList == s.toList) = false := by rw [ename_q, decide_eq_false hxs]
        have HR : Hid (ofN (l.drop (i + 1)) s = ofN l s) := Lib.hid (by rw [← HQ.out, HD.out, if_neg hxs])
        clear hxs
        go_wp2_with fail
        go_roundw
        case rel => exact ⟨i + 1, by omega, by go_num, HR, hbw⟩
        case measure => simp [intOf]; omega
    · go_wp2_with fail
      go_ret
      obtain rfl : i = m := by omega
      have := HQ.out
      rw [List.drop_of_length_le hm1] at this
      exact ⟨ret_int (by rw [← this]; rfl), hbw⟩
theorem own5_any (k n a : Int) (s : ByteArray) (A : Option Addr) (l : List Tr) (m c : Nat) (w : World) (hm : m = l.length) :
    Calls Tryz.prog 45 #[.agg #[.int .i64 k, .string s, .int .i64 n, .int .i64 a, .slice A m c]] w fun e w' => e = .returned (.int .i64 (ownN k n l)) ∧ Below w.heap.size w w' := by
  have hb : Below w.heap.size w (w.alloc (.cells #[.int .i64 k, .string s, .int .i64 n, .int .i64 a, .slice A m c] 24)) := (Below.refl _ w).alloc (Nat.le_refl _) _
  have HE : Hid (ownN k n l = if k = 6 then (m : Int) else if k = 8 then n else -1) := Lib.hid (by rw [hm]; rfl)
  clear hm
  rcases (by omega : k = 6 ∨ k = 8 ∨ (k ≠ 6 ∧ k ≠ 8)) with rfl | rfl | ⟨h2, h6⟩
  · go_enter Tryz.func45, Tryz.ntmps45
    go_wp2_with fail
    go_ret
    exact ⟨ret_int (by rw [HE.out]; rfl), hb⟩
  · go_enter Tryz.func45, Tryz.ntmps45
    go_wp2_with fail
    go_ret
    exact ⟨ret_int (by rw [HE.out]; rfl), hb⟩
  · have e2 : (k == 6) = false := by simpa using h2
    have e6 : (k == 8) = false := by simpa using h6
    have HF : Hid (ownN k n l = -1) := Lib.hid (by rw [HE.out, if_neg h2, if_neg h6])
    clear h2 h6
    go_enter Tryz.func45, Tryz.ntmps45
    go_wp2_with fail
    go_ret
    exact ⟨ret_int HF.out.symm, hb⟩
theorem from5_any (k n a : Int) (s : ByteArray) (A : Option Addr) (m c : Nat) (w : World) (hn : k = 8 → 0 ≤ n) :
    Calls Tryz.prog 47 #[.agg #[.int .i64 k, .string s, .int .i64 n, .int .i64 a, .slice A m c]] w fun e w' => e = .returned (.int .i64 (fromN k n)) ∧ Below w.heap.size w w' := by
  have hb : Below w.heap.size w (w.alloc (.cells #[.int .i64 k, .string s, .int .i64 n, .int .i64 a, .slice A m c] 24)) := (Below.refl _ w).alloc (Nat.le_refl _) _
  by_cases h8 : k = 8
  · have h0 := hn h8
    subst h8
    have HE : Hid (((fromN 8 n : Nat) : Int) = n) := Lib.hid (by rw [fromN, if_pos rfl]; omega)
    go_enter Tryz.func47, Tryz.ntmps47
    go_wp2_with fail
    go_ret
    exact ⟨ret_int HE.out.symm, hb⟩
  · have e2 : (k == 8) = false := by simpa using h8
    have HE : Hid (((fromN k n : Nat) : Int) = 0) := Lib.hid (by rw [fromN, if_neg h8]; rfl)
    clear hn h8
    go_enter Tryz.func47, Tryz.ntmps47
    go_wp2_with fail
    go_ret
    exact ⟨ret_int HE.out.symm, hb⟩
theorem inN_snoc (l : List ByteArray) (x s : ByteArray) : inN (l ++ [x]) s = (inN l s || decide (x = s)) := by
  induction l with
  | nil => simp [inN]
  | cons a r ih => simp only [List.cons_append, inN, ih, Bool.or_assoc]
theorem twiceN_snoc (l : List ByteArray) (s : ByteArray) : twiceN (l ++ [s]) = (twiceN l || inN l s) := by
  induction l with
  | nil => simp [twiceN, inN]
  | cons a r ih =>
    simp only [List.cons_append, twiceN, ih, inN_snoc, inN]
    have : decide (s = a) = decide (a = s) := by rw [decide_eq_decide]; exact eq_comm
    rw [this]
    cases inN r a <;> cases twiceN r <;> cases inN r s <;> cases decide (a = s) <;> rfl
theorem twiceN_app (l r : List ByteArray) (h : twiceN l = true) : twiceN (l ++ r) = true := by
  induction l with
  | nil => simp [twiceN] at h
  | cons a q ih =>
    simp only [List.cons_append, twiceN, Bool.or_eq_true] at h ⊢
    rcases h with h | h
    · refine .inl ?_
      have : ∀ (q r : List ByteArray), inN q a = true → inN (q ++ r) a = true := by
        intro q r
        induction q with
        | nil => intro h; simp [inN] at h
        | cons b q ih => intro h; simp only [List.cons_append, inN, Bool.or_eq_true] at h ⊢; rcases h with h | h; exact .inl h; exact .inr (ih h)
      exact this q r h
    · exact .inr (ih h)
theorem varsN_eq : ∀ (l : List Tr) (n : Int), 0 ≤ n → varsN n l = (l.take n.toNat).map Tr.name
  | [], n, _ => by simp [varsN]
  | t :: r, n, h => by
    rw [varsN]
    split
    · obtain rfl : n = 0 := by omega
      rfl
    · rw [varsN_eq r (n - 1) (by omega)]
      obtain ⟨j, hj⟩ : ∃ j, n.toNat = j + 1 := ⟨n.toNat - 1, by omega⟩
      rw [hj, show (n - 1).toNat = j from by omega]
      rfl
end Lx
end Go.Proofs.YtobdoahdjbmflaaGreatDoor
namespace Go.Proofs.YtobdoahdjbmflaaGreatDoor
open Go.RowKit
namespace Lx
set_option maxRecDepth 100000
theorem varsN_at (l : List Tr) (n : Int) (h0 : 0 ≤ n) (i : Nat) (hi : (i : Int) < n) (hl : i < l.length) : (varsN n l)[i]? = some (l[i]'hl).name := by
  rw [varsN_eq l n h0, List.getElem?_map, List.getElem?_take_of_lt (by omega), List.getElem?_eq_getElem hl]; rfl
theorem varsN_len (l : List Tr) (n : Int) (h0 : 0 ≤ n) (hn : n ≤ l.length) : ((varsN n l).length : Int) = n := by
  rw [varsN_eq l n h0, List.length_map, List.length_take]; omega
theorem varsN_take (l : List Tr) (n : Int) (h0 : 0 ≤ n) (i : Nat) (hi : (i : Int) < n) (hl : i < l.length) : (varsN n l).take (i + 1) = (varsN n l).take i ++ [(l[i]'hl).name] := by
  have h := varsN_at l n h0 i hi hl
  obtain ⟨hlt, he⟩ := List.getElem?_eq_some_iff.1 h
  rw [List.take_succ_eq_append_getElem hlt, he]
set_option maxHeartbeats 4000000 in
theorem twice5_any (k n a : Int) (s : ByteArray) (l : List Tr) (A : Option Addr) (m c : Nat) (w : World) (hm : m = l.length) (hm9 : m ≤ 100000) (h0 : 0 ≤ n) (hn : n ≤ m) (hI : LIn w Any l A 0) :
    Calls Tryz.prog 46 #[.agg #[.int .i64 k, .string s, .int .i64 n, .int .i64 a, .slice A m c]] w fun e w' => e = .returned (.bool (twiceN (varsN n l))) ∧ Below w.heap.size w w' := by
  have hb : Below w.heap.size w (w.alloc (.cells #[.int .i64 k, .string s, .int .i64 n, .int .i64 a, .slice A m c] 24)) := (Below.refl _ w).alloc (Nat.le_refl _) _
  have hL := Lies.new w 24 #[.int .i64 k, .string s, .int .i64 n, .int .i64 a, .slice A m c]
  have hm1 : m ≤ l.length := by omega
  have HI := Lib.hid hI
  have HV : Hid (((varsN n l).length : Int) = n) := Lib.hid (varsN_len l n h0 (by omega))
  have HVA : Hid (∀ (i : Nat) (hi : (i : Int) < n) (hl : i < l.length), (varsN n l).take (i + 1) = (varsN n l).take i ++ [(l[i]'hl).name]) := Lib.hid (varsN_take l n h0)
  have HT0 : Hid (twiceN ((varsN n l).take 0) = false) := Lib.hid rfl
  have HI0 : ∀ x, Hid (inN ((varsN n l).take 0) x = false) := fun x => Lib.hid rfl
  have HTW : Hid (∀ i : Nat, twiceN ((varsN n l).take i) = true → twiceN (varsN n l) = true) := Lib.hid fun i h => by
    rw [← List.take_append_drop i (varsN n l)]; exact twiceN_app _ _ h
  have HIN : Hid (∀ (i q : Nat) (x : ByteArray), q ≤ i → inN ((varsN n l).take q) x = true → inN ((varsN n l).take i) x = true) := Lib.hid fun i q x hq h => by
    have e : (varsN n l).take i = (varsN n l).take q ++ ((varsN n l).take i).drop q := by
      have := List.take_append_drop q ((varsN n l).take i)
      rw [List.take_take, Nat.min_eq_left hq] at this
      exact this.symm
    rw [e]
    generalize ((varsN n l).take i).drop q = r
    revert h
    generalize (varsN n l).take q = p
    intro h
    induction p with
    | nil => simp [inN] at h
    | cons b p ih => simp only [List.cons_append, inN, Bool.or_eq_true] at h ⊢; rcases h with h | h; exact .inl h; exact .inr (ih h)
  clear hI hm
  go_enter Tryz.func46, Tryz.ntmps46
  go_wp2_with fail
  go_loopw [3] (fun x wr => ∃ i : Nat, (i : Int) ≤ n ∧ x = .int .i64 i ∧ Hid (twiceN ((varsN n l).take i) = false) ∧ Lies wr w.heap.size 24 #[.int .i64 k, .string s, .int .i64 n, .int .i64 a, .slice A m c] ∧ Below w.heap.size w wr) (fun x _ => n.toNat - (intOf x).toNat)
  case atStart => exact ⟨0, by omega, rfl, HT0, hL, hb⟩
  case round =>
    obtain ⟨i, hi, rfl, HQ, hLr, hbw⟩ := hrel
    have hbs := hbw.size
    have c2 := hLr.five.1.2.2.1
    by_cases hlt : (i : Int) < n
    · have hia : i < l.length := by omega
      have him : i < m := by omega
      obtain ⟨g, o, A', c', ⟨hA, _⟩, d0, d1, d2, d3, d4, _⟩ := LIn.at_ l (LIn.keep l HI.out fun g j _ h => ⟨hbw.cell (p := ⟨g, j, none⟩) h, trivial⟩) i hia
      subst hA
      simp only [Nat.zero_add] at d1
      have HN1 : Hid ((varsN n l).take (i + 1) = (varsN n l).take i ++ [(l[i]'hia).name]) := Lib.hid (HVA.out i hlt hia)
      obtain ⟨x, hx⟩ : ∃ x, x = (l[i]'hia).name := ⟨_, rfl⟩
      rw [← hx] at d1 HN1
      clear hx d0 d2 d3 d4
      have hgw : g < w.heap.size := by obtain ⟨g0, o0, A0, c0, ⟨hA0, _⟩, hx0, _⟩ := LIn.at_ l HI.out i hia; cases hA0; exact cell_lt hx0
      have HD1 : Hid (∀ V, Below w.heap.size w V → V.cell? ⟨g, o + i * 5 + 1, none⟩ = some (.string x)) := Lib.hid fun V h => (h.cell (p := ⟨g, o + i * 5 + 1, none⟩) hgw).trans ((hbw.cell (p := ⟨g, o + i * 5 + 1, none⟩) hgw).symm.trans d1)
      go_wp2_with fail
      go_loopw [4] (fun y wr2 => ∃ q : Nat, q ≤ i ∧ y = .int .i64 q ∧ Hid (inN ((varsN n l).take q) x = false) ∧ Lies wr2 w.heap.size 24 #[.int .i64 k, .string s, .int .i64 n, .int .i64 a, .slice (some ⟨g, o, none⟩) m c] ∧ Below w.heap.size w wr2) (fun y _ => i - (intOf y).toNat)
      case atStart => exact ⟨0, by omega, rfl, HI0 x, hLr, hbw⟩
      case round =>
        clear hLr hbw hbs d1 c2
        obtain ⟨q, hq, rfl, HP, hLr, hbw⟩ := hrel
        have hbs := hbw.size
        have c2 := hLr.five.1.2.2.1
        have d1 := (HD1.out _ hbw)
        by_cases hlq : q < i
        · have hqa : q < l.length := by omega
          have hqm : q < m := by omega
          have hqi : (q : Int) < (i : Int) := by omega
          obtain ⟨g', o', A', c', ⟨hA, _⟩, e0, e1, e2, e3, e4, _⟩ := LIn.at_ l (LIn.keep l HI.out fun g j _ h => ⟨hbw.cell (p := ⟨g, j, none⟩) h, trivial⟩) q hqa
          injection hA with hA
          injection hA with hA hA1
          subst hA hA1
          simp only [Nat.zero_add] at e1
          have HN2 : Hid ((varsN n l).take (q + 1) = (varsN n l).take q ++ [(l[q]'hqa).name]) := Lib.hid (HVA.out q (by omega) hqa)
          obtain ⟨z, hz⟩ : ∃ z, z = (l[q]'hqa).name := ⟨_, rfl⟩
          rw [← hz] at e1 HN2
          clear hz e0 e2 e3 e4
          obtain ⟨⟨c0, c1, _, c3, c4⟩, _⟩ := hLr.five
          by_cases hxz : x = z
          · have h1 : (x.toList == z.toList) = true := by rw [hxz]; exact BEq.rfl
            have HR : Hid (twiceN (varsN n l) = true) := Lib.hid (HTW.out (i + 1) (by
              rw [HN1.out, twiceN_snoc, HIN.out i (q + 1) x (by omega) (by rw [HN2.out, inN_snoc, hxz]; simp), Bool.or_true]))
            clear hxz
            go_upto_region 7 with fail
            go_quiet (fail)
            go_wp2_with fail
            go_ret
            exact ⟨ret_bool HR.out.symm, below_drewN hbw _⟩
          · have h1 : (x.toList == z.toList) = false := by rw [ename_q, decide_eq_false hxz]
            have HR : Hid (inN ((varsN n l).take (q + 1)) x = false) := Lib.hid (by
              rw [HN2.out, inN_snoc, HP.out, Bool.false_or, decide_eq_false (fun e => hxz e.symm)])
            clear hxz
            go_upto_region 7 with fail
            go_quiet (fail)
            go_wp2_with fail
            go_roundw
            case rel => exact ⟨q + 1, by omega, by go_num, HR, hLr, below_drewN hbw _⟩
            case measure => simp [intOf]; omega
        · have hqi : ¬ (q : Int) < (i : Int) := by omega
          obtain rfl : q = i := by omega
          have HR : Hid (twiceN ((varsN n l).take (q + 1)) = false) := Lib.hid (by rw [HN1.out, twiceN_snoc, HQ.out, HP.out]; rfl)
          go_wp2_with fail
          go_roundw
          case rel => exact ⟨q + 1, by omega, by go_num, HR, hLr, hbw⟩
          case measure => simp [intOf]; omega
    · go_wp2_with fail
      go_ret
      have e1 := HV.out
      have := HQ.out
      rw [List.take_of_length_le (by omega)] at this
      exact ⟨ret_bool this.symm, hbw⟩
end Lx
end Go.Proofs.YtobdoahdjbmflaaGreatDoor
namespace Go.Proofs.YtobdoahdjbmflaaGreatDoor
open Go Go.RowKit
attribute [local go_sem] Oper.semAt_some
namespace Lx
set_option maxRecDepth 100000
/-- The names that are bound in part number i. -/
def bindN (k n : Int) (s : ByteArray) (i : Nat) (l : List Tr) : List ByteArray :=
  if k = 2 ∨ k = 5 then [s] else if k = 4 then (if i = 1 then [s] else []) else if k = 8 then varsN n l else []
theorem inner_bind (k n : Int) (s : ByteArray) (i : Nat) (l : List Tr) (b : List ByteArray) : innerN k n s i l b = b ++ bindN k n s i l := by
  unfold innerN bindN
  repeat' split
  all_goals simp
theorem info_partsS {P : Program} {e : TypeId} {z : Value} {s b : Nat} (h : (P.info? e).map (fun i => (i.zero, i.size, i.bytes)) = some (some z, s, b)) : ∃ i, P.info? e = some i ∧ i.zero = some z ∧ i.size = s ∧ i.bytes = b := by
  cases hi : P.info? e with
  | none => rw [hi] at h; cases h
  | some i => rw [hi] at h; simp at h; exact ⟨i, rfl, h.1, h.2.1, h.2.2⟩
theorem own_one (w : World) (s : ByteArray) : (w.alloc (.cells #[.string s] 9)).ownsRow w.heap.size 9 1 (.slice (some ⟨w.heap.size, 0, none⟩) 1 1) 1 (cellsS [s]) :=
  ⟨rfl, .inr ⟨w.heap.size, 1, #[.string s], rfl, Nat.le_refl _, Lies.new w 9 #[.string s], Nat.le_refl _, by simp [maxLen], rfl, rfl⟩⟩
theorem own_base {W : World} {b b' e sz n : Nat} {v : Value} {xs : List Value} (h : W.ownsRow b e sz v n xs) (hb : b' ≤ b) : W.ownsRow b' e sz v n xs := by
  obtain ⟨hl, h | ⟨g, cap, cur, h1, h2, h3⟩⟩ := h
  · exact ⟨hl, .inl h⟩
  · exact ⟨hl, .inr ⟨g, cap, cur, h1, Nat.le_trans hb h2, h3⟩⟩
theorem own_drew {W : World} {b e sz n : Nat} {v : Value} {xs : List Value} (h : W.ownsRow b e sz v n xs) : W.drew.ownsRow b e sz v n xs := h
/-- What `binds` tells. -/
def GivesB (nm : List ByteArray) (w : World) (e : Ending) (w' : World) : Prop :=
  ∃ v, e = .returned v ∧ w'.ownsRow w.heap.size 9 1 v nm.length (cellsS nm) ∧ Below w.heap.size w w'
theorem binds_one (k n a : Int) (s : ByteArray) (A : Option Addr) (m c : Nat) (fr tw : Bool) (i : Nat) (w : World) (h : k = 2 ∨ k = 5 ∨ (k = 4 ∧ i = 1)) :
    Calls Tryz.prog 66 #[spotV k n a s A m c fr tw, .int .i64 i] w (GivesB [s] w) := by
  obtain ⟨W, hW⟩ : ∃ W, W = w.alloc (.cells (spotC k n a s A m c fr tw) 54) := ⟨_, rfl⟩
  have hb : Below w.heap.size w W := by rw [hW]; exact (Below.refl _ w).alloc (Nat.le_refl _) _
  have L : Lies W w.heap.size 54 (spotC k n a s A m c fr tw) := by rw [hW]; exact Lies.new _ _ _
  obtain ⟨c0, c1, c2, c3, c4, c5, c6⟩ := seven_cells L
  clear L
  have hfin : GivesB [s] w (.returned (.slice (some ⟨W.heap.size, 0, none⟩) 1 1)) (W.alloc (.cells #[.string s] 9)) := ⟨_, rfl, own_base (own_one W s) hb.size, hb.alloc hb.size _⟩
  have HF := Lib.hid hfin
  clear hfin
  rcases h with rfl | rfl | ⟨rfl, rfl⟩
  all_goals
    go_enter Tryz.func66, Tryz.ntmps66
    go_upto_region 1 with fail
    rw [← hW]
    clear hW
    go_wp2_with fail
    go_ret
    exact HF.out
theorem cellsS_snoc (l : List ByteArray) (x : ByteArray) : cellsS (l ++ [x]) = cellsS l ++ [.string x] := by simp [cellsS]
set_option maxHeartbeats 8000000 in
theorem binds_many (k n a : Int) (s : ByteArray) (l : List Tr) (A : Option Addr) (m c : Nat) (fr tw : Bool) (i : Nat) (w : World) (q : Nat) (h8 : k = 8 → n = q ∧ q < m) (h0 : k ≠ 8 → q = 0) (h2 : k ≠ 2) (h5 : k ≠ 5) (h4 : ¬ (k = 4 ∧ i = 1)) (hm : m = l.length) (hm9 : m ≤ 9) (hc : m ≤ c) (hI : LIn w Any l A 0) :
    Calls Tryz.prog 66 #[spotV k n a s A m c fr tw, .int .i64 i] w (GivesB (varsN q l) w) := by
  obtain ⟨W, hW⟩ : ∃ W, W = w.alloc (.cells (spotC k n a s A m c fr tw) 54) := ⟨_, rfl⟩
  have hb : Below w.heap.size w W := by rw [hW]; exact (Below.refl _ w).alloc (Nat.le_refl _) _
  have L : Lies W w.heap.size 54 (spotC k n a s A m c fr tw) := by rw [hW]; exact Lies.new _ _ _
  obtain ⟨c0, c1, c2, c3, c4, c5, c6⟩ := seven_cells L
  have hIW : LIn W Any l A 0 := LIn.keep l hI fun g j _ hlt => ⟨hb.cell (p := ⟨g, j, none⟩) hlt, trivial⟩
  clear L hI
  have e2 : (k == 2) = false := by simpa using h2
  have e5 : (k == 5) = false := by simpa using h5
  have hqm : q < m ∨ q = 0 := by
    by_cases hk : k = 8
    · exact .inl (h8 hk).2
    · exact .inr (h0 hk)
  have hB : ∃ (B : Option Addr) (cb : Nat), (∀ V, Below W.heap.size W V → Calls Tryz.prog 65 #[spotV k n a s A m c fr tw] V fun e w' => e = .returned (.slice B q cb) ∧ Below V.heap.size V w') ∧ (0 < q → B = A ∧ q ≤ cb) := by
    by_cases hk : k = 8
    · subst hk
      obtain ⟨rfl, hn⟩ := h8 rfl
      obtain ⟨g, o, _, _, ⟨hA, _⟩, _⟩ := LIn.at_ l hIW 0 (by omega)
      subst hA
      exact ⟨_, c, fun V _ => vars_alt q a s g o m c fr tw V (by omega), fun _ => ⟨rfl, by omega⟩⟩
    · obtain rfl := h0 hk
      exact ⟨none, 0, fun V _ => vars_no k n a s A m c fr tw V hk, fun h => absurd h (by omega)⟩
  obtain ⟨B, cb, hBV, hBA⟩ := hB
  have hnt : ∀ (j : Nat) (hj : j < q), ∃ hl : j < l.length, (varsN q l).take (j + 1) = (varsN q l).take j ++ [(l[j]'hl).name] := fun j hj => ⟨by omega, varsN_take l q (by omega) j (by omega) (by omega)⟩
  have hlen : (varsN q l).length = q := by have := varsN_len l q (by omega) (by omega); omega
  have HBV := Lib.hid hBV
  have HNT := Lib.hid hnt
  have HBA := Lib.hid hBA
  have HI := Lib.hid hIW
  have HQ := Lib.hid hlen
  have HB := Lib.hid hb
  obtain ⟨i0, hi0, hz0, hz1, hz2⟩ := info_partsS infoS
  have hq9 : q ≤ 9 := by omega
  clear hBV hnt hBA hIW hb h8 h0 hlen hm hqm
  -- the loop, whatever the place's kind
  have e4 : (k == 4) = false ∨ k = 4 ∧ ((i : Int) == 1) = false := by
    by_cases hk : k = 4
    · exact .inr ⟨hk, by simp; omega⟩
    · exact .inl (by simpa using hk)
  clear h2 h5 h4
  rcases e4 with e4 | ⟨rfl, e4⟩
  all_goals
    go_enter Tryz.func66, Tryz.ntmps66
    go_upto_region 1 with fail
    rw [← hW]
    clear hW
    have HV := Lib.hid (HBV.out W (Below.refl _ W))
    go_wp2_with fail
    refine HV.out.mono ?_
    rintro e W2 ⟨rfl, hb2⟩
    have HB2 := Lib.hid (HB.out.trans (hb2.mono HB.out.size))
    have HI2 := Lib.hid (LIn.keep l HI.out fun g j _ hlt => ⟨hb2.cell (p := ⟨g, j, none⟩) hlt, trivial⟩ : LIn W2 Any l A 0)
    clear HV hb2 c0 c1 c2 c3 c4 c5 c6 HBV HI HB e2 e5 e4
    go_wp2_with fail
    go_loopw [5, 35] (fun v x wr => ∃ j : Nat, j ≤ q ∧ x = .int .i64 j ∧ wr.ownsRow W2.heap.size 9 1 v j (cellsS ((varsN q l).take j)) ∧ Below W2.heap.size W2 wr) (fun _ x _ => q - (intOf x).toNat)
    case atStart => exact ⟨0, by omega, rfl, by simpa [cellsS] using World.ownsRow_nil _ _ _ _, Below.refl _ _⟩
    case round =>
      obtain ⟨j, hj, rfl, hrow, hbr⟩ := hrel
      by_cases hlt : j < q
      · obtain ⟨hBe, hqc⟩ := HBA.out (by omega)
        obtain ⟨hl, hnx⟩ := HNT.out j hlt
        obtain ⟨g, o, A', c', ⟨hA, _⟩, d0, d1, d2, d3, d4, _⟩ := LIn.at_ l HI2.out j hl
        subst hBe
        subst hA
        obtain ⟨x, hx⟩ : ∃ x, x = l[j]'hl := ⟨_, rfl⟩
        rw [← hx] at d0 d1 d2 d3 d4 hnx
        have hgl := cell_lt d0
        replace d0 := (hbr.cell (p := ⟨g, _, none⟩) hgl).trans d0
        replace d1 := (hbr.cell (p := ⟨g, _, none⟩) hgl).trans d1
        replace d2 := (hbr.cell (p := ⟨g, _, none⟩) hgl).trans d2
        replace d3 := (hbr.cell (p := ⟨g, _, none⟩) hgl).trans d3
        replace d4 := (hbr.cell (p := ⟨g, _, none⟩) hgl).trans d4
        simp only [Nat.zero_add] at d0 d1 d2 d3 d4
        obtain ⟨pn, hpn⟩ : ∃ p, p = x.parts.length := ⟨_, rfl⟩
        obtain ⟨pc, hpc⟩ : ∃ p, p = capF pn c' := ⟨_, rfl⟩
        rw [← hpn, ← hpc] at d4
        have HNX := Lib.hid hnx
        have HBR := Lib.hid hbr
        have HROW := Lib.hid hrow
        clear hx hpn hpc hnx
        go_upto_region 7 with fail
        obtain ⟨V, hV⟩ : ∃ V, V = wr.alloc (.cells #[.int .i64 x.kind, .string x.name, .int .i64 x.n, .int .i64 x.place, .slice A' pn pc] 24) := ⟨_, rfl⟩
        have hbV : Below wr.heap.size wr V := by rw [hV]; exact (Below.refl _ _).alloc (Nat.le_refl _) _
        have L9 : Lies V wr.heap.size 24 #[.int .i64 x.kind, .string x.name, .int .i64 x.n, .int .i64 x.place, .slice A' pn pc] := by rw [hV]; exact Lies.new _ _ _
        have HR9 : Hid (V.ownsRow W2.heap.size 9 1 _ j (cellsS ((varsN q l).take j))) := Lib.hid (by rw [hV]; exact HROW.out.alloc _)
        have hVs : W2.heap.size ≤ V.heap.size := by have := hbV.size; have := HBR.out.size; omega
        have HB9 := Lib.hid (HBR.out.trans (hbV.mono HBR.out.size))
        have b1 := L9.cell 1
        rw [← hV]
        clear hV d0 d1 d2 d3 d4 hbV L9 hbr hrow
        go_wp2_with (at_builtin; refine wpList_append_own _ rfl _ _ 31 rfl W2.heap.size 9 i0 (.string ⟨#[]⟩) 1 16 Tryz.underlying31 hi0 hz0 hz1 hz2 rfl (by decide) _ _ _ rfl (HR9.out.alloc _) ⟨V.heap.size, 0, none⟩ 1 1 [.string x.name] rfl rfl (cell_one_new _ _ _) (by simp [Value.oneCell']) (by simp only [maxLen]; omega) (by omega) (by simp; omega) ?_; intro v' w1 hown' hgrow _)
        have hb3 := (HB9.out.alloc hVs (.cells #[.string x.name] 9)).grown hgrow (by simp; omega) (fun q hq => (HR9.out.lt q hq).1)
        have HO := Lib.hid hown'
        have HB3 := Lib.hid hb3
        clear hown' hgrow hb3
        go_roundw
        case rel =>
          go_light
          exact ⟨j + 1, by omega, by go_num, by rw [HNX.out, cellsS_snoc]; exact HO.out, HB3.out⟩
        case measure => simp [intOf]; omega
      · have hjq : j = q := by omega
        subst hjq
        have HROW := Lib.hid hrow
        have HBR := Lib.hid hbr
        clear hrow hbr
        go_wp2_with fail
        go_ret
        refine ⟨_, rfl, ?_, HB2.out.trans (HBR.out.mono HB2.out.size)⟩
        have h9 := HROW.out
        rw [List.take_of_length_le (by have := HQ.out; omega)] at h9
        rw [HQ.out]
        exact own_base h9 HB2.out.size
set_option maxHeartbeats 4000000 in
/-- Binders of names are told, or told no more. -/
theorem bind_any (G bm N : Nat) (C : ByteArray → Int) (nm : List ByteArray) (A : Option Addr) (m c : Nat) (δ : Int) (w : World) (hG : w.cell? ⟨G, 0, none⟩ = some (.map (some bm))) (hne : G ≠ bm) (hM : MapS w bm N C) (hN : N ≤ 1000000000000) (hm : m = nm.length) (hm9 : m ≤ 1000)
    (hI : SIn w (fun g => g ≠ bm) nm A) (hs : ∀ s ∈ nm, s.size ≤ 140737488351232) (hd : δ = 1 ∨ δ = -1) (hC : ∀ s, -1000000000000 ≤ C s ∧ C s ≤ 1000000000000) :
    Calls Tryz.prog 67 #[.pointer (some ⟨G, 0, none⟩), .slice A m c, .int .i64 δ] w fun e w' => e = .returned (.tuple #[]) ∧ MapS w' bm (N + m) (fun s => C s + δ * countN nm s) ∧ w.grownBy w' (some bm) := by
  have hGl := World.block_lt_of_cell? w _ hG
  have HG : Hid (∀ w', w.grownBy w' (some bm) → w'.cell? ⟨G, 0, none⟩ = some (.map (some bm))) := Lib.hid fun w' hg => (World.cell?_of_block (hg.block G hGl (fun e => hne (by injection e with e)))).trans hG
  have HI : Hid (∀ w', w.grownBy w' (some bm) → SIn w' (fun g => g ≠ bm) nm A) := Lib.hid fun w' hg => hI.keep fun g j hX hlt => ⟨World.cell?_of_block (hg.block g hlt (fun e => hX (by injection e with e))), hX⟩
  have HM := Lib.hid hM
  have HL := Lib.hid hm
  have HS := Lib.hid hs
  have HC := Lib.hid hC
  have hd2 : -1 ≤ δ ∧ δ ≤ 1 := by omega
  clear hG hI hM hm hs hC hd
  go_enter Tryz.func67, Tryz.ntmps67
  go_wp2_with fail
  go_loopw [10] (fun x wr => ∃ j : Nat, j ≤ m ∧ x = .int .i64 j ∧ Hid (MapS wr bm (N + j) (fun s => C s + δ * countN (nm.take j) s) ∧ w.grownBy wr (some bm))) (fun x _ => m - (intOf x).toNat)
  case atStart => exact ⟨0, by omega, rfl, Lib.hid ⟨HM.out.eq fun v => by simp [countN], World.grownBy.refl _ _⟩⟩
  case round =>
    obtain ⟨j, hj, rfl, hH⟩ := hrel
    by_cases hlt : j < m
    · have hjl : j < nm.length := by have := HL.out; omega
      obtain ⟨⟨q, D, hown, hq, hD⟩, hgr⟩ := hH.out
      obtain ⟨g, o, hA, hX, d0⟩ := HI.out _ hgr j hjl
      subst hA
      have hG1 := HG.out _ hgr
      have hmap : Maps.IsMap D := by obtain ⟨es, clock, _, _, _, hD⟩ := hown; exact ⟨_, hD⟩
      obtain ⟨s, hs9⟩ : ∃ s, s = nm[j]'hjl := ⟨_, rfl⟩
      rw [← hs9] at d0
      have hss : s.size ≤ 140737488351232 := HS.out s (by rw [hs9]; exact List.getElem_mem hjl)
      have hkey : keyOf Tryz.prog 9 (.string s) = some (.string s.data.toList) := Go.WideMaps.keyOf_string_mk Tryz.underlying9 (by unfold maxLen; omega)
      obtain ⟨x, hx⟩ : ∃ x, x = C s + δ * countN (nm.take j) s := ⟨_, rfl⟩
      have hxb : -2000000000000 ≤ x ∧ x ≤ 2000000000000 := by
        have h1 := HC.out s
        have h2 := countN_nn (nm.take j) s
        have h3 : (nm.take j).length ≤ 1000 := by rw [List.length_take]; omega
        rcases (by omega : δ = 1 ∨ δ = 0 ∨ δ = -1) with rfl | rfl | rfl <;> omega
      have hDs : D.atKey (.string s.data.toList) (.lit (.int .i64 0)) = .lit (.int .i64 x) := by rw [hD s, hx]
      have hfin : ∀ w1, w1.ownsMap Tryz.prog 9 (plainElem Tryz.prog 3) bm (q + 1) (D.put (.string s.data.toList) (.lit (.int .i64 (x + δ)))) → MapS w1 bm (N + (j + 1)) (fun s => C s + δ * countN (nm.take (j + 1)) s) := fun w1 h => by
        have h1 := MapS.put h hq hmap hD
        have h2 := h1.mono (show N + j + 1 ≤ N + (j + 1) by omega)
        refine h2.eq fun v => ?_
        rw [List.take_succ_eq_append_getElem hjl, ← hs9, countN_snoc]
        by_cases hv : v = s
        · subst hv
          rw [if_pos rfl, if_pos rfl, hx, Int.mul_add, Int.mul_one]
          omega
        · rw [if_neg hv, if_neg hv]
      have HF := Lib.hid hfin
      have HD := Lib.hid hDs
      have HGR := Lib.hid hgr
      clear hfin hDs hD hx hs9 hgr hH
      go_wp2_with (first
        | (at_lookup; refine wpList_lookup_own_int _ rfl _ _ 49 rfl 9 3 .i64 (Maps.string_keyed Tryz.underlying9) Tryz.underlying49 Tryz.underlying3 (Tryz.zeroValue3 _) bm q D rfl hown _ _ rfl hkey ?_; intro cc hat hwc; have e9 : x = cc := (by rw [HD.out] at hat; injection hat with hat; injection hat with _ hat); subst e9)
        | (at_mapUpdate; refine wpList_mapUpdate_own _ rfl _ _ _ 49 rfl 9 3 (Maps.string_keyed Tryz.underlying9) Tryz.underlying49 _ bm q D rfl hown (by simp only [maxLen]; omega) _ _ _ rfl rfl hkey _ [] (plainElem_int Tryz.underlying3 (int_wf (by omega) (by omega))) ?_; intro w1 hown1 hgrow1))
      have HO := Lib.hid hown1
      have HG2 := Lib.hid (HGR.out.trans hgrow1)
      clear hown1 hgrow1 hown
      go_roundw
      case rel =>
        go_light
        exact ⟨j + 1, by omega, by go_num, Lib.hid ⟨HF.out _ HO.out, HG2.out⟩⟩
      case measure => simp [intOf]; omega
    · have hjm : j = m := by omega
      subst hjm
      go_wp2_with fail
      go_end0
      obtain ⟨h1, h2⟩ := hH.out
      rw [List.take_of_length_le (by have := HL.out; omega)] at h1
      exact ⟨rfl, h1, h2⟩
end Lx
end Go.Proofs.YtobdoahdjbmflaaGreatDoor
