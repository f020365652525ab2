/-
  Texts that lie one behind the other: UsF ShelfU UsQ UsK SuLa UsS UsX.
-/
import Derived.Test.YtgnafcnokenogaaC5
import Derived.Test.YtgnafcnokenogaaProg
import Derived.Test.YtgnafcnokenogaaC1
import Derived.Test.YtgnafcnokenogaaC2
import Derived.Maps.AppendAt
import Derived.Shelf.Small.Bits
import Derived.Shelf.Strconv.Itoa0
import Derived.Shelf.Sort.Plain
import Derived.Shelf.Slices.Reverse
import Derived.Shelf.Slices.CompactI
import Derived.Shelf.Slices.SearchI
import Derived.Shelf.Slices.Cells
import Derived.Shelf.Slices.In.SortNone
import Derived.Lib.SlicesCompact
namespace Go.Proofs.Ytgnafcnokenogaa
open Go Go.RowKit
namespace Lx
set_option maxRecDepth 100000
theorem size_setCell (W : World) (p : Addr) (v : Value) : (W.setCell p v).heap.size = W.heap.size := by simp [World.setCell]
mutual
/-- The numbers of a term's free variables, within b binders, as they are met. -/
def fvE : Te → Int → List Int
  | .node k n _ l, b => if k = 1 then (if 0 ≤ n - b then [n - b] else []) else fvEL l (b + moreE k n)
def fvEL : List Te → Int → List Int
  | [], _ => []
  | t :: r, b => fvE t b ++ fvEL r b
end
theorem fvEL_take (l : List Te) (i : Nat) (b : Int) (h : i < l.length) : fvEL (l.take (i + 1)) b = fvEL (l.take i) b ++ fvE (l[i]'h) b := by
  rw [List.take_succ_eq_append_getElem h]
  generalize l.take i = r
  induction r with
  | nil => simp [fvEL]
  | cons t r ih => simp only [List.cons_append, fvEL, ih, List.append_assoc]
mutual
theorem fvE_len : ∀ (t : Te) (b : Int), (fvE t b).length ≤ sizeE t
  | .node k n s l, b => by
    rw [fvE, sizeE]
    have := fvEL_len l (b + moreE k n)
    split
    · split <;> simp
    · omega
theorem fvEL_len : ∀ (l : List Te) (b : Int), (fvEL l b).length ≤ sizeEL l
  | [], b => by simp [fvEL]
  | t :: r, b => by rw [fvEL, sizeEL, List.length_append]; have := fvE_len t b; have := fvEL_len r b; omega
end
theorem fvEL_take_len (l : List Te) (i : Nat) (b : Int) : (fvEL (l.take i) b).length ≤ sizeEL l := Nat.le_trans (fvEL_len _ _) (sizeEL_take l i)
theorem sizeEL_take_add (l : List Te) (i : Nat) (h : i < l.length) : sizeEL (l.take i) + sizeE (l[i]'h) ≤ sizeEL l := by
  induction l generalizing i with
  | nil => simp at h
  | cons t r ih =>
    cases i with
    | zero => simp [sizeEL]
    | succ i => have := ih i (by simpa using h); simp only [List.take_succ_cons, sizeEL, List.getElem_cons_succ]; omega
/-- Where the closure's two boxes lie. -/
abbrev frArgs (Lb Tb : Nat) (v : Value) (b : Int) : Array Value := #[v, .int .i64 b, .pointer (some ⟨Lb, 0, none⟩), .pointer (some ⟨Tb, 0, none⟩)]
def FrPost (Lb base : Nat) (ys : List Int) (Z : Nat → Prop) (W : World) (e : Ending) (W' : World) : Prop :=
  (∃ v, e = .returned v) ∧ ∃ Z', Gz No Z W Z' W' ∧ BoxR Lb base ys Z' W'
structure FrPre (Lb Tb base : Nat) (t : Te) (A : Option Addr) (d : Nat) (b : Int) (xs : List Int) (Z : Nat → Prop) (W : World) : Prop where
  dep : depthE t ≤ d
  dep4 : d ≤ 4000
  siz : xs.length + sizeE t ≤ 1000000000000
  tame : tameE 1099511627776 1099511627776 t
  b0 : -(1099511627776 * (8000 - (d : Int))) ≤ b
  b1 : b ≤ 1099511627776 * (8000 - (d : Int))
  lies : EIn W (· < Lb) t A
  box : BoxR Lb base xs Z W
  tb : W.cell? ⟨Tb, 0, none⟩ = some (.func (.func 25) #[] #[.pointer (some ⟨Lb, 0, none⟩), .pointer (some ⟨Tb, 0, none⟩)])
  tbase : Tb < base
  tl : Tb ≠ Lb
theorem BoxR.off {Lb base q : Nat} {xs : List Int} {Z : Nat → Prop} {W : World} (h : BoxR Lb base xs Z W) (hq : q < base) (hne : q ≠ Lb) : ¬ Z q := by
  obtain ⟨A, c, rfl, L, hS, hr⟩ := h
  exact fun hz => hz.elim hne fun h => by have := (hr.lt q h).1; omega
theorem BoxR.offNew {Lb base q : Nat} {xs : List Int} {Z : Nat → Prop} {W : World} (h : BoxR Lb base xs Z W) (hq : W.heap.size ≤ q) : ¬ Z q := fun hz => by
  have := (BoxR.stands Lb base).lt _ _ _ h q hz; omega
set_option maxHeartbeats 4000000 in
theorem free_var (Lb Tb base d : Nat) (n : Int) (s : ByteArray) (A : Option Addr) (c : Nat) (b : Int) (xs : List Int) (Z : Nat → Prop) (W : World) (h : FrPre Lb Tb base (.node 1 n s []) A d b xs Z W) :
    Calls Try.prog 25 (frArgs Lb Tb (ev (.node 1 n s []) A c) b) W (FrPost Lb base (xs ++ fvE (.node 1 n s []) b) Z W) := by
  show Calls Try.prog 25 #[.agg #[.int .i64 1, .int .i64 n, .string s, .slice A 0 (capF 0 c)], .int .i64 b, .pointer (some ⟨Lb, 0, none⟩), .pointer (some ⟨Tb, 0, none⟩)] W _
  generalize capF 0 c = c
  obtain ⟨hdep, hd4, hsz, htame, hb0, hb1, _, hbox, _, htb, htl⟩ := h
  rw [tameE] at htame
  obtain ⟨hn0, hn1, _⟩ := htame.1 rfl
  have hs0 : sizeE (.node 1 n s []) = 1 := by simp [sizeE, sizeEL]
  rw [hs0] at hsz
  have hLbs : Lb < W.heap.size := by obtain ⟨_, _, _, L, _⟩ := hbox; exact L.lt
  have L0 := Lies.new W 24 #[.int .i64 1, .int .i64 n, .string s, .slice A 0 c]
  have hG : Gz No No W No (W.alloc (.cells #[.int .i64 1, .int .i64 n, .string s, .slice A 0 c] 24)) := (Gz.refl _ _ _).alloc _
  have hs1 : (W.alloc (.cells #[.int .i64 1, .int .i64 n, .string s, .slice A 0 c] 24)).heap.size = W.heap.size + 1 := by simp
  by_cases hx : 0 ≤ n - b
  · have hfv : fvE (.node 1 n s []) b = [n - b] := by rw [fvE, if_pos rfl, if_pos hx]
    rw [hfv]
    go_enter Try.func25, Try.ntmps25
    go_upto_region 1 with fail
    generalize W.alloc (.cells #[.int .i64 1, .int .i64 n, .string s, .slice A 0 c] 24) = V at L0 hG hs1 ⊢
    have hbV := (BoxR.stands Lb base).frame _ _ _ _ hbox hG.size fun k hk => hG.same k ((BoxR.stands Lb base).lt _ _ _ hbox k hk) (fun h => h) (fun h => h)
    obtain ⟨A', c', rfl, LV, hS, hrow⟩ := hbV
    have c0 := L0.four
    have x0 := LV.cell 0
    simp at x0
    obtain ⟨i0, hi0, hz0, hz1, hz2⟩ := info_parts infoI
    have hneS : ∀ q, (Value.slice A' xs.length c').ownBlock = some q → q ≠ Lb := fun q hq => by have := (hrow.lt q hq).1; omega
    have hneW : ∀ q, (Value.slice A' xs.length c').ownBlock = some q → q ≠ W.heap.size := fun q hq => by
      have h1 := (BoxR.stands Lb base).lt _ _ _ hbox q (.inr hq); omega
    have HG : Hid (∀ V', (V.alloc (.cells #[.int .i64 (n - b)] 3)).grownBy V' (Value.slice A' xs.length c').ownBlock → V'.cell? ⟨Lb, 0, none⟩ = some (.slice A' xs.length c') ∧ V'.frozen? ⟨Lb, 0, none⟩ = false ∧ Lies V' Lb 35 #[.slice A' xs.length c'] ∧ Lies V' W.heap.size 24 #[.int .i64 1, .int .i64 n, .string s, .slice A 0 c]) := Lib.hid fun V' hg => by
      have h2 : Lies V' Lb 35 #[.slice A' xs.length c'] := (hg.block _ (by rw [World.size_alloc]; omega) (fun e => hneS _ e.symm rfl)).trans (LV.old _)
      have h3 : Lies V' W.heap.size 24 #[.int .i64 1, .int .i64 n, .string s, .slice A 0 c] := (hg.block _ (by rw [World.size_alloc]; omega) (fun e => hneW _ e.symm rfl)).trans (L0.old _)
      exact ⟨h2.cell 0, h2.frozen 0, h2, h3⟩
    have hVs : base ≤ V.heap.size := hS.2
    have hWV : W.heap.size < V.heap.size := by omega
    clear hs1
    have hneL : W.heap.size ≠ Lb := by omega
    have hneL2 : Lb ≠ W.heap.size := by omega
    clear hbox LV
    go_wp2_with (at_builtin; refine wpList_append_own_at _ rfl _ _ 35 rfl base 3 i0 (.int .i64 0) 1 8 Try.underlying35 hi0 hz0 hz1 hz2 rfl (by decide) _ _ _ rfl (hrow.alloc _) ⟨V.heap.size, 0, none⟩ 1 1 [.int .i64 (n - b)] rfl rfl (cell_one_new _ _ _) (by simp [Value.oneCell']) (by simp only [maxLen]; omega) (by omega) (by simp; omega) ?_; intro v' w5 hown' hgrow _ hat; obtain ⟨g', cap', rfl⟩ := ownsRow_succ hown'; obtain ⟨y0, y1, y2, y3⟩ := HG.out _ hgrow; have z3 := y3.four)
    go_loopw [27] (fun x wr => x = .int .i64 0 ∧ wr = w5.setCell ⟨Lb, 0, none⟩ (.slice (some ⟨g', 0, none⟩) (xs.length + 1) cap')) (fun _ _ => 0)
    case atStart => exact ⟨rfl, rfl⟩
    case round =>
     obtain ⟨rfl, rfl⟩ := hrel
     go_wp2_with fail
     go_end0
     have hlen : (xs ++ [n - b]).length = xs.length + 1 := by simp
     have hg'1 := (hown'.lt g' rfl).1
     refine ⟨⟨_, rfl⟩, fun q => q = Lb ∨ (Value.slice (some ⟨g', 0, none⟩) (xs.length + 1) cap').ownBlock = some q, ?_, some ⟨g', 0, none⟩, cap', by rw [hlen], ?_, ?_, ?_⟩
     · have hG1 : Gz (fun q => (Value.slice A' xs.length c').ownBlock = some q) No W No w5 := ((hG.alloc _).more (fun _ h => h.elim)).grown hgrow (fun k e => .inr e)
       refine ⟨hG1.os, hG1.tape, hG1.output, by rw [size_setCell]; exact hG1.size, fun k hk hz _ => ?_, fun k hz => ?_⟩
       · exact (Below.heap_setCell _ _ _ _ (fun e => hz (.inl e))).trans (hG1.same k hk (fun h => h) (fun e => hz (.inr e)))
       · rcases hz with hz | hz
         · exact .inl (.inl hz)
         · rcases hat with hat | hat
           · exact .inl (.inr (hat ▸ hz))
           · rw [hat] at hz
             injection hz with hz
             simp at hz
             exact .inr (by omega)
     · rw [hlen]
       have := y2.put 0 (.slice (some ⟨g', 0, none⟩) (xs.length + 1) cap')
       simpa using this
     · refine ⟨hS.1, ?_⟩
       have := hgrow.size
       rw [World.size_alloc] at this
       rw [size_setCell]
       omega
     · rw [hlen, vI_snoc]
       exact ownsRow_heap hown' fun q hq => Below.heap_setCell _ _ _ _ (by show q ≠ Lb; injection hq with hq; simp at hq; omega)
  · have hfv : fvE (.node 1 n s []) b = [] := by rw [fvE, if_pos rfl, if_neg hx]
    rw [hfv, List.append_nil]
    go_enter Try.func25, Try.ntmps25
    go_upto_region 1 with fail
    have hP : FrPost Lb base xs Z W (.returned (.tuple #[])) (W.alloc (.cells #[.int .i64 1, .int .i64 n, .string s, .slice A 0 c] 24)) := ⟨⟨_, rfl⟩, Z, hG.any, (BoxR.stands Lb base).frame _ _ _ _ hbox hG.size fun k hk => hG.same k ((BoxR.stands Lb base).lt _ _ _ hbox k hk) (fun h => h) (fun h => h)⟩
    generalize W.alloc (.cells #[.int .i64 1, .int .i64 n, .string s, .slice A 0 c] 24) = V at L0 hP ⊢
    have c0 := L0.four
    have HP := Lib.hid hP
    clear hG hs1 hbox hP
    go_wp2_with fail
    go_loopw [27] (fun x wr => x = .int .i64 0 ∧ wr = V) (fun _ _ => 0)
    case atStart => exact ⟨rfl, rfl⟩
    case round =>
      obtain ⟨rfl, rfl⟩ := hrel
      go_wp2_with fail
      go_end0
      exact HP.out
set_option maxHeartbeats 4000000 in
theorem free_node (Lb Tb base d : Nat)
    (ih : ∀ (t : Te) (A : Option Addr) (c : Nat) (b : Int) (xs : List Int) (Z : Nat → Prop) (W : World), FrPre Lb Tb base t A d b xs Z W →
      Calls Try.prog 25 (frArgs Lb Tb (ev t A c) b) W (FrPost Lb base (xs ++ fvE t b) Z W))
    (k n : Int) (s : ByteArray) (l : List Te) (A : Option Addr) (c : Nat) (b : Int) (xs : List Int) (Z : Nat → Prop) (W : World) (hk : k ≠ 1) (h : FrPre Lb Tb base (.node k n s l) A (d + 1) b xs Z W) :
    Calls Try.prog 25 (frArgs Lb Tb (ev (.node k n s l) A c) b) W (FrPost Lb base (xs ++ fvE (.node k n s l) b) Z W) := by
  show Calls Try.prog 25 #[.agg #[.int .i64 k, .int .i64 n, .string s, .slice A l.length (capF l.length c)], .int .i64 b, .pointer (some ⟨Lb, 0, none⟩), .pointer (some ⟨Tb, 0, none⟩)] W _
  generalize capF l.length c = c
  have H := Lib.hid h
  have hfv : fvE (.node k n s l) b = fvEL l (b + moreE k n) := by rw [fvE, if_neg hk]
  rw [hfv]
  have hmo : -1099511627776 ≤ moreE k n ∧ moreE k n ≤ 1099511627776 := by
    have ht := h.tame
    rw [tameE] at ht
    rw [moreE]
    split
    · omega
    · split
      · rename_i h6; exact ht.2.1 h6
      · omega
  obtain ⟨mo, hmoe⟩ : ∃ mo, mo = moreE k n := ⟨_, rfl⟩
  rw [← hmoe] at hmo ⊢
  have HBI : Hid (∀ Xw A m c, Calls Try.prog 26 #[.agg #[.int .i64 k, .int .i64 n, .string s, .slice A m c]] Xw fun e w' => e = .returned (.int .i64 mo) ∧ Below Xw.heap.size Xw w') := Lib.hid fun Xw A m c => by rw [hmoe]; exact ubinders_any k n s A m c Xw
  have hk1 : (k == 1) = false := by simpa using hk
  have hlen := sizeEL_len l
  have hlen2 : l.length ≤ 140737488351232 := by have := h.lies; rw [EIn] at this; exact this.2.1
  obtain ⟨R, hR⟩ : ∃ R, R = FrPost Lb base (xs ++ fvEL l (b + mo)) Z W := ⟨_, rfl⟩
  rw [← hR]
  have HR := Lib.hid hR
  obtain ⟨m, hm⟩ : ∃ m, m = l.length := ⟨_, rfl⟩
  rw [← hm] at hlen2 ⊢
  have HM := Lib.hid hm
  have L0 := Lies.new W 24 #[.int .i64 k, .int .i64 n, .string s, .slice A m c]
  have hG : Gz No No W No (W.alloc (.cells #[.int .i64 k, .int .i64 n, .string s, .slice A m c] 24)) := (Gz.refl _ _ _).alloc _
  have hs1 : W.heap.size < (W.alloc (.cells #[.int .i64 k, .int .i64 n, .string s, .slice A m c] 24)).heap.size := by rw [World.size_alloc]; omega
  clear h hk hm hR hfv hmoe hlen
  go_enter Try.func25, Try.ntmps25
  go_upto_region 1 with fail
  generalize W.alloc (.cells #[.int .i64 k, .int .i64 n, .string s, .slice A m c] 24) = V at L0 hG hs1 ⊢
  have c0 := L0.four
  go_wp2_with fail
  go_loopw [27] (fun x wr => ∃ (i : Nat) (Z1 : Nat → Prop), i ≤ m ∧ x = .int .i64 i ∧ Gz No Z V Z1 wr ∧ BoxR Lb base (xs ++ fvEL (l.take i) (b + mo)) Z1 wr) (fun x _ => m - (intOf x).toNat)
  case atStart =>
    refine ⟨0, Z, Nat.zero_le _, rfl, Gz.refl _ _ _, ?_⟩
    have hb := (BoxR.stands Lb base).frame _ _ _ _ H.out.box hG.size fun k hk => hG.same k ((BoxR.stands Lb base).lt _ _ _ H.out.box k hk) (fun h => h) (fun h => h)
    simpa [fvEL] using hb
  case round =>
    obtain ⟨i, Z1, hi, rfl, hG1, hbox⟩ := hrel
    have hzW : ¬ Z W.heap.size := fun hz => by have := (BoxR.stands Lb base).lt _ _ _ H.out.box _ hz; omega
    have L1 : Lies wr W.heap.size 24 #[.int .i64 k, .int .i64 n, .string s, .slice A m c] := hG1.lies L0 hzW (fun h => h)
    by_cases hlt : i < m
    · have hia : i < l.length := by rw [← HM.out]; exact hlt
      have hGW : Gz No Z W Z1 wr := hG.any.trans hG1
      have hLbW : Lb < W.heap.size := by obtain ⟨_, _, _, L, _⟩ := H.out.box; exact L.lt
      have hbL : Lb < base := by obtain ⟨_, _, _, _, hS, _⟩ := H.out.box; exact hS.1
      have hoff : ∀ q, q < Lb → ¬ Z q ∧ ¬ No q := fun q hq => ⟨H.out.box.off (by omega) (by omega), fun h => h⟩
      have hEr : EIn wr (· < Lb) (.node k n s l) A := EIn.gz _ H.out.lies hGW hoff
      obtain ⟨g, o, A', c', ⟨hA, _⟩, d0, d1, d2, d3, hIn⟩ := EIn.part hEr i hia
      subst hA
      have hm3 := depthEL_mem l (l[i]'hia) (List.getElem_mem hia)
      have hm4 := sizeEL_mem l (l[i]'hia) (List.getElem_mem hia)
      have hdp := H.out.dep
      have hsz := H.out.siz
      have htm := H.out.tame
      rw [depthE] at hdp
      rw [sizeE] at hsz
      rw [tameE] at htm
      have ht5 := tameEL_mem l (l[i]'hia) (List.getElem_mem hia) htm.2.2
      have HS := Lib.hid (fvEL_take l i (b + mo) hia)
      have hu1 : (fvEL (l.take i) (b + mo)).length + sizeE (l[i]'hia) ≤ sizeEL l := by
        have h1 := fvEL_len (l.take i) (b + mo)
        have h2 := sizeEL_take_add l i hia
        omega
      simp only [Te.parts] at d0 d1 d2 d3 hIn
      obtain ⟨tr, hu⟩ : ∃ tr, tr = l[i]'hia := ⟨_, rfl⟩
      rw [← hu] at d0 d1 d2 d3 hIn hm3 hm4 HS ht5 hu1
      clear hu
      obtain ⟨tk, tn, ts, tl⟩ := tr
      simp only [Te.kind, Te.n, Te.name] at d0 d1 d2 d3
      have c1 := L1.four
      obtain ⟨U, hU⟩ : ∃ U, U = wr := ⟨_, rfl⟩
      rw [← hU] at L1 c1 hG1 hGW hbox d0 d1 d2 d3 hIn ⊢
      clear hU
      obtain ⟨V8, hV8⟩ : ∃ V8, V8 = U.alloc (.cells #[.int .i64 tk, .int .i64 tn, .string ts, .slice A' tl.length (capF tl.length c')] 24) := ⟨_, rfl⟩
      have hG8 : Gz No No U No V8 := by rw [hV8]; exact (Gz.refl _ _ _).alloc _
      have N8 : Lies V8 U.heap.size 24 #[.int .i64 tk, .int .i64 tn, .string ts, .slice A' tl.length (capF tl.length c')] := by rw [hV8]; exact Lies.new _ _ _
      have hs8 : U.heap.size < V8.heap.size := by rw [hV8, World.size_alloc]; omega
      have L8 : Lies V8 W.heap.size 24 #[.int .i64 k, .int .i64 n, .string s, .slice (some ⟨g, o, none⟩) m c] := hG8.lies L1 (fun h => h) (fun h => h)
      have hb8 : BoxR Lb base (xs ++ fvEL (l.take i) (b + mo)) Z1 V8 := (BoxR.stands Lb base).frame _ _ _ _ hbox hG8.size fun k hk => hG8.same k ((BoxR.stands Lb base).lt _ _ _ hbox k hk) (fun h => h) (fun h => h)
      have hcT : V8.cell? ⟨Tb, 0, none⟩ = _ := hG8.cell (hGW.cell H.out.tb (H.out.box.off H.out.tbase H.out.tl) (fun h => h)) (fun h => h) (fun h => h)
      have zu : ¬ Z1 U.heap.size := fun h => by have := (BoxR.stands Lb base).lt _ _ _ hbox _ h; omega
      have zw : ¬ Z1 W.heap.size := hG1.not hs1 hzW
      have HG7 : Hid (∀ V' Z3, Gz No Z1 V8 Z3 V' → (fun V' : World => (V'.cell? ⟨Tb, 0, none⟩ = some (.func (.func 25) #[] #[.pointer (some ⟨Lb, 0, none⟩), .pointer (some ⟨Tb, 0, none⟩)]) ∧ V'.cell? ⟨U.heap.size, 0, none⟩ = some (.int .i64 tk) ∧ V'.cell? ⟨U.heap.size, 1, none⟩ = some (.int .i64 tn) ∧ V'.cell? ⟨U.heap.size, 2, none⟩ = some (.string ts) ∧ V'.cell? ⟨U.heap.size, 3, none⟩ = some (.slice A' tl.length (capF tl.length c')) ∧ V'.cell? ⟨W.heap.size, 0, none⟩ = some (.int .i64 k) ∧ V'.cell? ⟨W.heap.size, 1, none⟩ = some (.int .i64 n) ∧ V'.cell? ⟨W.heap.size, 2, none⟩ = some (.string s) ∧ V'.cell? ⟨W.heap.size, 3, none⟩ = some (.slice (some ⟨g, o, none⟩) m c))) V') := Lib.hid fun V' Z3 hG9 => by
        have Q0 : Lies V' _ _ _ := hG9.lies L8 zw (fun h => h)
        have Q8 : Lies V' _ _ _ := hG9.lies N8 zu (fun h => h)
        exact ⟨hG9.cell hcT (hbox.off H.out.tbase H.out.tl) (fun h => h), Q8.cell 0, Q8.cell 1, Q8.cell 2, Q8.cell 3, Q0.cell 0, Q0.cell 1, Q0.cell 2, Q0.cell 3⟩
      have HS7 : Hid (∀ V', Below V8.heap.size V8 V' → (fun V' : World => (V'.cell? ⟨Tb, 0, none⟩ = some (.func (.func 25) #[] #[.pointer (some ⟨Lb, 0, none⟩), .pointer (some ⟨Tb, 0, none⟩)]) ∧ V'.cell? ⟨U.heap.size, 0, none⟩ = some (.int .i64 tk) ∧ V'.cell? ⟨U.heap.size, 1, none⟩ = some (.int .i64 tn) ∧ V'.cell? ⟨U.heap.size, 2, none⟩ = some (.string ts) ∧ V'.cell? ⟨U.heap.size, 3, none⟩ = some (.slice A' tl.length (capF tl.length c')) ∧ V'.cell? ⟨W.heap.size, 0, none⟩ = some (.int .i64 k) ∧ V'.cell? ⟨W.heap.size, 1, none⟩ = some (.int .i64 n) ∧ V'.cell? ⟨W.heap.size, 2, none⟩ = some (.string s) ∧ V'.cell? ⟨W.heap.size, 3, none⟩ = some (.slice (some ⟨g, o, none⟩) m c))) V') := Lib.hid fun V' hb => HG7.out V' Z1 (Gz.of_below hb (Nat.le_refl _))
      have HTH : Hid (∀ Xw, Below V8.heap.size V8 Xw → Calls Try.prog 25 #[.agg #[.int .i64 tk, .int .i64 tn, .string ts, .slice A' tl.length (capF tl.length c')], .int .i64 (b + mo), .pointer (some ⟨Lb, 0, none⟩), .pointer (some ⟨Tb, 0, none⟩)] Xw
          (FrPost Lb base (xs ++ fvEL (l.take i) (b + mo) ++ fvE (.node tk tn ts tl) (b + mo)) Z1 Xw)) := Lib.hid fun Xw hX => by
        have hGX : Gz No No V8 No Xw := Gz.of_below hX (Nat.le_refl _)
        have hb0 := H.out.b0
        have hb1 := H.out.b1
        exact ih (.node tk tn ts tl) A' c' (b + mo) _ Z1 Xw
          { dep := by omega, dep4 := by have := H.out.dep4; omega, siz := by rw [List.length_append]; omega, tame := ht5, b0 := by omega, b1 := by omega
            lies := EIn.gz _ (EIn.gz _ hIn hG8 fun q _ => ⟨fun h => h, fun h => h⟩) hGX fun q _ => ⟨fun h => h, fun h => h⟩
            box := (BoxR.stands Lb base).frame _ _ _ _ hb8 hGX.size fun k hk => hGX.same k ((BoxR.stands Lb base).lt _ _ _ hb8 k hk) (fun h => h) (fun h => h)
            tb := hGX.cell hcT (fun h => h) (fun h => h)
            tbase := H.out.tbase, tl := H.out.tl }
      have hbb : -4611686018427387904 ≤ b ∧ b ≤ 4611686018427387904 := by
        have := H.out.b0
        have := H.out.b1
        have := H.out.dep4
        omega
      go_upto_region 7 with fail
      rw [← hV8]
      clear hV8 hEr hIn d0 d1 d2 d3 L1 c1 hbox hcT ht5 htm L0 c0
      refine wp_region_held_drew (S := (fun V' : World => (V'.cell? ⟨Tb, 0, none⟩ = some (.func (.func 25) #[] #[.pointer (some ⟨Lb, 0, none⟩), .pointer (some ⟨Tb, 0, none⟩)]) ∧ V'.cell? ⟨U.heap.size, 0, none⟩ = some (.int .i64 tk) ∧ V'.cell? ⟨U.heap.size, 1, none⟩ = some (.int .i64 tn) ∧ V'.cell? ⟨U.heap.size, 2, none⟩ = some (.string ts) ∧ V'.cell? ⟨U.heap.size, 3, none⟩ = some (.slice A' tl.length (capF tl.length c')) ∧ V'.cell? ⟨W.heap.size, 0, none⟩ = some (.int .i64 k) ∧ V'.cell? ⟨W.heap.size, 1, none⟩ = some (.int .i64 n) ∧ V'.cell? ⟨W.heap.size, 2, none⟩ = some (.string s) ∧ V'.cell? ⟨W.heap.size, 3, none⟩ = some (.slice (some ⟨g, o, none⟩) m c)))) rfl (HS7.out _ (Below.refl _ _).drew) (fun hSs => ?_)
      change wpAnyH _ _ _ _ _ 7 (Array.replicate 7 false) _ _
      refine wpAnyH_take (i := 0) (oi := ⟨some 31, _, _, _, _, _⟩) (v := .func (.func 25) #[] #[.pointer (some ⟨Lb, 0, none⟩), .pointer (some ⟨Tb, 0, none⟩)]) rfl (by kernel_rfl) (by kernel_rfl) (by kernel_rfl) (fun _ _ _ h => h) (.inl ⟨by kernel_rfl, fun W hW => by first | (obtain ⟨z0, z1, z2, z3, z4, z5, z6, z7, z8⟩ := hW; go_simp; done) | (obtain ⟨z0, z1, z2, z3, z4, z5, z6, z7, z8⟩ := hW; go_simp; omega) | (obtain ⟨z0, z1, z2, z3, z4, z5, z6, z7, z8⟩ := hW; go_simp; exact IntWalk.i64_in _ (by omega)) | (obtain ⟨z0, z1, z2, z3, z4, z5, z6, z7, z8⟩ := hW; go_simp; simp [*]; done)⟩) hSs ?_
      try simp only [Act.put, List.setIfInBounds_toArray, List.set_cons_zero, List.set_cons_succ]
      refine wpAnyH_take (i := 1) (oi := ⟨some 32, _, _, _, _, _⟩) (v := (.agg #[.int .i64 tk, .int .i64 tn, .string ts, .slice A' tl.length (capF tl.length c')])) rfl (by kernel_rfl) (by kernel_rfl) (by kernel_rfl) (fun _ _ _ h => h) (.inl ⟨by kernel_rfl, fun W hW => by first | (obtain ⟨z0, z1, z2, z3, z4, z5, z6, z7, z8⟩ := hW; go_simp; done) | (obtain ⟨z0, z1, z2, z3, z4, z5, z6, z7, z8⟩ := hW; go_simp; omega) | (obtain ⟨z0, z1, z2, z3, z4, z5, z6, z7, z8⟩ := hW; go_simp; exact IntWalk.i64_in _ (by omega)) | (obtain ⟨z0, z1, z2, z3, z4, z5, z6, z7, z8⟩ := hW; go_simp; simp [*]; done)⟩) hSs ?_
      try simp only [Act.put, List.setIfInBounds_toArray, List.set_cons_zero, List.set_cons_succ]
      refine wpAnyH_take (i := 2) (oi := ⟨some 33, _, _, _, _, _⟩) (v := .int .i64 b) rfl (by kernel_rfl) (by kernel_rfl) (by kernel_rfl) (fun _ _ _ h => h) (.inl ⟨by kernel_rfl, fun W hW => by kernel_rfl⟩) hSs ?_
      try simp only [Act.put, List.setIfInBounds_toArray, List.set_cons_zero, List.set_cons_succ]
      refine wpAnyH_take (i := 3) (oi := ⟨some 34, _, _, _, _, _⟩) (v := (.agg #[.int .i64 k, .int .i64 n, .string s, .slice (some ⟨g, o, none⟩) m c])) rfl (by kernel_rfl) (by kernel_rfl) (by kernel_rfl) (fun _ _ _ h => h) (.inl ⟨by kernel_rfl, fun W hW => by first | (obtain ⟨z0, z1, z2, z3, z4, z5, z6, z7, z8⟩ := hW; go_simp; done) | (obtain ⟨z0, z1, z2, z3, z4, z5, z6, z7, z8⟩ := hW; go_simp; omega) | (obtain ⟨z0, z1, z2, z3, z4, z5, z6, z7, z8⟩ := hW; go_simp; exact IntWalk.i64_in _ (by omega)) | (obtain ⟨z0, z1, z2, z3, z4, z5, z6, z7, z8⟩ := hW; go_simp; simp [*]; done)⟩) hSs ?_
      try simp only [Act.put, List.setIfInBounds_toArray, List.set_cons_zero, List.set_cons_succ]
      refine wpAnyH_ready (rs := [4]) (by kernel_rfl) (by simp) (AllReadyH.cons rfl (fun K hK => ?_) AllReadyH.nil)
      go_simp
      refine (HBI.out _ _ _ _).mono ?_
      rintro e u2 ⟨rfl, hq2⟩
      have hb2 : Below V8.heap.size V8 u2 := (Below.refl _ V8).drew.trans hq2
      refine hK.out _ _ (HS7.out _ hb2) (fun hS2 => ?_)
      clear hK K
      try simp only [Act.put, List.setIfInBounds_toArray, List.set_cons_zero, List.set_cons_succ]
      refine wpAnyH_take (i := 5) (oi := ⟨some 36, _, _, _, _, _⟩) (v := .int .i64 (b + mo)) rfl (by kernel_rfl) (by kernel_rfl) (by kernel_rfl) (fun _ _ _ h => h) (.inl ⟨by kernel_rfl, fun W hW => by first | (obtain ⟨z0, z1, z2, z3, z4, z5, z6, z7, z8⟩ := hW; go_simp; done) | (obtain ⟨z0, z1, z2, z3, z4, z5, z6, z7, z8⟩ := hW; go_simp; omega) | (obtain ⟨z0, z1, z2, z3, z4, z5, z6, z7, z8⟩ := hW; go_simp; exact IntWalk.i64_in _ (by omega)) | (obtain ⟨z0, z1, z2, z3, z4, z5, z6, z7, z8⟩ := hW; go_simp; simp [*]; done)⟩) hS2 ?_
      try simp only [Act.put, List.setIfInBounds_toArray, List.set_cons_zero, List.set_cons_succ]
      refine wpAnyH_ready (rs := [6]) (by kernel_rfl) (by simp) (AllReadyH.cons rfl (fun K hK => ?_) AllReadyH.nil)
      go_simp
      refine (HTH.out _ hb2).mono ?_
      rintro e u3 ⟨⟨vv, rfl⟩, Z3, hg3, ht3⟩
      refine hK.out _ _ (HG7.out _ _ ((Gz.of_below hb2 (Nat.le_refl _)).trans hg3)) (fun hS3 => ?_)
      clear hK K
      try simp only [Act.put, List.setIfInBounds_toArray, List.set_cons_zero, List.set_cons_succ]
      refine wpAnyH_done (by kernel_rfl) ?_ _
      go_wp2_with fail
      go_roundw
      case rel =>
        refine ⟨i + 1, Z3, by omega, by first | rfl | go_num, ?_, ?_⟩
        · exact (hG1.trans hG8.any).trans ((Gz.of_below hb2 (Nat.le_refl _)).trans hg3)
        · rw [HS.out, ← List.append_assoc]; exact ht3
      case measure => simp [intOf]; omega
    · have c1 := L1.four
      go_wp2_with fail
      go_end0
      obtain rfl : i = m := by omega
      rw [HR.out]
      rw [HM.out, List.take_length] at hbox
      exact ⟨⟨_, rfl⟩, Z1, hG.any.trans hG1, hbox⟩
theorem free_any (Lb Tb base d : Nat) : ∀ (t : Te) (A : Option Addr) (c : Nat) (b : Int) (xs : List Int) (Z : Nat → Prop) (W : World), FrPre Lb Tb base t A d b xs Z W →
    Calls Try.prog 25 (frArgs Lb Tb (ev t A c) b) W (FrPost Lb base (xs ++ fvE t b) Z W) := by
  induction d with
  | zero => intro t A c b xs Z W h; have := depthE_pos t; have := h.dep; omega
  | succ d ih =>
    intro t A c b xs Z W h
    obtain ⟨k, n, s, l⟩ := t
    by_cases hk : k = 1
    · subst hk
      have ht := h.tame
      rw [tameE] at ht
      obtain rfl := (ht.1 rfl).2.2
      exact free_var Lb Tb base (d + 1) n s A c b xs Z W h
    · exact free_node Lb Tb base d ih k n s l A c b xs Z W hk h
end Lx
end Go.Proofs.Ytgnafcnokenogaa
namespace Go.Proofs
open Go.Shelf
def Try.lays189_ren : Go.Shelf.Ren := ⟨fun | 189 => 27 | 125 => 44 | 257 => 43 | 128 => 60 | 129 => 61 | 294 => 51 | 295 => 52 | 296 => 53 | 297 => 54 | 298 => 55 | 299 => 56 | 216 => 57 | 300 => 58 | 301 => 59 | 328 => 66 | 329 => 67 | 330 => 68 | 331 => 69 | 332 => 70 | 215 => 71 | 343 => 77 | n => n, fun | 28 => 35 | 3 => 3 | 46 => 62 | 0 => 0 | 51 => 78 | 53 => 80 | 4 => 4 | 183 => 71 | 182 => 70 | 131 => 75 | 5 => 5 | 9 => 9 | 218 => 88 | 222 => 92 | 228 => 98 | 229 => 99 | n => n, fun | n => n⟩
theorem Try.lays189 : Go.Proofs.Lays.n189 Try.prog Try.lays189_ren := {
  mixed := by kernel_rfl
  f125 := Try.func44.trans (congrArg some (by kernel_rfl))
  f128 := Try.func60.trans (congrArg some (by kernel_rfl))
  f129 := Try.func61.trans (congrArg some (by kernel_rfl))
  f189 := Try.func27.trans (congrArg some (by kernel_rfl))
  f215 := Try.func71.trans (congrArg some (by kernel_rfl))
  f216 := Try.func57.trans (congrArg some (by kernel_rfl))
  f257 := Try.func43.trans (congrArg some (by kernel_rfl))
  f294 := Try.func51.trans (congrArg some (by kernel_rfl))
  f295 := Try.func52.trans (congrArg some (by kernel_rfl))
  f296 := Try.func53.trans (congrArg some (by kernel_rfl))
  f297 := Try.func54.trans (congrArg some (by kernel_rfl))
  f298 := Try.func55.trans (congrArg some (by kernel_rfl))
  f299 := Try.func56.trans (congrArg some (by kernel_rfl))
  f300 := Try.func58.trans (congrArg some (by kernel_rfl))
  f301 := Try.func59.trans (congrArg some (by kernel_rfl))
  f328 := Try.func66.trans (congrArg some (by kernel_rfl))
  f329 := Try.func67.trans (congrArg some (by kernel_rfl))
  f330 := Try.func68.trans (congrArg some (by kernel_rfl))
  f331 := Try.func69.trans (congrArg some (by kernel_rfl))
  f332 := Try.func70.trans (congrArg some (by kernel_rfl))
  f343 := Try.func77.trans (congrArg some (by kernel_rfl))
  t0 := Try.underlying0
  a0 := Try.isAgg0
  z0 := Try.sizeOf0
  v0 := Try.zeroValue0
  t3 := Try.underlying3
  a3 := Try.isAgg3
  z3 := Try.sizeOf3
  v3 := Try.zeroValue3
  t4 := Try.underlying4
  a4 := Try.isAgg4
  z4 := Try.sizeOf4
  v4 := Try.zeroValue4
  t5 := Try.underlying5
  a5 := Try.isAgg5
  z5 := Try.sizeOf5
  v5 := Try.zeroValue5
  t9 := Try.underlying9
  a9 := Try.isAgg9
  z9 := Try.sizeOf9
  v9 := Try.zeroValue9
  t28 := Try.underlying35
  a28 := Try.isAgg35
  z28 := Try.sizeOf35
  v28 := Try.zeroValue35
  t46 := Try.underlying62
  a46 := Try.isAgg62
  z46 := Try.sizeOf62
  v46 := Try.zeroValue62
  t51 := Try.underlying78
  a51 := Try.isAgg78
  z51 := Try.sizeOf78
  v51 := Try.zeroValue78
  t53 := Try.underlying80
  a53 := Try.isAgg80
  z53 := Try.sizeOf80
  v53 := Try.zeroValue80
  t131 := Try.underlying75
  a131 := Try.isAgg75
  z131 := Try.sizeOf75
  v131 := Try.zeroValue75
  t182 := Try.underlying70
  a182 := Try.isAgg70
  z182 := Try.sizeOf70
  v182 := Try.zeroValue70
  t183 := Try.underlying71
  a183 := Try.isAgg71
  z183 := Try.sizeOf71
  v183 := Try.zeroValue71
  t218 := Try.underlying88
  a218 := Try.isAgg88
  z218 := Try.sizeOf88
  v218 := Try.zeroValue88
  t222 := Try.underlying92
  a222 := Try.isAgg92
  z222 := Try.sizeOf92
  v222 := Try.zeroValue92
  t228 := Try.underlying98
  a228 := Try.isAgg98
  z228 := Try.sizeOf98
  v228 := Try.zeroValue98
  t229 := Try.underlying99
  a229 := Try.isAgg99
  z229 := Try.sizeOf99
  v229 := Try.zeroValue99 }
open Go.Sort Go.RowKit in
theorem Try.slices_Sort_int (blk off cap : Nat) (zs : List Int) (w : World) (hH : Holds (Value.int .i64) w blk off zs.toArray) (hblk : blk < w.heap.size) (hsz : zs.length < 4611686018427387904) :
    Calls Try.prog 27 #[.slice (some ⟨blk, off, none⟩) zs.length cap] w fun e w' =>
      e = .returned (.tuple #[]) ∧ ∃ n os, w' = grow (putRow (Value.int .i64) (Sort.ahead w n) blk off (zs.mergeSort fun x y => decide (x ≤ y)).toArray) os := Any.slices_Sort_int Try.lays189 blk off cap zs w hH hblk hsz
def Try.lays112_ren : Go.Shelf.Ren := ⟨fun | 112 => 24 | n => n, fun | 28 => 35 | 3 => 3 | 4 => 4 | 0 => 0 | n => n, fun | n => n⟩
theorem Try.lays112 : Go.Proofs.Lays.n112 Try.prog Try.lays112_ren := {
  mixed := by kernel_rfl
  f112 := Try.func24.trans (congrArg some (by kernel_rfl))
  t0 := Try.underlying0
  a0 := Try.isAgg0
  z0 := Try.sizeOf0
  v0 := Try.zeroValue0
  t3 := Try.underlying3
  a3 := Try.isAgg3
  z3 := Try.sizeOf3
  v3 := Try.zeroValue3
  t4 := Try.underlying4
  a4 := Try.isAgg4
  z4 := Try.sizeOf4
  v4 := Try.zeroValue4
  t28 := Try.underlying35
  a28 := Try.isAgg35
  z28 := Try.sizeOf35
  v28 := Try.zeroValue35 }
open Go.RowKit Go.Lib Go.Sort in
theorem Try.slices_Reverse_int (blk off cap : Nat) (zs : List Int) (w : World) (hH : Holds (Value.int .i64) w blk off zs.toArray) (hsz : zs.length ≤ 9223372036854775807) :
    Calls Try.prog 24 #[.slice (some ⟨blk, off, none⟩) zs.length cap] w fun e w' => e = .returned (.tuple #[]) ∧ ∃ n, w' = putRow (Value.int .i64) (Sort.ahead w n) blk off zs.reverse.toArray := Any.slices_Reverse_int Try.lays112 blk off cap zs w hH hsz
open Go.RowKit Go.Lib Go.Sort in
theorem Try.slices_Reverse_int_empty (a : Option Addr) (cap : Nat) (w : World) :
    Calls Try.prog 24 #[.slice a 0 cap] w fun e w' => e = .returned (.tuple #[]) ∧ w' = w := Any.slices_Reverse_int_empty Try.lays112 a cap w
def Try.laysNm220_ren : Go.Shelf.Ren := ⟨fun | 20 => 28 | n => n, fun | 22 => 35 | 3 => 3 | 4 => 4 | 0 => 0 | n => n, fun | n => n⟩
theorem Try.laysNm220 : Go.Proofs.Lays2.n20 Try.prog Try.laysNm220_ren := {
  mixed := by kernel_rfl
  f20 := Try.func28.trans (congrArg some (by kernel_rfl))
  t0 := Try.underlying0
  a0 := Try.isAgg0
  z0 := Try.sizeOf0
  v0 := Try.zeroValue0
  t3 := Try.underlying3
  a3 := Try.isAgg3
  z3 := Try.sizeOf3
  v3 := Try.zeroValue3
  t4 := Try.underlying4
  a4 := Try.isAgg4
  z4 := Try.sizeOf4
  v4 := Try.zeroValue4
  t22 := Try.underlying35
  a22 := Try.isAgg35
  z22 := Try.sizeOf35
  v22 := Try.zeroValue35
  i3 := by kernel_rfl }
open Go.RowKit Go.Lib Go.Sort in
theorem Try.slices_Compact_int (blk off cap : Nat) (zs : List Int) (w : World) (hH : Holds (Value.int .i64) w blk off zs.toArray) (hsz : zs.length ≤ 9223372036854775807) (hcap : zs.length ≤ cap) :
    Calls Try.prog 28 #[.slice (some ⟨blk, off, none⟩) zs.length cap] w fun e w' => e = .returned (.slice (some ⟨blk, off, none⟩) (Lib.compact zs).length cap) ∧ ∃ q, w' = putRow (Value.int .i64) (Sort.ahead w q) blk off (Lib.compact zs ++ List.replicate (zs.length - (Lib.compact zs).length) 0).toArray := Any.slices_Compact_int Try.laysNm220 blk off cap zs w hH hsz hcap
open Go.RowKit Go.Lib Go.Sort in
theorem Try.slices_Compact_int_empty (a : Option Addr) (cap : Nat) (w : World) :
    Calls Try.prog 28 #[.slice a 0 cap] w fun e w' => e = .returned (.slice a 0 cap) ∧ w' = w := Any.slices_Compact_int_empty Try.laysNm220 a cap w
open Go.RowKit Go.Sort in
theorem Try.slices_Sort_int_none (p : Option Addr) (cap : Nat) (w : World) :
    Calls Try.prog 27 #[.slice p 0 cap] w fun e w' => e = .returned (.tuple #[]) ∧ w' = w := Any.slices_Sort_int_none Try.lays189 p cap w
end Go.Proofs
namespace Go.Proofs.Ytgnafcnokenogaa
open Go Go.RowKit
namespace Lx
set_option maxRecDepth 100000
attribute [local go_sem] run_store_fn
/-- The answer is a row of numbers in new memory. -/
def GivesI (xs : List Int) (w : World) (e : Ending) (w' : World) : Prop :=
  ∃ A c, e = .returned (.slice A xs.length c) ∧ w'.ownsRow w.heap.size 3 1 (.slice A xs.length c) xs.length (vI xs) ∧ Below w.heap.size w w'
theorem rev_any {w : World} {b : Nat} {A : Option Addr} {c n : Nat} {xs : List Int} (h : w.ownsRow b 3 1 (.slice A n c) n (vI xs)) (hn : n ≤ 1000000000000) :
    Calls Try.prog 24 #[.slice A n c] w fun e w' => e = .returned (.tuple #[]) ∧ w'.ownsRow b 3 1 (.slice A n c) n (vI xs.reverse) ∧ Below b w w' := by
  have hxl : xs.length = n := by have := h.1; simp [vI] at this; omega
  by_cases h0 : n = 0
  · subst h0
    obtain rfl : xs = [] := List.eq_nil_of_length_eq_zero hxl
    refine (Try.slices_Reverse_int_empty A c w).mono ?_
    rintro e w' ⟨rfl, rfl⟩
    exact ⟨rfl, h, Below.refl _ _⟩
  · obtain ⟨A', c', e1, e2⟩ := ownsRow_slice h
    injection e1 with e1 _ e3
    subst e1 e3
    obtain ⟨g, rfl⟩ := e2 (by omega)
    obtain ⟨hH, hg, _, _⟩ := row_holds h
    have hq := Try.slices_Reverse_int g 0 c xs w hH (by omega)
    rw [hxl] at hq
    refine hq.mono ?_
    rintro e w' ⟨rfl, q, rfl⟩
    have := row_put h q xs.reverse (by simp [hxl]) n (Nat.le_refl _) #[]
    rw [List.take_of_length_le (by simp [hxl]), Sort.grow_empty] at this
    exact ⟨rfl, this.1, this.2⟩
theorem sort_any {w : World} {b : Nat} {A : Option Addr} {c n : Nat} {xs : List Int} (h : w.ownsRow b 3 1 (.slice A n c) n (vI xs)) (hn : n ≤ 1000000000000) :
    Calls Try.prog 27 #[.slice A n c] w fun e w' => e = .returned (.tuple #[]) ∧ w'.ownsRow b 3 1 (.slice A n c) n (vI (xs.mergeSort fun x y => decide (x ≤ y))) ∧ Below b w w' := by
  have hxl : xs.length = n := by have := h.1; simp [vI] at this; omega
  by_cases h0 : n = 0
  · subst h0
    obtain rfl : xs = [] := List.eq_nil_of_length_eq_zero hxl
    refine (Try.slices_Sort_int_none A c w).mono ?_
    rintro e w' ⟨rfl, rfl⟩
    exact ⟨rfl, by simpa using h, Below.refl _ _⟩
  · obtain ⟨A', c', e1, e2⟩ := ownsRow_slice h
    injection e1 with e1 _ e3
    subst e1 e3
    obtain ⟨g, rfl⟩ := e2 (by omega)
    obtain ⟨hH, hg, _, _⟩ := row_holds h
    have hq := Try.slices_Sort_int g 0 c xs w hH hg (by omega)
    rw [hxl] at hq
    refine hq.mono ?_
    rintro e w' ⟨rfl, q, os, rfl⟩
    have hl : (xs.mergeSort fun x y => decide (x ≤ y)).length = n := by rw [List.length_mergeSort]; exact hxl
    have := row_put h q (xs.mergeSort fun x y => decide (x ≤ y)) hl n (Nat.le_refl _) os
    rw [List.take_of_length_le (Nat.le_of_eq hl)] at this
    exact ⟨rfl, this.1, this.2⟩
theorem compact_len (xs : List Int) : (Lib.compact xs).length ≤ xs.length := by
  unfold Lib.compact Lib.compactUpTo
  rw [List.length_map]
  exact Nat.le_trans (List.length_filter_le _ _) (by simp)
theorem compact_any {w : World} {b : Nat} {A : Option Addr} {c n : Nat} {xs : List Int} (h : w.ownsRow b 3 1 (.slice A n c) n (vI xs)) (hn : n ≤ 1000000000000) :
    Calls Try.prog 28 #[.slice A n c] w fun e w' => e = .returned (.slice A (Lib.compact xs).length c) ∧ w'.ownsRow b 3 1 (.slice A (Lib.compact xs).length c) (Lib.compact xs).length (vI (Lib.compact xs)) ∧ Below b w w' := by
  have hxl : xs.length = n := by have := h.1; simp [vI] at this; omega
  by_cases h0 : n = 0
  · subst h0
    obtain rfl : xs = [] := List.eq_nil_of_length_eq_zero hxl
    refine (Try.slices_Compact_int_empty A c w).mono ?_
    rintro e w' ⟨rfl, rfl⟩
    have e0 : Lib.compact ([] : List Int) = [] := by simp [Lib.compact, Lib.compactUpTo]
    rw [e0]
    exact ⟨rfl, h, Below.refl _ _⟩
  · obtain ⟨A', c', e1, e2⟩ := ownsRow_slice h
    injection e1 with e1 _ e3
    subst e1 e3
    obtain ⟨g, rfl⟩ := e2 (by omega)
    obtain ⟨hH, hg, _, hnc⟩ := row_holds h
    have hq := Try.slices_Compact_int g 0 c xs w hH (by omega) (by omega)
    rw [hxl] at hq
    refine hq.mono ?_
    rintro e w' ⟨rfl, q, rfl⟩
    have hcl := compact_len xs
    have := row_put h q (Lib.compact xs ++ List.replicate (n - (Lib.compact xs).length) 0) (by simp; omega) (Lib.compact xs).length (by omega) #[]
    rw [List.take_left, Sort.grow_empty] at this
    exact ⟨rfl, this.1, this.2⟩
set_option maxHeartbeats 4000000 in
theorem of_any (t : Te) (A : Option Addr) (c : Nat) (w : World) (hd : depthE t ≤ 4000) (hs : sizeE t ≤ 1000000) (ht : tameE 1099511627776 1099511627776 t) (hI : EIn w Any t A) :
    Calls Try.prog 15 #[ev t A c] w (GivesI (ofE t) w) := by
  obtain ⟨k, n, s, lst⟩ := t
  show Calls Try.prog 15 #[.agg #[.int .i64 k, .int .i64 n, .string s, .slice A lst.length (capF lst.length c)]] w _
  have hol := ofE_len (.node k n s lst)
  have hb1 : Below w.heap.size w (w.alloc (.cells #[.int .i64 k, .int .i64 n, .string s, .slice A lst.length (capF lst.length c)] 24)) := (Below.refl _ w).alloc (Nat.le_refl _) _
  have L0 := Lies.new w 24 #[.int .i64 k, .int .i64 n, .string s, .slice A lst.length (capF lst.length c)]
  have hI1 := EIn.below _ hI hb1 (Nat.le_refl _)
  go_enter Try.func15, Try.ntmps15
  go_upto_region 1 with fail
  generalize w.alloc (.cells #[.int .i64 k, .int .i64 n, .string s, .slice A lst.length (capF lst.length c)] 24) = V at L0 hb1 hI1 ⊢
  have c0 := L0.four
  have L2 := Lies.new V 24 #[.int .i64 k, .int .i64 n, .string s, .slice A lst.length (capF lst.length c)]
  have hbV : Below V.heap.size V (V.alloc (.cells #[.int .i64 k, .int .i64 n, .string s, .slice A lst.length (capF lst.length c)] 24)) := (Below.refl _ V).alloc (Nat.le_refl _) _
  have HC := Lib.hid (collect_any (.node k n s lst) A c V.heap.size _ hd hs ht (EIn.below _ (ein_lt hI1) hbV (Nat.le_refl _)) L2)
  have hb2 := hb1.trans (hbV.mono hb1.size)
  clear hI hI1 L2 L0 hbV
  go_wp2_with (first
    | (go_at_call 21; refine (usesF_any _ _ _ _ _ _ _).mono ?_; rintro e w' ⟨rfl, rfl⟩)
    | (go_at_call 23; refine HC.out.mono ?_; rintro e w1 ⟨A', c', rfl, hrow, hb⟩)
    | (go_at_call 24; refine (rev_any hrow (by omega)).mono ?_; rintro e w2 ⟨rfl, hrow2, hb3⟩))
  go_ret
  rw [List.reverse_reverse] at hrow2
  refine ⟨A', c', rfl, ownsRow_base hrow2 hb2.size, ?_⟩
  exact (hb2.trans (hb.mono hb2.size)).trans (hb3.mono hb2.size)
/-- The numbers of a term's free variables, rising, each once. -/
def freeE (t : Te) : List Int := Lib.compact ((fvE t 0).mergeSort fun x y => decide (x ≤ y))
set_option maxHeartbeats 4000000 in
theorem useFree_any (t : Te) (A : Option Addr) (c : Nat) (w : World) (hd : depthE t ≤ 4000) (hs : sizeE t ≤ 1000000) (ht : tameE 1099511627776 1099511627776 t) (hI : EIn w Any t A) :
    Calls Try.prog 18 #[ev t A c] w (GivesI (freeE t) w) := by
  obtain ⟨R, hR⟩ : ∃ R, R = GivesI (freeE t) w := ⟨_, rfl⟩
  rw [← hR]
  have HR := Lib.hid hR
  clear hR
  have hfl := fvE_len t 0
  obtain ⟨V, hV⟩ : ∃ V, V = (w.alloc (.cells #[.int .i64 t.kind, .int .i64 t.n, .string t.name, .slice A t.parts.length (capF t.parts.length c)] 24)).alloc (.cells #[.slice none 0 0] 35) := ⟨_, rfl⟩
  have hbV : Below w.heap.size w V := by rw [hV]; exact ((Below.refl _ w).alloc (Nat.le_refl _) _).alloc (by simp) _
  have hsV : V.heap.size = w.heap.size + 2 := by rw [hV]; simp
  have L0 : Lies V w.heap.size 24 #[.int .i64 t.kind, .int .i64 t.n, .string t.name, .slice A t.parts.length (capF t.parts.length c)] := by rw [hV]; exact (Lies.new _ _ _).old _
  have L1 : Lies V (w.heap.size + 1) 35 #[.slice none 0 0] := by rw [hV]; exact lies_next _ _ _ _ (by simp)
  obtain ⟨V3, hV3⟩ : ∃ V3, V3 = V.alloc (.cells #[.func (.func 25) #[] #[.pointer (some ⟨w.heap.size + 1, 0, none⟩), .pointer (some ⟨V.heap.size, 0, none⟩)]] 44) := ⟨_, rfl⟩
  have hbV3 : Below V.heap.size V V3 := by rw [hV3]; exact (Below.refl _ V).alloc (Nat.le_refl _) _
  have hs3 : V3.heap.size = w.heap.size + 3 := by rw [hV3, World.size_alloc, hsV]
  have M0 := L0.below hbV3 L0.lt
  have M1 := L1.below hbV3 L1.lt
  have M2 : Lies V3 V.heap.size 44 #[.func (.func 25) #[] #[.pointer (some ⟨w.heap.size + 1, 0, none⟩), .pointer (some ⟨V.heap.size, 0, none⟩)]] := by rw [hV3]; exact Lies.new _ _ _
  have hb3 : Below w.heap.size w V3 := hbV.trans (hbV3.mono hbV.size)
  have HF : Hid (Calls Try.prog 25 #[.agg #[.int .i64 t.kind, .int .i64 t.n, .string t.name, .slice A t.parts.length (capF t.parts.length c)], .int .i64 0, .pointer (some ⟨w.heap.size + 1, 0, none⟩), .pointer (some ⟨V.heap.size, 0, none⟩)] V3 fun e W' => (∃ v, e = .returned v) ∧ ∃ A' c', Lies W' (w.heap.size + 1) 35 #[.slice A' (fvE t 0).length c'] ∧ W'.ownsRow (w.heap.size + 3) 3 1 (.slice A' (fvE t 0).length c') (fvE t 0).length (vI (fvE t 0)) ∧ Below w.heap.size w W') := Lib.hid (by
    refine (free_any (w.heap.size + 1) V.heap.size (w.heap.size + 3) (depthE t) t A c 0 [] (fun q => q = w.heap.size + 1 ∨ (Value.slice none 0 0).ownBlock = some q) V3
      { dep := Nat.le_refl _, dep4 := hd, siz := by simp; omega, tame := ht, b0 := by omega, b1 := by omega
        lies := EIn.wide _ (EIn.below _ (ein_lt hI) hb3 (Nat.le_refl _)) fun q hq _ => by omega
        box := ⟨none, 0, rfl, M1, ⟨by omega, by omega⟩, World.ownsRow_nil _ _ _ _⟩
        tb := M2.cell 0, tbase := by omega, tl := by omega }).mono ?_
    rintro e W' ⟨hv, Z', hG, A', c', rfl, LW, _, hrow⟩
    simp only [List.nil_append] at LW hrow
    exact ⟨hv, A', c', LW, hrow, gz_below hb3 (fun q hq => hq.elim (fun h => by omega) (fun h => by cases h)) hG⟩)
  have c0 := L0.four
  have L4 := Lies.new V 44 #[.nilFunc]
  have x0 : (V.alloc (.cells #[.nilFunc] 44)).cell? ⟨V.heap.size, 0, none⟩ = some .nilFunc := L4.cell 0
  have x1 : (V.alloc (.cells #[.nilFunc] 44)).frozen? ⟨V.heap.size, 0, none⟩ = false := L4.frozen 0
  have d0 := M0.four
  have m2 := M2.cell 0
  simp at m2
  have hfe : freeE t = Lib.compact ((fvE t 0).mergeSort fun x y => decide (x ≤ y)) := rfl
  have HFE := Lib.hid hfe
  clear L0 L1 M0 M1 M2 hbV hbV3 hsV hs3 hI hb3 L4 hfe
  generalize fvE t 0 = fv at HF HFE hfl
  show Calls Try.prog 18 #[.agg #[.int .i64 t.kind, .int .i64 t.n, .string t.name, .slice A t.parts.length (capF t.parts.length c)]] w _
  have HV := Lib.hid hV
  have HV3 := Lib.hid hV3
  clear hV hV3
  go_enter Try.func18, Try.ntmps18
  go_upto_region 2 with fail
  rw [← HV.out]
  go_upto_region 4 with fail
  rw [← HV3.out]
  go_wp2_with (first
    | (go_at_call 25; refine HF.out.mono ?_; rintro e w1 ⟨⟨vv, rfl⟩, A', c', LW, hrow, hbW⟩; have y0 := LW.cell 0; simp at y0; have HLW := Lib.hid LW; clear LW)
    | (go_at_call 27; refine (sort_any hrow (by omega)).mono ?_; rintro e w2 ⟨rfl, hrow2, hb2⟩; have z0 := (HLW.out.below hb2 (by omega)).cell 0; simp at z0)
    | (go_at_call 28; refine (compact_any hrow2 (by omega)).mono ?_; rintro e w3 ⟨rfl, hrow3, hb3⟩))
  rw [HR.out, GivesI, HFE.out]
  exact ⟨A', c', rfl, ownsRow_base hrow3 (by omega), (hbW.trans (hb2.mono (by omega))).trans (hb3.mono (by omega))⟩
end Lx
end Go.Proofs.Ytgnafcnokenogaa
namespace Go.Proofs.Ytgnafcnokenogaa
open Go Go.RowKit
namespace Lx
set_option maxRecDepth 100000
/-- The numbers of xs lie from A on. -/
def RowI (W : World) (A : Option Addr) (xs : List Int) : Prop := ∀ (j : Nat) (h : j < xs.length), ∃ g o, A = some ⟨g, o, none⟩ ∧ W.cell? ⟨g, o + j, none⟩ = some (.int .i64 (xs[j]'h))
theorem RowI.below {W W' : World} {A : Option Addr} {xs : List Int} {B : Nat} (h : RowI W A xs) (hb : Below B W W') (hB : W.heap.size ≤ B) : RowI W' A xs := fun j hj => by
  obtain ⟨g, o, e, hc⟩ := h j hj
  exact ⟨g, o, e, (hb.cell (p := ⟨g, o + j, none⟩) (by have := World.block_lt_of_cell? W _ hc; simp at this ⊢; omega)).trans hc⟩
theorem rowI_own {W : World} {b n c : Nat} {A : Option Addr} {xs : List Int} (h : W.ownsRow b 3 1 (.slice A n c) n (vI xs)) : RowI W A xs := fun j hj => by
  have hxl : xs.length = n := by have := h.1; simp [vI] at this; omega
  obtain ⟨A', c', e1, e2⟩ := ownsRow_slice h
  injection e1 with e1 _ e3
  subst e1 e3
  obtain ⟨g, rfl⟩ := e2 (by omega)
  have hH := (row_holds h).1 j (by simpa using hj)
  exact ⟨g, 0, rfl, by rw [hH.1]; simp [encV, hj]⟩
theorem take_eq_of {xs ys : List Int} {i : Nat} (h : xs.take i = ys.take i) (hx : i < xs.length) (hy : i < ys.length) (he : xs[i] = ys[i]) : xs.take (i + 1) = ys.take (i + 1) := by
  rw [List.take_succ_eq_append_getElem hx, List.take_succ_eq_append_getElem hy, h, he]
set_option maxHeartbeats 4000000 in
theorem ints_any (A B : Option Addr) (c d : Nat) (xs ys : List Int) (w : World) (hx : RowI w A xs) (hy : RowI w B ys) (hxl : xs.length ≤ 1000000000000) (_hyl : ys.length ≤ 1000000000000) :
    Calls Try.prog 14 #[.slice A xs.length c, .slice B ys.length d] w fun e w' => e = .returned (.bool (decide (xs = ys))) ∧ Below w.heap.size w w' := by
  have HX := Lib.hid hx
  have HY := Lib.hid hy
  clear hx hy
  by_cases hl : xs.length = ys.length
  · have HE := Lib.hid hl
    obtain ⟨n, hn⟩ : ∃ n, n = xs.length := ⟨_, rfl⟩
    have hn2 : n = ys.length := by omega
    rw [← hn, ← hn2]
    have HN := Lib.hid hn
    have HN2 := Lib.hid hn2
    have hnb : n ≤ 1000000000000 := by omega
    clear hl hn hn2 hxl
    go_enter Try.func14, Try.ntmps14
    go_wp2_with fail
    go_loopw [5] (fun x wr => ∃ i : Nat, i ≤ n ∧ x = .int .i64 i ∧ Hid (xs.take i = ys.take i) ∧ Below w.heap.size w wr) (fun x _ => n - (intOf x).toNat)
    case atStart => exact ⟨0, Nat.zero_le _, rfl, Lib.hid (by simp), Below.refl _ _⟩
    case round =>
      obtain ⟨i, hi, rfl, hT, hb⟩ := hrel
      by_cases hlt : i < n
      · have hix : i < xs.length := by rw [← HN.out]; exact hlt
        have hiy : i < ys.length := by rw [← HN2.out]; exact hlt
        obtain ⟨g, o, rfl, c0⟩ := HX.out i hix
        obtain ⟨g', o', rfl, c1⟩ := HY.out i hiy
        have hgl := World.block_lt_of_cell? w _ c0
        have hgl' := World.block_lt_of_cell? w _ c1
        replace c0 := (hb.cell (p := ⟨g, o + i, none⟩) hgl).trans c0
        replace c1 := (hb.cell (p := ⟨g', o' + i, none⟩) hgl').trans c1
        obtain ⟨xi, hxi⟩ : ∃ xi, xi = xs[i]'hix := ⟨_, rfl⟩
        obtain ⟨yi, hyi⟩ : ∃ yi, yi = ys[i]'hiy := ⟨_, rfl⟩
        rw [← hxi] at c0
        rw [← hyi] at c1
        have HXI := Lib.hid hxi
        have HYI := Lib.hid hyi
        clear hxi hyi hgl hgl'
        have hbd := hb.drew
        go_upto_region 6 with fail
        go_region
        all_goals
          by_cases hne : xi = yi
          · have hne1 : (xi != yi) = false := by simp [hne]
            have hix : i < xs.length := by rw [← HN.out]; exact hlt
            have hiy : i < ys.length := by rw [← HN2.out]; exact hlt
            have HT1 : Hid (xs.take (i + 1) = ys.take (i + 1)) := Lib.hid (take_eq_of hT.out hix hiy (by rw [← HXI.out, ← HYI.out, hne]))
            clear hne
            go_wp2_with fail
            go_roundw
            case rel => exact ⟨i + 1, by omega, by go_num, HT1, hbd⟩
            case measure => simp [intOf]; omega
          · have hne1 : (xi != yi) = true := by simp [hne]
            have hD : decide (xs = ys) = false := decide_eq_false fun e => hne (by rw [HXI.out, HYI.out]; subst e; rfl)
            clear hne
            go_wp2_with fail
            go_ret
            exact ⟨by rw [hD]; rfl, hbd⟩
      · go_wp2_with fail
        go_ret
        have hD : xs = ys := by
          have h1 := hT.out
          rwa [List.take_of_length_le (by rw [← HN.out]; omega), List.take_of_length_le (by rw [← HN2.out]; omega)] at h1
        exact ⟨by simp [hD], hb⟩
  · have hD : decide (xs = ys) = false := decide_eq_false fun e => hl (by rw [e])
    rw [hD]
    have hne1 : ((xs.length : Int) != (ys.length : Int)) = true := by simp; omega
    go_enter Try.func14, Try.ntmps14
    go_wp2_with fail
    go_ret
    exact ⟨rfl, Below.refl _ _⟩
end Lx
end Go.Proofs.Ytgnafcnokenogaa
namespace Go.Proofs.Ytgnafcnokenogaa
namespace Lx
abbrev n0B : ByteArray := ⟨#[]⟩
def vE (n : Int) : Te := .node 1 n n0B []
def lamE (b : Te) : Te := .node 2 0 n0B [b]
def appE (a b : Te) : Te := .node 3 0 n0B [a, b]
end Lx
end Go.Proofs.Ytgnafcnokenogaa
namespace Go.Proofs.Ytgnafcnokenogaa
open Go
namespace Lx
set_option maxRecDepth 100000
theorem strict_ext : ∀ (l m : List Int), l.Pairwise (· < ·) → m.Pairwise (· < ·) → (∀ x, x ∈ l ↔ x ∈ m) → l = m
  | [], [], _, _, _ => rfl
  | [], b :: s, _, _, h => absurd ((h b).2 (by simp)) (by simp)
  | a :: r, [], _, _, h => absurd ((h a).1 (by simp)) (by simp)
  | a :: r, b :: s, hl, hm, h => by
    rw [List.pairwise_cons] at hl hm
    have h1 : a = b := by
      have ha := (h a).1 (by simp)
      have hb := (h b).2 (by simp)
      rcases List.mem_cons.1 ha with e | ha
      · exact e
      · rcases List.mem_cons.1 hb with e | hb
        · exact e.symm
        · have := hl.1 b hb; have := hm.1 a ha; omega
    subst h1
    congr 1
    refine strict_ext r s hl.2 hm.2 fun x => ⟨fun hx => ?_, fun hx => ?_⟩
    · rcases List.mem_cons.1 ((h x).1 (List.mem_cons_of_mem _ hx)) with e | h'
      · have := hl.1 x hx; omega
      · exact h'
    · rcases List.mem_cons.1 ((h x).2 (List.mem_cons_of_mem _ hx)) with e | h'
      · have := hm.1 x hx; omega
      · exact h'
theorem upTo_ok (d : Array Int) (hs : ∀ i j, i ≤ j → j < d.size → d[i]! ≤ d[j]!) : ∀ m, m ≤ d.size →
    (Lib.compactUpTo d m).Pairwise (· < ·) ∧ (∀ x ∈ Lib.compactUpTo d m, 0 < m ∧ x ≤ d[m - 1]!) ∧ (∀ j, j < m → d[j]! ∈ Lib.compactUpTo d m) ∧ (∀ x ∈ Lib.compactUpTo d m, ∃ j, j < m ∧ x = d[j]!)
  | 0, _ => by
    have e : Lib.compactUpTo d 0 = [] := by simp [Lib.compactUpTo]
    rw [e]
    simp
  | m + 1, hm => by
    obtain ⟨h1, h2, h3, h4⟩ := upTo_ok d hs m (by omega)
    rw [Lib.compactUpTo_succ]
    by_cases hk : Lib.keeps d m = true
    · rw [if_pos hk]
      have hlt : ∀ x ∈ Lib.compactUpTo d m, x < d[m]! := fun x hx => by
        have ⟨h5, h6⟩ := h2 x hx
        have h7 := hs (m - 1) m (by omega) (by omega)
        have hne : d[m]! ≠ d[m - 1]! := by
          simp only [Lib.keeps, decide_eq_true_eq] at hk
          rcases hk with hk | hk
          · omega
          · exact hk
        omega
      refine ⟨List.pairwise_append.2 ⟨h1, by simp, fun a ha b hb => by simp at hb; subst hb; exact hlt a ha⟩, fun x hx => ⟨by omega, ?_⟩, fun j hj => ?_, fun x hx => ?_⟩
      · simp only [Nat.add_sub_cancel]
        rcases List.mem_append.1 hx with hx | hx
        · have := hlt x hx; omega
        · simp at hx; omega
      · by_cases hjm : j = m
        · subst hjm; simp
        · exact List.mem_append_left _ (h3 j (by omega))
      · rcases List.mem_append.1 hx with hx | hx
        · obtain ⟨j, hj, e⟩ := h4 x hx; exact ⟨j, by omega, e⟩
        · simp at hx; exact ⟨m, by omega, hx⟩
    · rw [if_neg hk, List.append_nil]
      have he : 0 < m ∧ d[m]! = d[m - 1]! := by
        have : Lib.keeps d m = false := by simpa using hk
        simp only [Lib.keeps, decide_eq_false_iff_not] at this
        omega
      refine ⟨h1, fun x hx => ⟨by omega, ?_⟩, fun j hj => ?_, fun x hx => ?_⟩
      · have ⟨h5, h6⟩ := h2 x hx
        simp only [Nat.add_sub_cancel]
        omega
      · by_cases hjm : j = m
        · subst hjm; rw [he.2]; exact h3 (j - 1) (by omega)
        · exact h3 j (by omega)
      · obtain ⟨j, hj, e⟩ := h4 x hx; exact ⟨j, by omega, e⟩
theorem once_ok (l : List Int) : (Lib.compact (l.mergeSort fun x y => decide (x ≤ y))).Pairwise (· < ·) ∧ ∀ x, x ∈ Lib.compact (l.mergeSort fun x y => decide (x ≤ y)) ↔ x ∈ l := by
  have hp := List.mergeSort_perm l (fun x y => decide (x ≤ y))
  have hs := List.pairwise_mergeSort (le := fun x y : Int => decide (x ≤ y)) (by intro a b c; simp; omega) (by intro a b; simp; omega) l
  generalize l.mergeSort (fun x y => decide (x ≤ y)) = z at hp hs
  have hget : ∀ i, i < z.length → z.toArray[i]! = z[i]! := fun i hi => by simp [hi]
  have hsrt : ∀ i j, i ≤ j → j < z.toArray.size → z.toArray[i]! ≤ z.toArray[j]! := fun i j hij hj => by
    have hj' : j < z.length := by simpa using hj
    by_cases he : i = j
    · subst he; omega
    · have := List.pairwise_iff_getElem.1 hs i j (by omega) hj' (by omega)
      simp only [decide_eq_true_eq] at this
      simp [hj', show i < z.length by omega]
      exact this
  obtain ⟨h1, _, h3, h4⟩ := upTo_ok z.toArray hsrt z.length (by simp)
  refine ⟨h1, fun x => ⟨fun hx => ?_, fun hx => ?_⟩⟩
  · obtain ⟨j, hj, e⟩ := h4 x hx
    rw [e]
    exact hp.mem_iff.1 (by simp [hj])
  · have hx' := hp.mem_iff.2 hx
    obtain ⟨j, hj, e⟩ := List.getElem_of_mem hx'
    have := h3 j hj
    rw [show z.toArray[j]! = z[j] by simp [hj], e] at this
    exact this
theorem once_eq (l m : List Int) (hm : m.Pairwise (· < ·)) (h : ∀ x, x ∈ l ↔ x ∈ m) : Lib.compact (l.mergeSort fun x y => decide (x ≤ y)) = m :=
  strict_ext _ _ (once_ok l).1 hm fun x => ((once_ok l).2 x).trans (h x)
end Lx
end Go.Proofs.Ytgnafcnokenogaa
namespace Go.Proofs.Ytgnafcnokenogaa
open Go Go.RowKit
namespace Lx
set_option maxRecDepth 100000
/-- The answer is a term as a value, wherever its parts lie. -/
def GivesT (t : Te) (w : World) (e : Ending) (w' : World) : Prop :=
  ∃ A c, e = .returned (ev t A c) ∧ EIn w' Any t A ∧ Below w.heap.size w w'
theorem vq_any (n : Int) (w : World) (h0 : -9223372036854775808 ≤ n) (h1 : n ≤ 9223372036854775807) : Calls Try.prog 13 #[.int .i64 n] w (GivesT (vE n) w) := by
  go_enter Try.func13, Try.ntmps13
  go_wp2_with fail
  exact bodyPost_ret (res_term (p := 2) Try.results13 rfl (Lies.new w _ _)) rfl ⟨none, 0, rfl, ein_mk (by decide) h0 h1 (by simp) (by rw [ELIn]; trivial), (Below.refl _ w).alloc (Nat.le_refl _) _⟩
theorem lamq_any (b : Te) (A : Option Addr) (c : Nat) (w : World) (hI : EIn w Any b A) : Calls Try.prog 11 #[ev b A c] w (GivesT (lamE b) w) := by
  obtain ⟨k, n, s, l⟩ := b
  have HI := Lib.hid hI
  clear hI
  show Calls Try.prog 11 #[.agg #[.int .i64 k, .int .i64 n, .string s, .slice A l.length (capF l.length c)]] w _
  go_enter Try.func11, Try.ntmps11
  go_wp2_with fail
  refine bodyPost_ret (res_term (p := 2) Try.results11 rfl (Lies.old (lies_next _ _ _ _ (by simp)) _)) rfl ⟨some ⟨w.heap.size + 1 + 1, 0, none⟩, 1, rfl, ein_mk (by decide) (by decide) (by decide) (by simp) ?_, (((Below.refl _ w).alloc (Nat.le_refl _) _).alloc (by simp) _).alloc (by simp <;> omega) _⟩
  refine ein_lies1 (c := c) (A := A) (t := .node k n s l) (ty := 24) ?_ trivial (EIn.below _ HI.out ((((Below.refl _ w).alloc (Nat.le_refl _) _).alloc (by simp) _).alloc (by simp <;> omega) _) (Nat.le_refl _))
  exact lies_next _ _ _ _ (by simp)
theorem appq_any (a b : Te) (A B : Option Addr) (c d : Nat) (w : World) (hI : EIn w Any a A) (hJ : EIn w Any b B) : Calls Try.prog 12 #[ev a A c, ev b B d] w (GivesT (appE a b) w) := by
  obtain ⟨k, n, s, l⟩ := a
  obtain ⟨k2, n2, s2, l2⟩ := b
  have HI := Lib.hid hI
  have HJ := Lib.hid hJ
  clear hI hJ
  show Calls Try.prog 12 #[.agg #[.int .i64 k, .int .i64 n, .string s, .slice A l.length (capF l.length c)], .agg #[.int .i64 k2, .int .i64 n2, .string s2, .slice B l2.length (capF l2.length d)]] w _
  obtain ⟨O1, hO1⟩ : ∃ O, O = Obj.cells #[.int .i64 k, .int .i64 n, .string s, .slice A l.length (capF l.length c)] 24 := ⟨_, rfl⟩
  obtain ⟨O2, hO2⟩ : ∃ O, O = Obj.cells #[.int .i64 k2, .int .i64 n2, .string s2, .slice B l2.length (capF l2.length d)] 24 := ⟨_, rfl⟩
  go_enter Try.func12, Try.ntmps12
  go_wp2_with fail
  rw [← hO1, ← hO2]
  refine bodyPost_ret (res_term (p := 4) Try.results12 rfl (Lies.old (lies_next _ _ _ _ (by simp)) _)) rfl ⟨some ⟨w.heap.size + 1 + 1 + 1, 0, none⟩, 2, rfl, ein_mk (by decide) (by decide) (by decide) (by simp) ?_, ((((Below.refl _ w).alloc (Nat.le_refl _) _).alloc (by simp) _).alloc (by simp <;> omega) _).alloc (by simp <;> omega) _⟩
  have hb := ((((Below.refl _ w).alloc (Nat.le_refl _) O1).alloc (by simp) O2).alloc (by simp <;> omega) (Obj.cells #[.int .i64 3, .int .i64 0, .string ⟨#[]⟩, .slice (some ⟨w.heap.size + 1 + 1 + 1, 0, none⟩) 2 2] 24)).alloc (by simp <;> omega) (Obj.cells #[.int .i64 k, .int .i64 n, .string s, .slice A l.length (capF l.length c), .int .i64 k2, .int .i64 n2, .string s2, .slice B l2.length (capF l2.length d)] 24)
  refine ein_lies2 (c := c) (d := d) (A := A) (B := B) (t := .node k n s l) (u := .node k2 n2 s2 l2) (ty := 24) ?_ trivial (EIn.below _ HI.out hb (Nat.le_refl _)) (EIn.below _ HJ.out hb (Nat.le_refl _))
  exact lies_next _ _ _ _ (by simp)
/-- A term in a box. -/
structure BxT (w : World) (g : Nat) (t : Te) (A : Option Addr) (c : Nat) : Prop where
  lies : Lies w g 24 #[.int .i64 t.kind, .int .i64 t.n, .string t.name, .slice A t.parts.length (capF t.parts.length c)]
  ein : EIn w Any t A
theorem BxT.step {w w' : World} {g : Nat} {t : Te} {A : Option Addr} {c B : Nat} (h : BxT w g t A c) (hb : Below B w w') (hB : w.heap.size ≤ B) : BxT w' g t A c :=
  ⟨h.lies.below hb (by have := h.lies.lt; omega), EIn.below _ h.ein hb hB⟩
theorem BxT.new {w w' : World} {t : Te} {A : Option Addr} {c : Nat} (hI : EIn w Any t A) (hb : w' = w.alloc (.cells #[.int .i64 t.kind, .int .i64 t.n, .string t.name, .slice A t.parts.length (capF t.parts.length c)] 24)) : BxT w' w.heap.size t A c := by
  subst hb
  exact ⟨Lies.new _ _ _, EIn.below _ hI ((Below.refl _ w).alloc (Nat.le_refl _) _) (Nat.le_refl _)⟩
theorem ein_box (k n : Int) (s : ByteArray) (l : List Te) (A : Option Addr) (c : Nat) : ev (.node k n s l) A c = .agg #[.int .i64 k, .int .i64 n, .string s, .slice A l.length (capF l.length c)] := rfl
/-- What one asks of a term that is handed to package use. -/
structure FineU (t : Te) : Prop where
  dep : depthE t ≤ 4000
  siz : sizeE t ≤ 1000000
  tame : tameE 1099511627776 1099511627776 t
def fixT : Te := lamE (lamE (appE (vE 1) (vE 1)))
def fixA : Te := .node 6 2 ⟨#[65]⟩ [appE (vE 0) (appE (vE 0) (vE 5))]
def fixB : Te := appE (vE 4) (appE (vE 1) (vE 4))
def fixI : Te := lamE (vE 0)
theorem fine_T : FineU fixT ∧ FineU fixA ∧ FineU fixB ∧ FineU fixI := by
  refine ⟨⟨by decide, by decide, ?_⟩, ⟨by decide, by decide, ?_⟩, ⟨by decide, by decide, ?_⟩, ⟨by decide, by decide, ?_⟩⟩
  all_goals exact tameB_spec _ (by kernel_rfl)
theorem fix_vals : ofE fixT = [2, 0] ∧ fansL (ofE fixT) = 1 ∧ dropsL (ofE fixT) = 1 ∧ affB (ofE fixT) = false ∧ affB (ofE fixI) = true ∧ ofE fixA = [0, 2] ∧ fvE fixA 0 = [3] ∧ fvE fixB 0 = [4, 1, 4] ∧ fvE fixT 0 = [] := by
  refine ⟨by kernel_rfl, by kernel_rfl, by kernel_rfl, by kernel_rfl, by kernel_rfl, by kernel_rfl, by kernel_rfl, by kernel_rfl, by kernel_rfl⟩
theorem fix_free : freeE fixA = [3] ∧ freeE fixB = [1, 4] ∧ freeE fixT = [] := by
  refine ⟨?_, ?_, ?_⟩
  · rw [freeE, fix_vals.2.2.2.2.2.2.1]; exact once_eq _ _ (by decide) (by simp)
  · rw [freeE, fix_vals.2.2.2.2.2.2.2.1]; exact once_eq _ _ (by decide) (by intro x; simp; omega)
  · rw [freeE, fix_vals.2.2.2.2.2.2.2.2]; exact once_eq _ _ (by decide) (by simp)
end Lx
end Go.Proofs.Ytgnafcnokenogaa
