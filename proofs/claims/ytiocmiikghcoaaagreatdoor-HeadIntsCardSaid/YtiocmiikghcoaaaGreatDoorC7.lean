/-
  Texts that lie one behind the other: RcA Ein Lz0 RowTe Su SuRow R7A Ok RegW RegK.
-/
import Derived.Test.YtiocmiikghcoaaaGreatDoorC6
import Derived.Test.YtiocmiikghcoaaaGreatDoorC2
import Derived.Test.YtiocmiikghcoaaaGreatDoorC1
import Derived.Deep.AppendLies
import Derived.Laws.AppendOwnNone
import Derived.Laws.MakeOwn
import Derived.Laws.Entries
import Derived.Deep.MidRow
namespace Go.Proofs.YtiocmiikghcoaaaGreatDoor
open Go.RowKit
namespace Lx
set_option maxRecDepth 100000
def SIn (w : World) (X : Nat → Prop) (l : List ByteArray) (A : Option Addr) : Prop :=
 ∀ (i : Nat) (hi : i < l.length), ∃ g o, A = some ⟨g, o, none⟩ ∧ X g ∧ w.cell? ⟨g, o + i, none⟩ = some (.string (l[i]'hi))
theorem SIn.keep {w w' : World} {X Y : Nat → Prop} {l : List ByteArray} {A : Option Addr} (h : SIn w X l A) (hk : ∀ g j, X g → g < w.heap.size → w'.cell? ⟨g, j, none⟩ = w.cell? ⟨g, j, none⟩ ∧ Y g) : SIn w' Y l A := fun i hi => by
 obtain ⟨g, o, hA, hX, hc⟩ := h i hi
 have := hk g (o + i) hX (cell_lt hc)
 exact ⟨g, o, hA, this.2, this.1.trans hc⟩
theorem SIn.below {w w' : World} {X : Nat → Prop} {l : List ByteArray} {A : Option Addr} {B : Nat} (h : SIn w X l A) (hb : Below B w w') (hB : w.heap.size ≤ B) : SIn w' X l A :=
 h.keep fun g j hX hlt => ⟨hb.cell (p := ⟨g, j, none⟩) (by show g < B; omega), hX⟩
theorem SIn.any {w : World} {X : Nat → Prop} {l : List ByteArray} {A : Option Addr} (h : SIn w X l A) : SIn w Any l A := h.keep fun _ _ _ _ => ⟨rfl, trivial⟩
theorem SIn.nil (w : World) (X : Nat → Prop) (A : Option Addr) : SIn w X [] A := fun i hi => by simp at hi
def cellsS (l : List ByteArray) : List Value := l.map Value.string
theorem cellsS_len (l : List ByteArray) : (cellsS l).length = l.length := by simp [cellsS]
theorem SIn.owned {w : World} {base n c : Nat} {A : Option Addr} {l : List ByteArray} (h : w.ownsRow base 9 1 (.slice A n c) n (cellsS l)) : SIn w (fun g => base ≤ g) l A := by
 have hl : l.length = n := by have := h.1; simp [cellsS] at this; omega
 rcases h.2 with ⟨hv, rfl⟩ | ⟨g, cap, cur, hv, hb, hg, hc, _, hz, ht⟩
 ·intro i hi; omega
 ·cases hv
  intro i hi
  refine ⟨g, 0, rfl, hb, ?_⟩
  have h1 : (cellsS l)[i]? = some (.string (l[i]'hi)) := by rw [cellsS, List.getElem?_map, List.getElem?_eq_getElem hi]; rfl
  rw [← ht, List.getElem?_take_of_lt (by omega)] at h1
  simp only [World.cell?, hg, Nat.zero_add]
  simpa using h1
theorem SIn.cells {w : World} {X : Nat → Prop} {l : List ByteArray} {g o : Nat} (h : SIn w X l (some ⟨g, o, none⟩)) : ∀ j u, (cellsS l)[j]? = some u → w.cell? ((⟨g, o, none⟩ : Addr).add j) = some u := fun j u hu => by
 rw [cellsS, List.getElem?_map] at hu
 cases hj : l[j]? with
 | none => rw [hj] at hu; cases hu
 | some s =>
  rw [hj] at hu
  cases hu
  obtain ⟨hlt, rfl⟩ := List.getElem?_eq_some_iff.1 hj
  obtain ⟨g', o', hA, _, hc⟩ := h j hlt
  cases hA
  have hadd : (⟨g, o, none⟩ : Addr).add j = ⟨g, o + j, none⟩ := by unfold Addr.add; split <;> simp_all
  rw [hadd]
  exact hc
theorem ename_q (s t : ByteArray) : (s.toList == t.toList) = decide (s = t) := by
 rw [Bool.eq_iff_iff, beq_iff_eq, decide_eq_true_eq]
 refine ⟨fun e => Classical.byContradiction fun h => ?_, fun e => by rw [e]⟩
 rw [data_list, data_list] at e
 exact h (byte_ext e)
theorem infoS : (Tryz.prog.info? 9).map (fun i => (i.zero, i.size, i.bytes)) = some (some (.string ⟨#[]⟩), 1, 16) := by kernel_rfl
set_option maxHeartbeats 1000000 in
theorem in5_any (l : List ByteArray) (s : ByteArray) (A : Option Addr) (m c : Nat) (w : World) (hm : m = l.length) (hm2 : m ≤ 100000) (hI : SIn w Any l A) :
  Calls Tryz.prog 109 #[.slice A m c, .string s] w fun e w' => e = .returned (.bool (inN l s)) ∧ Below w.heap.size w w' := by
 have hm1 : l.length ≤ m := by omega
 have hm3 : m ≤ l.length := by omega
 clear hm
 have HI := Lib.hid hI
 have HN : Hid (inN (l.drop 0) s = inN l s) := Lib.hid (by rw [List.drop_zero])
 clear hI
 go_enter Tryz.func109, Tryz.ntmps109
 go_wp2_with fail
 go_loopw [5] (fun x wr => ∃ i : Nat, i ≤ m ∧ x = .int .i64 i ∧ Hid (inN (l.drop i) s = inN l s) ∧ Below w.heap.size w wr) (fun x _ => m - (intOf x).toNat)
 case atStart => exact ⟨0, by omega, rfl, HN, Below.refl _ w⟩
 case round =>
  obtain ⟨i, hi, rfl, HQ, hbw⟩ := hrel
  have hbs := hbw.size
  by_cases hlt : i < m
  ·have hia : i < l.length := by omega
   obtain ⟨g, o, rfl, _, d0⟩ := (HI.out.below hbw (Nat.le_refl _)) i hia
   have HD : Hid (inN (l.drop i) s = (decide (l[i]'hia = s) || inN (l.drop (i + 1)) s)) := Lib.hid (by rw [List.drop_eq_getElem_cons hia, inN])
   obtain ⟨x, hx⟩ : ∃ x, x = l[i]'hia := ⟨_, rfl⟩
   rw [← hx] at d0 HD
   clear hx
   by_cases hxs : x = s
   ·have h1 : (x.toList == s.toList) = true := by rw [hxs]; exact BEq.rfl
    have HR : Hid (inN l s = true) := Lib.hid (by rw [← HQ.out, HD.out, hxs]; simp)
    clear hxs
    go_wp2_with fail
    go_ret
    exact ⟨ret_bool HR.out.symm, hbw⟩
   ·have h1 : (x.toList == s.toList) = false := by rw [ename_q, decide_eq_false hxs]
    have HR : Hid (inN (l.drop (i + 1)) s = inN l s) := Lib.hid (by rw [← HQ.out, HD.out, decide_eq_false hxs, Bool.false_or])
    clear hxs
    go_wp2_with fail
    go_roundw
    case rel => exact ⟨i + 1, by omega, by go_num, HR, hbw⟩
    case measure => simp [intOf]; omega
  ·go_wp2_with fail
   go_ret
   obtain rfl : i = m := by omega
   have := HQ.out
   rw [List.drop_of_length_le hm1] at this
   exact ⟨ret_bool (by rw [← this]; rfl), hbw⟩
def SGive (l : List ByteArray) (w : World) (e : Ending) (w' : World) : Prop :=
 ∃ A c, e = .returned (.slice A l.length c) ∧ SIn w' Any l A ∧ (A = none → c = 0) ∧ Below w.heap.size w w'
theorem own_some {w : World} {base : Nat} {e : TypeId} {size : Nat} {A : Option Addr} {n c : Nat} {xs : List Value} (h : w.ownsRow base e size (.slice A n c) n xs) : A = none → c = 0 := by
 intro hA
 subst hA
 rcases h.2 with ⟨hv, _⟩ | ⟨g, cap, cur, hv, _⟩
 ·injection hv
 ·injection hv with h1; cases h1
set_option maxHeartbeats 2000000 in
theorem with5_any (l : List ByteArray) (s : ByteArray) (A : Option Addr) (m c : Nat) (w : World) (hm : m = l.length) (hm2 : m ≤ 100000) (hI : SIn w Any l A) (hA : A = none → c = 0) :
  Calls Tryz.prog 124 #[.slice A m c, .string s] w (SGive (l ++ [s]) w) := by
 have hm1 : l.length ≤ m := by omega
 have hm3 : m ≤ l.length := by omega
 have hml : (cellsS l).length = m := by rw [cellsS_len]; omega
 obtain ⟨i0, hi, hz0, hz1, hz2⟩ := info_parts infoS
 have hown0 : (w.alloc (.cells #[] 9)).ownsRow w.heap.size 9 1 (.slice (some ⟨w.heap.size, 0, none⟩) 0 0) 0 [] := World.ownsRow_made w #[] 0 (Nat.le_refl _) (by simp [maxLen]) rfl
 have hb0 : Below w.heap.size w (w.alloc (.cells #[] 9)) := (Below.refl _ w).alloc (Nat.le_refl _) _
 have HF : Hid (∀ (V : World) (A1 : Option Addr) (n c1 : Nat) (xs : List Value), V.ownsRow w.heap.size 9 1 (.slice A1 n c1) n xs → xs = cellsS (l ++ [s]) → n = m + 1 → Below w.heap.size w V → SGive (l ++ [s]) w (.returned (.slice A1 n c1)) V) := Lib.hid fun V A1 n c1 xs ho hx hn hb => by
  subst hx hn
  refine ⟨A1, c1, ?_, (SIn.owned ho).any, own_some ho, hb⟩
  rw [List.length_append, List.length_singleton, ← hm]
 clear hm
 cases A with
 | none =>
  obtain rfl := hA rfl
  obtain rfl : l = [] := by
   cases l with
   | nil => rfl
   | cons a r => obtain ⟨g, o, h, _⟩ := hI 0 (by simp); cases h
  simp only [List.length_nil] at hm1 hm3
  obtain rfl : m = 0 := by omega
  clear hA hI hm1 hm3 hml
  go_enter Tryz.func124, Tryz.ntmps124
  go_wp2_with (at_builtin; refine wpList_append_own_none rfl (.tmp 5) (.tmp 6) 34 rfl w.heap.size 9 i0 1 Tryz.underlying34 hi _ _ _ rfl hown0 rfl ?_)
  go_ret
  have hb2 := (hb0.alloc hb0.size (.cells #[.string s] 9))
  refine ⟨some ⟨w.heap.size + 1 + 1, 0, none⟩, _, rfl, ?_, (fun h => by cases h), ((hb2.alloc hb2.size _).drew)⟩
  intro i hi
  have hi0 : i = 0 := by simp at hi; omega
  subst hi0
  refine ⟨w.heap.size + 1 + 1, 0, rfl, trivial, ?_⟩
  have L9 := Lies.new ((w.alloc (.cells #[] 9)).alloc (.cells #[.string s] 9)) 9 (#[Value.string s] ++ Builtin.zeroCells #[Value.string { data := #[] }] ((Question.appendCap 1 0 9).cut (w.tape w.drawn (Question.appendCap 1 0 9)) - 1))
  have := L9.drew.cell 0
  rw [Array.getElem?_append_left (by simp)] at this
  simpa using this
 | some ad =>
  have hcl : ∀ j u, (cellsS l)[j]? = some u → w.cell? (ad.add j) = some u := by
   intro j u hu
   cases l with
   | nil => simp [cellsS] at hu
   | cons a r =>
    obtain ⟨g, o, h, _⟩ := hI 0 (by simp)
    cases h
    exact hI.cells j u hu
  have hcb : ∀ j u, (cellsS l)[j]? = some u → (w.alloc (.cells #[] 9)).cell? (ad.add j) = some u := fun j u hu => by
   have h1 := hcl j u hu
   rw [World.cell?_alloc_lt _ _ _ (World.block_lt_of_cell? w _ h1)]; exact h1
  clear hI hA hcl
  go_enter Tryz.func124, Tryz.ntmps124
  go_wp2_with (at_builtin; refine wpList_append_own _ rfl (.tmp 5) (.tmp 6) 34 rfl w.heap.size 9 i0 (.string ⟨#[]⟩) 1 16 Tryz.underlying34 hi hz0 hz1 hz2 rfl (by decide) _ _ _ rfl hown0 ad m c (cellsS l) rfl (by omega) hcb ?c2 ?c3 ?c4 ?c5 ?_)
  case c2 => intro u hu; simp [cellsS] at hu; obtain ⟨a, _, rfl⟩ := hu; rfl
  case c3 => unfold maxLen; omega
  case c4 => omega
  case c5 => simp
  intro v1 w1 hown1 hg1 _
  obtain ⟨A1, c1, rfl⟩ := own_slice hown1
  have hb1 : Below w.heap.size w w1 := hb0.grown hg1 (by simp) (fun k hk => (hown0.lt k hk).1)
  have hs1 := hb1.size
  clear hown0 hg1 hb0 hcb
  go_wp2_with (at_builtin; refine wpList_append_own _ rfl (.tmp 7) (.tmp 9) 34 rfl w.heap.size 9 i0 (.string ⟨#[]⟩) 1 16 Tryz.underlying34 hi hz0 hz1 hz2 rfl (by decide) _ _ _ rfl (hown1.alloc _) ⟨w1.heap.size, 0, none⟩ 1 1 [.string s] rfl rfl ?c1 ?c2 ?c3 ?c4 ?c5 ?_)
  case c1 => exact new_cells _ 9 [.string s] _ rfl
  case c2 => intro u hu; simp at hu; subst hu; rfl
  case c3 => unfold maxLen; omega
  case c4 => omega
  case c5 => simp; omega
  intro v2 w2 hown2 hg2 _
  obtain ⟨A2, c2, rfl⟩ := own_slice hown2
  have hb2 : Below w.heap.size w w2 := ((hb1.alloc hb1.size _).grown hg2 (by simp; omega) (fun k hk => (hown1.lt k hk).1))
  clear hi hz0 hz1 hz2 hown1 hg2 hb1
  go_wp2_with fail
  go_ret
  exact HF.out _ _ _ _ _ hown2 (by simp [cellsS]) rfl hb2
set_option maxHeartbeats 2000000 in
theorem with7_any (l : List ByteArray) (s : ByteArray) (A : Option Addr) (m c : Nat) (w : World) (hm : m = l.length) (hm2 : m ≤ 100000) (hI : SIn w Any l A) (hA : A = none → c = 0) :
  Calls Tryz.prog 82 #[.slice A m c, .string s] w (SGive (l ++ [s]) w) := by
 have hm1 : l.length ≤ m := by omega
 have hm3 : m ≤ l.length := by omega
 have hml : (cellsS l).length = m := by rw [cellsS_len]; omega
 obtain ⟨i0, hi, hz0, hz1, hz2⟩ := info_parts infoS
 have hown0 : (w.alloc (.cells #[] 9)).ownsRow w.heap.size 9 1 (.slice (some ⟨w.heap.size, 0, none⟩) 0 0) 0 [] := World.ownsRow_made w #[] 0 (Nat.le_refl _) (by simp [maxLen]) rfl
 have hb0 : Below w.heap.size w (w.alloc (.cells #[] 9)) := (Below.refl _ w).alloc (Nat.le_refl _) _
 have HF : Hid (∀ (V : World) (A1 : Option Addr) (n c1 : Nat) (xs : List Value), V.ownsRow w.heap.size 9 1 (.slice A1 n c1) n xs → xs = cellsS (l ++ [s]) → n = m + 1 → Below w.heap.size w V → SGive (l ++ [s]) w (.returned (.slice A1 n c1)) V) := Lib.hid fun V A1 n c1 xs ho hx hn hb => by
  subst hx hn
  refine ⟨A1, c1, ?_, (SIn.owned ho).any, own_some ho, hb⟩
  rw [List.length_append, List.length_singleton, ← hm]
 clear hm
 cases A with
 | none =>
  obtain rfl := hA rfl
  obtain rfl : l = [] := by
   cases l with
   | nil => rfl
   | cons a r => obtain ⟨g, o, h, _⟩ := hI 0 (by simp); cases h
  simp only [List.length_nil] at hm1 hm3
  obtain rfl : m = 0 := by omega
  clear hA hI hm1 hm3 hml
  go_enter Tryz.func82, Tryz.ntmps82
  go_wp2_with (at_builtin; refine wpList_append_own_none rfl (.tmp 5) (.tmp 6) 34 rfl w.heap.size 9 i0 1 Tryz.underlying34 hi _ _ _ rfl hown0 rfl ?_)
  go_ret
  have hb2 := (hb0.alloc hb0.size (.cells #[.string s] 9))
  refine ⟨some ⟨w.heap.size + 1 + 1, 0, none⟩, _, rfl, ?_, (fun h => by cases h), ((hb2.alloc hb2.size _).drew)⟩
  intro i hi
  have hi0 : i = 0 := by simp at hi; omega
  subst hi0
  refine ⟨w.heap.size + 1 + 1, 0, rfl, trivial, ?_⟩
  have L9 := Lies.new ((w.alloc (.cells #[] 9)).alloc (.cells #[.string s] 9)) 9 (#[Value.string s] ++ Builtin.zeroCells #[Value.string { data := #[] }] ((Question.appendCap 1 0 9).cut (w.tape w.drawn (Question.appendCap 1 0 9)) - 1))
  have := L9.drew.cell 0
  rw [Array.getElem?_append_left (by simp)] at this
  simpa using this
 | some ad =>
  have hcl : ∀ j u, (cellsS l)[j]? = some u → w.cell? (ad.add j) = some u := by
   intro j u hu
   cases l with
   | nil => simp [cellsS] at hu
   | cons a r =>
    obtain ⟨g, o, h, _⟩ := hI 0 (by simp)
    cases h
    exact hI.cells j u hu
  have hcb : ∀ j u, (cellsS l)[j]? = some u → (w.alloc (.cells #[] 9)).cell? (ad.add j) = some u := fun j u hu => by
   have h1 := hcl j u hu
   rw [World.cell?_alloc_lt _ _ _ (World.block_lt_of_cell? w _ h1)]; exact h1
  clear hI hA hcl
  go_enter Tryz.func82, Tryz.ntmps82
  go_wp2_with (at_builtin; refine wpList_append_own _ rfl (.tmp 5) (.tmp 6) 34 rfl w.heap.size 9 i0 (.string ⟨#[]⟩) 1 16 Tryz.underlying34 hi hz0 hz1 hz2 rfl (by decide) _ _ _ rfl hown0 ad m c (cellsS l) rfl (by omega) hcb ?c2 ?c3 ?c4 ?c5 ?_)
  case c2 => intro u hu; simp [cellsS] at hu; obtain ⟨a, _, rfl⟩ := hu; rfl
  case c3 => unfold maxLen; omega
  case c4 => omega
  case c5 => simp
  intro v1 w1 hown1 hg1 _
  obtain ⟨A1, c1, rfl⟩ := own_slice hown1
  have hb1 : Below w.heap.size w w1 := hb0.grown hg1 (by simp) (fun k hk => (hown0.lt k hk).1)
  have hs1 := hb1.size
  clear hown0 hg1 hb0 hcb
  go_wp2_with (at_builtin; refine wpList_append_own _ rfl (.tmp 7) (.tmp 9) 34 rfl w.heap.size 9 i0 (.string ⟨#[]⟩) 1 16 Tryz.underlying34 hi hz0 hz1 hz2 rfl (by decide) _ _ _ rfl (hown1.alloc _) ⟨w1.heap.size, 0, none⟩ 1 1 [.string s] rfl rfl ?c1 ?c2 ?c3 ?c4 ?c5 ?_)
  case c1 => exact new_cells _ 9 [.string s] _ rfl
  case c2 => intro u hu; simp at hu; subst hu; rfl
  case c3 => unfold maxLen; omega
  case c4 => omega
  case c5 => simp; omega
  intro v2 w2 hown2 hg2 _
  obtain ⟨A2, c2, rfl⟩ := own_slice hown2
  have hb2 : Below w.heap.size w w2 := ((hb1.alloc hb1.size _).grown hg2 (by simp; omega) (fun k hk => (hown1.lt k hk).1))
  clear hi hz0 hz1 hz2 hown1 hg2 hb1
  go_wp2_with fail
  go_ret
  exact HF.out _ _ _ _ _ hown2 (by simp [cellsS]) rfl hb2
mutual
def EIn (w : World) (X : Nat → Prop) : Te → Option Addr → Prop
 | .node _ n s l, A => (s.size ≤ 140737488351232 ∧ -9223372036854775808 ≤ n ∧ n ≤ 9223372036854775807) ∧ l.length ≤ 140737488351232 ∧ ELIn w X l A 0
def ELIn (w : World) (X : Nat → Prop) : List Te → Option Addr → Nat → Prop
 | [], _, _ => True
 | t :: r, A, i => (∃ g o A' c, (A = some ⟨g, o, none⟩ ∧ X g) ∧ w.cell? ⟨g, o + i * 4, none⟩ = some (.int .i64 t.kind) ∧ w.cell? ⟨g, o + i * 4 + 1, none⟩ = some (.int .i64 t.n) ∧
   w.cell? ⟨g, o + i * 4 + 2, none⟩ = some (.string t.name) ∧
   w.cell? ⟨g, o + i * 4 + 3, none⟩ = some (.slice A' t.parts.length (capF t.parts.length c)) ∧ EIn w X t A') ∧ ELIn w X r A (i + 1)
end
def ev (t : Te) (A : Option Addr) (c : Nat) : Value := .agg #[.int .i64 t.kind, .int .i64 t.n, .string t.name, .slice A t.parts.length (capF t.parts.length c)]

mutual
theorem EIn.keep : ∀ (t : Te) {w w' : World} {X Y : Nat → Prop} {A : Option Addr}, EIn w X t A → (∀ g j, X g → g < w.heap.size → w'.cell? ⟨g, j, none⟩ = w.cell? ⟨g, j, none⟩ ∧ Y g) → EIn w' Y t A
 | .node k n s l, w, w', X, Y, A, h, hk => by
  rw [EIn] at h ⊢
  exact ⟨h.1, h.2.1, ELIn.keep l h.2.2 hk⟩
theorem ELIn.keep : ∀ (l : List Te) {w w' : World} {X Y : Nat → Prop} {A : Option Addr} {i : Nat}, ELIn w X l A i → (∀ g j, X g → g < w.heap.size → w'.cell? ⟨g, j, none⟩ = w.cell? ⟨g, j, none⟩ ∧ Y g) → ELIn w' Y l A i
 | [], w, w', X, Y, A, i, _, _ => by rw [ELIn]; trivial
 | t :: r, w, w', X, Y, A, i, h, hk => by
  rw [ELIn] at h ⊢
  obtain ⟨⟨g, o, A', c, ⟨e, hX⟩, h0, h1, h2, h3, ht⟩, hr⟩ := h
  have hlt := cell_lt h0
  have hc : ∀ j, w'.cell? ⟨g, j, none⟩ = w.cell? ⟨g, j, none⟩ := fun j => (hk g j hX hlt).1
  exact ⟨⟨g, o, A', c, ⟨e, (hk g 0 hX hlt).2⟩, by rw [hc]; exact h0, by rw [hc]; exact h1, by rw [hc]; exact h2, by rw [hc]; exact h3, EIn.keep t ht hk⟩, ELIn.keep r hr hk⟩
end
theorem EIn.below (t : Te) {w w' : World} {X : Nat → Prop} {A : Option Addr} {B : Nat} (h : EIn w X t A) (hb : Below B w w') (hB : w.heap.size ≤ B) : EIn w' X t A :=
 EIn.keep t h fun g j hX hlt => ⟨hb.cell (p := ⟨g, j, none⟩) (by show g < B; omega), hX⟩
theorem EIn.wide (t : Te) {w : World} {X Y : Nat → Prop} {A : Option Addr} (h : EIn w X t A) (hXY : ∀ g, X g → g < w.heap.size → Y g) : EIn w Y t A :=
 EIn.keep t h fun g _ hX hlt => ⟨rfl, hXY g hX hlt⟩
theorem EIn.any (t : Te) {w : World} {X : Nat → Prop} {A : Option Addr} (h : EIn w X t A) : EIn w Any t A := EIn.wide t h fun _ _ _ => trivial
theorem EIn.setCell (t : Te) {w : World} {X : Nat → Prop} {A : Option Addr} (h : EIn w X t A) (p : Addr) (u : Value) (hp : ¬ X p.block) : EIn (w.setCell p u) X t A :=
 EIn.keep t h fun g j hX _ => ⟨World.cell?_setCell_other w p ⟨g, j, none⟩ u (fun e => by subst e; exact hp hX), hX⟩
theorem EIn.grown (t : Te) {w w' : World} {X : Nat → Prop} {A : Option Addr} {row : Option Nat} (h : EIn w X t A) (hg : w.grownBy w' row) (hp : ∀ g, row = some g → ¬ X g) : EIn w' X t A :=
 EIn.keep t h fun g _ hX hlt => ⟨World.cell?_of_block (hg.block g hlt (fun e => hp g e.symm hX)), hX⟩

theorem ELIn.at_ : ∀ (l : List Te) {w : World} {X : Nat → Prop} {A : Option Addr} {j : Nat}, ELIn w X l A j → ∀ (i : Nat) (hi : i < l.length),
  ∃ g o A' c, (A = some ⟨g, o, none⟩ ∧ X g) ∧ w.cell? ⟨g, o + (j + i) * 4, none⟩ = some (.int .i64 (l[i]'hi).kind) ∧ w.cell? ⟨g, o + (j + i) * 4 + 1, none⟩ = some (.int .i64 (l[i]'hi).n) ∧
   w.cell? ⟨g, o + (j + i) * 4 + 2, none⟩ = some (.string (l[i]'hi).name) ∧
   w.cell? ⟨g, o + (j + i) * 4 + 3, none⟩ = some (.slice A' (l[i]'hi).parts.length (capF (l[i]'hi).parts.length c)) ∧ EIn w X (l[i]'hi) A'
 | [], w, X, A, j, _, i, hi => by simp at hi
 | t :: r, w, X, A, j, h, 0, hi => by
  rw [ELIn] at h
  simpa using h.1
 | t :: r, w, X, A, j, h, i + 1, hi => by
  rw [ELIn] at h
  have := ELIn.at_ r h.2 i (by simpa using hi)
  rw [show j + 1 + i = j + (i + 1) from by omega] at this
  simpa using this
theorem ELIn.mk : ∀ (l : List Te) {w : World} {X : Nat → Prop} {A : Option Addr} (j : Nat), (∀ (i : Nat) (hi : i < l.length),
  ∃ g o A' c, (A = some ⟨g, o, none⟩ ∧ X g) ∧ w.cell? ⟨g, o + (j + i) * 4, none⟩ = some (.int .i64 (l[i]'hi).kind) ∧ w.cell? ⟨g, o + (j + i) * 4 + 1, none⟩ = some (.int .i64 (l[i]'hi).n) ∧
   w.cell? ⟨g, o + (j + i) * 4 + 2, none⟩ = some (.string (l[i]'hi).name) ∧
   w.cell? ⟨g, o + (j + i) * 4 + 3, none⟩ = some (.slice A' (l[i]'hi).parts.length (capF (l[i]'hi).parts.length c)) ∧ EIn w X (l[i]'hi) A') → ELIn w X l A j
 | [], w, X, A, j, _ => by rw [ELIn]; trivial
 | t :: r, w, X, A, j, h => by
  rw [ELIn]
  refine ⟨(by have := h 0 (by simp); rw [Nat.add_zero] at this; exact this), ELIn.mk r (j + 1) fun i hi => ?_⟩
  have := h (i + 1) (by simpa using hi)
  rw [show j + 1 + i = j + (i + 1) from by omega]
  simpa using this
theorem EIn.part {t : Te} {w : World} {X : Nat → Prop} {A : Option Addr} (h : EIn w X t A) (i : Nat) (hi : i < t.parts.length) :
  ∃ g o A' c, (A = some ⟨g, o, none⟩ ∧ X g) ∧ w.cell? ⟨g, o + i * 4, none⟩ = some (.int .i64 (t.parts[i]'hi).kind) ∧ w.cell? ⟨g, o + i * 4 + 1, none⟩ = some (.int .i64 (t.parts[i]'hi).n) ∧
   w.cell? ⟨g, o + i * 4 + 2, none⟩ = some (.string (t.parts[i]'hi).name) ∧
   w.cell? ⟨g, o + i * 4 + 3, none⟩ = some (.slice A' (t.parts[i]'hi).parts.length (capF (t.parts[i]'hi).parts.length c)) ∧ EIn w X (t.parts[i]'hi) A' := by
 obtain ⟨k, n, s, l⟩ := t
 rw [EIn] at h
 have := ELIn.at_ l h.2.2 i hi
 rw [Nat.zero_add] at this
 exact this
theorem ein_mk {w : World} {X : Nat → Prop} {k n : Int} {s : ByteArray} {l : List Te} {A : Option Addr} (hs : s.size ≤ 140737488351232) (h0 : -9223372036854775808 ≤ n) (h1 : n ≤ 9223372036854775807) (hl : l.length ≤ 140737488351232) (h : ELIn w X l A 0) : EIn w X (.node k n s l) A := by
 rw [EIn]; exact ⟨⟨hs, h0, h1⟩, hl, h⟩
theorem lies_next (w : World) (t : TypeId) (cs : Array Value) (g : Nat) (hg : g = w.heap.size) : Lies (w.alloc (.cells cs t)) g t cs := by subst hg; exact Lies.new w t cs
theorem ein_lies1 {w : World} {X : Nat → Prop} {t : Te} {A : Option Addr} {c g : Nat} {ty : TypeId} (L : Lies w g ty #[.int .i64 t.kind, .int .i64 t.n, .string t.name, .slice A t.parts.length (capF t.parts.length c)]) (hg : X g) (h : EIn w X t A) : ELIn w X [t] (some ⟨g, 0, none⟩) 0 := by
 rw [ELIn]
 refine ⟨⟨g, 0, A, c, ⟨rfl, hg⟩, L.cell 0, L.cell 1, L.cell 2, L.cell 3, h⟩, ?_⟩
 rw [ELIn]; trivial
theorem ein_lies2 {w : World} {X : Nat → Prop} {t u : Te} {A B : Option Addr} {c d g : Nat} {ty : TypeId} (L : Lies w g ty #[.int .i64 t.kind, .int .i64 t.n, .string t.name, .slice A t.parts.length (capF t.parts.length c), .int .i64 u.kind, .int .i64 u.n, .string u.name, .slice B u.parts.length (capF u.parts.length d)]) (hg : X g) (h : EIn w X t A) (hu : EIn w X u B) : ELIn w X [t, u] (some ⟨g, 0, none⟩) 0 := by
 rw [ELIn]
 refine ⟨⟨g, 0, A, c, ⟨rfl, hg⟩, L.cell 0, L.cell 1, L.cell 2, L.cell 3, h⟩, ?_⟩
 rw [ELIn]
 refine ⟨⟨g, 0, B, d, ⟨rfl, hg⟩, L.cell 4, L.cell 5, L.cell 6, L.cell 7, hu⟩, ?_⟩
 rw [ELIn]; trivial
theorem infoE : (Tryz.prog.info? 24).map (fun i => (i.zero, i.size, i.bytes)) = some (some (.agg #[.int .i64 0, .int .i64 0, .string ⟨#[]⟩, .slice none 0 0]), 4, 56) := by kernel_rfl
def cellsE (t : Te) (A : Option Addr) (c : Nat) : List Value := [.int .i64 t.kind, .int .i64 t.n, .string t.name, .slice A t.parts.length (capF t.parts.length c)]
theorem cellsE_length (t : Te) (A : Option Addr) (c : Nat) : (cellsE t A c).length = 4 := rfl
def RowTe (w : World) (X : Nat → Prop) (l : List Te) (xs : List Value) : Prop :=
 xs.length = l.length * 4 ∧ ∀ (j : Nat) (hj : j < l.length), ∃ A c, (∀ q, q < 4 → xs[j * 4 + q]? = (cellsE (l[j]'hj) A c)[q]?) ∧ EIn w X (l[j]'hj) A
theorem RowTe.nil (w : World) (X : Nat → Prop) : RowTe w X [] [] := ⟨rfl, fun j hj => by simp at hj⟩
theorem RowTe.keep {w w' : World} {X Y : Nat → Prop} {l : List Te} {xs : List Value} (h : RowTe w X l xs) (hk : ∀ g j, X g → g < w.heap.size → w'.cell? ⟨g, j, none⟩ = w.cell? ⟨g, j, none⟩ ∧ Y g) : RowTe w' Y l xs :=
 ⟨h.1, fun j hj => by
  obtain ⟨A, c, hc, ht⟩ := h.2 j hj
  exact ⟨A, c, hc, EIn.keep _ ht hk⟩⟩
theorem RowTe.below {w w' : World} {X : Nat → Prop} {l : List Te} {xs : List Value} {B : Nat} (h : RowTe w X l xs) (hb : Below B w w') (hB : w.heap.size ≤ B) : RowTe w' X l xs :=
 h.keep fun g j hX hlt => ⟨hb.cell (p := ⟨g, j, none⟩) (by show g < B; omega), hX⟩
theorem RowTe.wide {w : World} {X Y : Nat → Prop} {l : List Te} {xs : List Value} (h : RowTe w X l xs) (hXY : ∀ g, X g → g < w.heap.size → Y g) : RowTe w Y l xs :=
 h.keep fun g _ hX hlt => ⟨rfl, hXY g hX hlt⟩
theorem RowTe.setCell {w : World} {X : Nat → Prop} {l : List Te} {xs : List Value} (h : RowTe w X l xs) (p : Addr) (u : Value) (hp : ¬ X p.block) : RowTe (w.setCell p u) X l xs :=
 h.keep fun g j hX _ => ⟨World.cell?_setCell_other w p ⟨g, j, none⟩ u (fun e => by subst e; exact hp hX), hX⟩
theorem RowTe.grown {w w' : World} {X : Nat → Prop} {l : List Te} {xs : List Value} {row : Option Nat} (h : RowTe w X l xs) (hg : w.grownBy w' row) (hp : ∀ g, row = some g → ¬ X g) : RowTe w' X l xs :=
 h.keep fun g _ hX hlt => ⟨World.cell?_of_block (hg.block g hlt (fun e => hp g e.symm hX)), hX⟩
theorem RowTe.snoc {w : World} {X : Nat → Prop} {l : List Te} {xs : List Value} (h : RowTe w X l xs) {t : Te} {A : Option Addr} {c : Nat} (ht : EIn w X t A) : RowTe w X (l ++ [t]) (xs ++ cellsE t A c) := by
 refine ⟨by simp [h.1, cellsE_length]; omega, fun j hj => ?_⟩
 rcases Nat.lt_or_ge j l.length with hlt | hge
 ·obtain ⟨A', c', hc, ht'⟩ := h.2 j hlt
  rw [List.getElem_append_left hlt]
  refine ⟨A', c', fun q hq => ?_, ht'⟩
  rw [List.getElem?_append_left (by rw [h.1]; omega)]
  exact hc q hq
 ·have hj' : j = l.length := by simp at hj; omega
  subst hj'
  rw [List.getElem_append_right (Nat.le_refl _)]
  simp only [Nat.sub_self, List.getElem_singleton]
  refine ⟨A, c, fun q hq => ?_, ht⟩
  rw [List.getElem?_append_right (by rw [h.1]; omega), h.1]
  congr 1
  omega
theorem RowTe.parts {w : World} {X Y : Nat → Prop} {l : List Te} {xs : List Value} {g o : Nat} (h : RowTe w X l xs) (hg : Y g) (hXY : ∀ b, X b → b < w.heap.size → Y b)
  (hc : ∀ j u, xs[j]? = some u → w.cell? ⟨g, o + j, none⟩ = some u) : ELIn w Y l (some ⟨g, o, none⟩) 0 := by
 refine ELIn.mk l 0 fun i hi => ?_
 obtain ⟨A, c, hx, ht⟩ := h.2 i hi
 rw [Nat.zero_add]
 refine ⟨g, o, A, c, ⟨rfl, hg⟩, hc (i * 4) _ ((hx 0 (by omega)).trans rfl), ?_, ?_, ?_, EIn.wide _ ht hXY⟩
 ·have := hc (i * 4 + 1) _ ((hx 1 (by omega)).trans rfl); simpa [Nat.add_assoc] using this
 ·have := hc (i * 4 + 2) _ ((hx 2 (by omega)).trans rfl); simpa [Nat.add_assoc] using this
 ·have := hc (i * 4 + 3) _ ((hx 3 (by omega)).trans rfl); simpa [Nat.add_assoc] using this
theorem RowTe.owned {w : World} {X Y : Nat → Prop} {l : List Te} {xs : List Value} {base n c : Nat} {A : Option Addr} (h : RowTe w X l xs) (ho : w.ownsRow base 24 4 (.slice A n c) n xs) (hX : ∀ g, base ≤ g → Y g) (hXY : ∀ b, X b → b < w.heap.size → Y b) :
  ELIn w Y l A 0 := by
 by_cases hl : l = []
 ·subst hl; rw [ELIn]; trivial
 ·have hn : 0 < n := by
   have h1 := ho.1
   have h2 := h.1
   have := List.length_pos_iff.2 hl
   omega
  obtain ⟨g, cap, hv⟩ := Joins.ownsRow_form ho hn
  have hA : A = some ⟨g, 0, none⟩ := by injection hv
  subst hA
  refine h.parts (hX g ?_) hXY fun j u hu => ?_
  ·rcases ho.2 with ⟨e, _⟩ | ⟨g', _, _, e, hb, _⟩
   ·cases e
   ·injection e with e; injection e with e; injection e with e; subst e; exact hb
  ·have h1 := ho.cells (g := g) rfl j u hu
   have hadd : (⟨g, 0, none⟩ : Addr).add j = ⟨g, 0 + j, none⟩ := by unfold Addr.add; split <;> simp_all
   rw [hadd] at h1
   exact h1
theorem res_term {fn : Func} {p : Tmp} (h : fn.results = #[.cell p 24]) {tmps : Array Value} {g : Nat} {a b c d : Value} {w : World} (hp : tmps.getD p undef = .pointer (some ⟨g, 0, none⟩)) (L : Lies w g 24 #[a, b, c, d]) :
  (results fn tmps).run Tryz.prog w = .ok (.agg #[a, b, c, d]) w := by
 have hl := run_loadVar_row (P := Tryz.prog) w g 24 24 #[a, b, c, d] (0, 0) _ L Tryz.underlying24 rfl (by kernel_rfl)
 have hp' : tmps[p]?.getD undef = .pointer (some ⟨g, 0, none⟩) := by simpa using hp
 simp only [results, h]
 simp [hp', asAddr, hl]
end Lx
end Go.Proofs.YtiocmiikghcoaaaGreatDoor
namespace Go.Proofs.YtiocmiikghcoaaaGreatDoor
namespace Lx
set_option maxRecDepth 100000
mutual
def chE (F : Int → ByteArray → Int → Te) : Te → Int → Te
 | .node k n s l, b => if k = 1 then F n s b else .node k n s (chEL F l (b + moreE k n))
def chEL (F : Int → ByteArray → Int → Te) : List Te → Int → List Te
 | [], _ => []
 | t :: r, b => chE F t b :: chEL F r b
end
def upF (u : Int) (n : Int) (s : ByteArray) (f : Int) : Te := .node 1 (if f ≤ n then n + u else n) s []
def upE (t : Te) (u f : Int) : Te := chE (upF u) t f
def putF (k : Int) (x : Te) (n : Int) (s : ByteArray) (b : Int) : Te := if n = k + b then upE x b 0 else .node 1 (if k + b < n then n - 1 else n) s []
def putE (t : Te) (k : Int) (x : Te) : Te := chE (putF k x) t 0
def lastE (l : List Te) (i : Nat) : Te := l.getD (l.length - 1 - i) (.node 0 0 ⟨#[]⟩ [])
def instF (l : List Te) (n : Int) (s : ByteArray) (b : Int) : Te := if b ≤ n ∧ n < b + l.length then upE (lastE l (n - b).toNat) b 0 else .node 1 (if b < n then n - l.length else n) s []
def instE (t : Te) (l : List Te) : Te := chE (instF l) t 0
mutual
def usesE : Te → Int → Nat
 | .node k n _ l, j => if k = 1 then (if n = j then 1 else 0) else usesEL l (j + moreE k n)
def usesEL : List Te → Int → Nat
 | [], _ => 0
 | t :: r, j => usesE t j + usesEL r j
end
mutual
def tameE (K M : Int) : Te → Prop
 | .node k n _ l => (k = 1 → -K ≤ n ∧ n ≤ K ∧ l = []) ∧ (k = 6 → -M ≤ n ∧ n ≤ M) ∧ tameEL K M l
def tameEL (K M : Int) : List Te → Prop
 | [] => True
 | t :: r => tameE K M t ∧ tameEL K M r
end
mutual
def tameB : Te → Bool
 | .node k n _ l => !((decide (k ≠ 7) && (decide (1099511627776 < n) || decide (n < -1099511627776))) || (decide (k = 1) && decide (0 < l.length))) && tameBL l
def tameBL : List Te → Bool
 | [] => true
 | t :: r => tameB t && tameBL r
end
theorem chEL_length (F : Int → ByteArray → Int → Te) : ∀ (l : List Te) (b : Int), (chEL F l b).length = l.length
 | [], _ => by simp [chEL]
 | t :: r, b => by simp [chEL, chEL_length F r b]
theorem chEL_map (F : Int → ByteArray → Int → Te) : ∀ (l : List Te) (b : Int), chEL F l b = l.map (chE F · b)
 | [], _ => by simp [chEL]
 | t :: r, b => by simp [chEL, chEL_map F r b]
theorem chEL_snoc (F : Int → ByteArray → Int → Te) (l : List Te) (t : Te) (b : Int) : chEL F (l ++ [t]) b = chEL F l b ++ [chE F t b] := by simp [chEL_map]
theorem chEL_take (F : Int → ByteArray → Int → Te) (l : List Te) (i : Nat) (b : Int) (h : i < l.length) : chEL F (l.take (i + 1)) b = chEL F (l.take i) b ++ [chE F (l[i]'h) b] := by
 rw [List.take_succ_eq_append_getElem h, chEL_snoc]
theorem usesEL_snoc (l : List Te) (t : Te) (j : Int) : usesEL (l ++ [t]) j = usesEL l j + usesE t j := by
 induction l with
 | nil => simp [usesEL]
 | cons a r ih => simp only [List.cons_append, usesEL, ih]; omega
theorem usesEL_take (l : List Te) (i : Nat) (j : Int) (h : i < l.length) : usesEL (l.take (i + 1)) j = usesEL (l.take i) j + usesE (l[i]'h) j := by
 rw [List.take_succ_eq_append_getElem h, usesEL_snoc]
theorem tameEL_mem {K M : Int} : ∀ (l : List Te) (t : Te), t ∈ l → tameEL K M l → tameE K M t
 | [], t, h, _ => by simp at h
 | a :: r, t, h, ht => by
  rw [tameEL] at ht
  rcases List.mem_cons.1 h with rfl | h
  ·exact ht.1
  ·exact tameEL_mem r t h ht.2
theorem tameEL_of {K M : Int} : ∀ (l : List Te), (∀ t ∈ l, tameE K M t) → tameEL K M l
 | [], _ => by rw [tameEL]; trivial
 | a :: r, h => by rw [tameEL]; exact ⟨h a (by simp), tameEL_of r fun t ht => h t (by simp [ht])⟩
mutual
theorem tameB_spec : ∀ t : Te, tameB t = true → tameE 1099511627776 1099511627776 t
 | .node k n s l, h => by
  rw [tameB] at h
  rw [tameE]
  simp only [Bool.and_eq_true, Bool.not_eq_true', Bool.or_eq_false_iff, Bool.and_eq_false_iff, decide_eq_false_iff_not] at h
  obtain ⟨⟨h1, h2⟩, h3⟩ := h
  refine ⟨fun hk => ?_, fun hk => by omega, tameBL_spec l h3⟩
  refine ⟨by omega, by omega, ?_⟩
  have : ¬ 0 < l.length := by
   rcases h2 with h2 | h2
   ·exact absurd hk h2
   ·exact h2
  exact List.eq_nil_of_length_eq_zero (by omega)
theorem tameBL_spec : ∀ l : List Te, tameBL l = true → tameEL 1099511627776 1099511627776 l
 | [], _ => by rw [tameEL]; trivial
 | t :: r, h => by
  rw [tameBL, Bool.and_eq_true] at h
  rw [tameEL]
  exact ⟨tameB_spec t h.1, tameBL_spec r h.2⟩
end
mutual
theorem usesE_le : ∀ (t : Te) (j : Int), usesE t j ≤ sizeE t
 | .node k n s l, j => by
  rw [usesE, sizeE]
  have := usesEL_le l (j + moreE k n)
  split
  ·split <;> omega
  ·omega
theorem usesEL_le : ∀ (l : List Te) (j : Int), usesEL l j ≤ sizeEL l
 | [], _ => by simp [usesEL]
 | t :: r, j => by rw [usesEL, sizeEL]; have := usesE_le t j; have := usesEL_le r j; omega
end
mutual
theorem tameE_mono {K M K' M' : Int} (hK : K ≤ K') (hM : M ≤ M') : ∀ t : Te, tameE K M t → tameE K' M' t
 | .node k n s l, h => by
  rw [tameE] at h ⊢
  refine ⟨fun hk => ?_, fun hk => ?_, tameEL_mono hK hM l h.2.2⟩
  ·have := h.1 hk; exact ⟨by omega, by omega, this.2.2⟩
  ·have := h.2.1 hk; omega
theorem tameEL_mono {K M K' M' : Int} (hK : K ≤ K') (hM : M ≤ M') : ∀ l : List Te, tameEL K M l → tameEL K' M' l
 | [], _ => by rw [tameEL]; trivial
 | t :: r, h => by rw [tameEL] at h ⊢; exact ⟨tameE_mono hK hM t h.1, tameEL_mono hK hM r h.2⟩
end
mutual
theorem chE_depth {F : Int → ByteArray → Int → Te} {D : Nat} (hD : 0 < D) (h : ∀ n s b, depthE (F n s b) ≤ D) : ∀ (t : Te) (b : Int), depthE (chE F t b) + 1 ≤ depthE t + D
 | .node k n s l, b => by
  rw [chE, depthE]
  split
  ·have := h n s b; omega
  ·rw [depthE]; have := chEL_depth hD h l (b + moreE k n); omega
theorem chEL_depth {F : Int → ByteArray → Int → Te} {D : Nat} (hD : 0 < D) (h : ∀ n s b, depthE (F n s b) ≤ D) : ∀ (l : List Te) (b : Int), depthEL (chEL F l b) + 1 ≤ depthEL l + D
 | [], _ => by simp [chEL, depthEL]; omega
 | t :: r, b => by rw [chEL, depthEL, depthEL]; have := chE_depth hD h t b; have := chEL_depth hD h r b; omega
end
mutual
theorem chE_size {F : Int → ByteArray → Int → Te} {S : Nat} (hS : 0 < S) (h : ∀ n s b, sizeE (F n s b) ≤ S) : ∀ (t : Te) (b : Int), sizeE (chE F t b) ≤ sizeE t * S
 | .node k n s l, b => by
  rw [chE]
  have := chEL_size hS h l (b + moreE k n)
  rw [sizeE, Nat.succ_mul]
  split
  ·have := h n s b; omega
  ·rw [sizeE]; omega
theorem chEL_size {F : Int → ByteArray → Int → Te} {S : Nat} (hS : 0 < S) (h : ∀ n s b, sizeE (F n s b) ≤ S) : ∀ (l : List Te) (b : Int), sizeEL (chEL F l b) ≤ sizeEL l * S
 | [], _ => by simp [chEL, sizeEL]
 | t :: r, b => by rw [chEL, sizeEL, sizeEL, Nat.add_mul]; have := chE_size hS h t b; have := chEL_size hS h r b; omega
end
mutual
theorem chE_tame {F : Int → ByteArray → Int → Te} {K K' M B : Int} (hM : 0 ≤ M) (hM1 : 1 ≤ M) (h : ∀ n s b, -K ≤ n → n ≤ K → -B ≤ b → b ≤ B → tameE K' M (F n s b)) : ∀ (t : Te) (b : Int), tameE K M t → -B ≤ b - (depthE t : Int) * M → b + (depthE t : Int) * M ≤ B → tameE K' M (chE F t b)
 | .node k n s l, b, ht, h1, h2 => by
  rw [tameE] at ht
  rw [depthE] at h1 h2
  have he : ((depthEL l + 1 : Nat) : Int) * M = (depthEL l : Int) * M + M := by rw [Int.natCast_add, Int.add_mul]; simp
  rw [he] at h1 h2
  have hp : 0 ≤ (depthEL l : Int) * M := Int.mul_nonneg (by omega) hM
  rw [chE]
  split
  ·rename_i hk
   have := ht.1 hk
   exact h n s b this.1 this.2.1 (by omega) (by omega)
  ·rename_i hk
   have hm : -M ≤ moreE k n ∧ moreE k n ≤ M := by
    rw [moreE]
    split
    ·omega
    ·split
     ·rename_i h6; exact ht.2.1 h6
     ·omega
   rw [tameE]
   exact ⟨fun e => absurd e hk, ht.2.1, chEL_tame hM hM1 h l (b + moreE k n) ht.2.2 (by omega) (by omega)⟩
theorem chEL_tame {F : Int → ByteArray → Int → Te} {K K' M B : Int} (hM : 0 ≤ M) (hM1 : 1 ≤ M) (h : ∀ n s b, -K ≤ n → n ≤ K → -B ≤ b → b ≤ B → tameE K' M (F n s b)) : ∀ (l : List Te) (b : Int), tameEL K M l → -B ≤ b - (depthEL l : Int) * M → b + (depthEL l : Int) * M ≤ B → tameEL K' M (chEL F l b)
 | [], _, _, _, _ => by rw [chEL, tameEL]; trivial
 | t :: r, b, ht, h1, h2 => by
  rw [tameEL] at ht
  rw [depthEL] at h1 h2
  have e1 : (depthE t : Int) * M ≤ ((max (depthE t) (depthEL r) : Nat) : Int) * M := Int.mul_le_mul_of_nonneg_right (by omega) hM
  have e2 : (depthEL r : Int) * M ≤ ((max (depthE t) (depthEL r) : Nat) : Int) * M := Int.mul_le_mul_of_nonneg_right (by omega) hM
  rw [chEL, tameEL]
  exact ⟨chE_tame hM hM1 h t b ht.1 (by omega) (by omega), chEL_tame hM hM1 h r b ht.2 (by omega) (by omega)⟩
end
theorem upE_depth (t : Te) (u f : Int) : depthE (upE t u f) ≤ depthE t := by
 have := chE_depth (F := upF u) (D := 1) (by omega) (fun n s b => by simp [upF, depthE, depthEL]) t f
 rw [upE]; omega
theorem upE_size (t : Te) (u f : Int) : sizeE (upE t u f) ≤ sizeE t := by
 have := chE_size (F := upF u) (S := 1) (by omega) (fun n s b => by simp [upF, sizeE, sizeEL]) t f
 rw [upE]; omega
theorem upE_tame {K M U : Int} {t : Te} (hM1 : 1 ≤ M) (ht : tameE K M t) (u f : Int) (h0 : -U ≤ u) (h1 : u ≤ U) (hU : 0 ≤ U) : tameE (K + U) M (upE t u f) := by
 have hp : 0 ≤ (depthE t : Int) * M := Int.mul_nonneg (by omega) (by omega)
 rw [upE]
 rcases Int.le_total 0 f with hf | hf
 ·exact chE_tame (B := f + (depthE t : Int) * M) (by omega) hM1 (fun n s b h2 h3 _ _ => by
   rw [upF, tameE, tameEL]
   refine ⟨fun _ => ?_, fun e => by omega, trivial⟩
   split <;> exact ⟨by omega, by omega, rfl⟩) t f ht (by omega) (by omega)
 ·exact chE_tame (B := -f + (depthE t : Int) * M) (by omega) hM1 (fun n s b h2 h3 _ _ => by
   rw [upF, tameE, tameEL]
   refine ⟨fun _ => ?_, fun e => by omega, trivial⟩
   split <;> exact ⟨by omega, by omega, rfl⟩) t f ht (by omega) (by omega)
theorem putF_depth (k : Int) (x : Te) (n : Int) (s : ByteArray) (b : Int) : depthE (putF k x n s b) ≤ depthE x := by
 rw [putF]
 split
 ·exact upE_depth _ _ _
 ·have := depthE_pos x; simp [depthE, depthEL]; omega
theorem putF_size (k : Int) (x : Te) (n : Int) (s : ByteArray) (b : Int) : sizeE (putF k x n s b) ≤ sizeE x := by
 rw [putF]
 split
 ·exact upE_size _ _ _
 ·have := sizeE_pos x; simp [sizeE, sizeEL]; omega
theorem putE_depth (t : Te) (k : Int) (x : Te) : depthE (putE t k x) + 1 ≤ depthE t + depthE x := by
 rw [putE]; exact chE_depth (depthE_pos x) (putF_depth k x) t 0
theorem putE_size (t : Te) (k : Int) (x : Te) : sizeE (putE t k x) ≤ sizeE t * sizeE x := by
 rw [putE]; exact chE_size (sizeE_pos x) (putF_size k x) t 0
theorem putE_tame {K : Int} {t x : Te} (hd : depthE t ≤ 4000) (ht : tameE K 8 t) (hx : tameE K 8 x) (k : Int) : tameE (K + 32001) 8 (putE t k x) := by
 rw [putE]
 refine chE_tame (B := 32000) (by omega) (by omega) (fun n s b h2 h3 h4 h5 => ?_) t 0 ht (by omega) (by omega)
 rw [putF]
 split
 ·exact tameE_mono (by omega) (Int.le_refl _) _ (upE_tame (U := 32000) (by omega) hx b 0 (by omega) (by omega) (by omega))
 ·rw [tameE, tameEL]
  refine ⟨fun _ => ?_, fun e => by omega, trivial⟩
  split <;> exact ⟨by omega, by omega, rfl⟩
theorem lastE_mem (l : List Te) (i : Nat) (h : i < l.length) : lastE l i = l[l.length - 1 - i]'(by omega) := by
 rw [lastE, List.getD_eq_getElem?_getD, List.getElem?_eq_getElem (by omega)]; rfl
theorem instF_depth {l : List Te} {D : Nat} (hD : 0 < D) (h : ∀ t ∈ l, depthE t ≤ D) (n : Int) (s : ByteArray) (b : Int) : depthE (instF l n s b) ≤ D := by
 rw [instF]
 split
 ·rename_i hc
  rw [lastE_mem _ _ (by omega)]
  have := h _ (List.getElem_mem (by omega : l.length - 1 - (n - b).toNat < l.length))
  have := upE_depth (l[l.length - 1 - (n - b).toNat]'(by omega)) b 0
  omega
 ·simp [depthE, depthEL]; omega
theorem instF_size {l : List Te} {S : Nat} (hS : 0 < S) (h : ∀ t ∈ l, sizeE t ≤ S) (n : Int) (s : ByteArray) (b : Int) : sizeE (instF l n s b) ≤ S := by
 rw [instF]
 split
 ·rename_i hc
  rw [lastE_mem _ _ (by omega)]
  have := h _ (List.getElem_mem (by omega : l.length - 1 - (n - b).toNat < l.length))
  have := upE_size (l[l.length - 1 - (n - b).toNat]'(by omega)) b 0
  omega
 ·simp [sizeE, sizeEL]; omega
mutual
theorem chE_congr {F G : Int → ByteArray → Int → Te} {a : Int} (h : ∀ n s b, F n s b = G n s (a + b)) : ∀ (t : Te) (b : Int), chE F t b = chE G t (a + b)
 | .node k n s l, b => by
  rw [chE, chE, h, chEL_congr h l, Int.add_assoc]
theorem chEL_congr {F G : Int → ByteArray → Int → Te} {a : Int} (h : ∀ n s b, F n s b = G n s (a + b)) : ∀ (l : List Te) (b : Int), chEL F l b = chEL G l (a + b)
 | [], b => by rw [chEL, chEL]
 | t :: r, b => by rw [chEL, chEL, chE_congr h t, chEL_congr h r]
end
theorem up_from (t : Te) (u f : Int) : chE (fun n s b => upF u n s (f + b)) t 0 = upE t u f := by
 rw [upE, chE_congr (G := upF u) (a := f) (fun _ _ _ => rfl), Int.add_zero]
end Lx
end Go.Proofs.YtiocmiikghcoaaaGreatDoor
namespace Go.Proofs.YtiocmiikghcoaaaGreatDoor
open Go.RowKit
namespace Lx
set_option maxRecDepth 100000
def GivesE (t : Te) (w : World) (e : Ending) (w' : World) : Prop :=
 ∃ A c, e = .returned (ev t A c) ∧ EIn w' (fun g => w.heap.size ≤ g) t A ∧ Below w.heap.size w w'
theorem run_make_rowE {P : Program} (t e : TypeId) (i : TypeInfo) (z : Value) (ht : P.underlying t = some (.slice e)) (hi : P.info? e = some i) (hz : i.zero = some z)
  (kl kc : IntKind) (n c : Nat) (hnc : n ≤ c) (hbytes : i.bytes * c ≤ 281474976710656) (h63 : c ≤ 9223372036854775807) (w : World) :
  (Instr.makeSlice t (.int kl (n : Int)) (.int kc (c : Int))).run P w = .ok (.slice (some ⟨w.heap.size, 0, none⟩) n c) (w.alloc (.cells (madeCells z.cells (c * i.size)) e)) := by
 have hb : (i.bytes : Int) * (c : Int) ≤ 281474976710656 := by
  have h : ((i.bytes * c : Nat) : Int) ≤ 281474976710656 := by omega
  rwa [Int.natCast_mul] at h
 have hr := run_make (P := P) w t e i z ht hi hz kl kc n c (by omega) (by omega) hb (by omega)
 simp only [Int.toNat_natCast] at hr
 exact hr
def RowF (w : World) (G m : Nat) (l : List Te) : Prop := ∃ cs, Lies w G 24 cs ∧ cs.size = m * 4 ∧ RowTe w (fun g => G < g) l (cs.toList.take (l.length * 4))
theorem RowF.cell {w : World} {G m : Nat} {l : List Te} (h : RowF w G m l) (i q : Nat) (hi : i < m) (hq : q < 4) : ∃ u, w.cell? ⟨G, i * 4 + q, none⟩ = some u ∧ w.frozen? ⟨G, i * 4 + q, none⟩ = false := by
 obtain ⟨cs, hL, hs, _⟩ := h
 have hlt : i * 4 + q < cs.size := by omega
 exact ⟨cs[i * 4 + q], (hL.cell _).trans (Array.getElem?_eq_getElem hlt), hL.frozen _⟩
theorem RowF.below {w w' : World} {G m : Nat} {l : List Te} {B : Nat} (h : RowF w G m l) (hb : Below B w w') (hB : w.heap.size ≤ B) : RowF w' G m l := by
 obtain ⟨cs, hL, hs, hr⟩ := h
 exact ⟨cs, hL.below hb (by have := hL.lt; omega), hs, hr.below hb hB⟩
theorem RowF.lt {w : World} {G m : Nat} {l : List Te} (h : RowF w G m l) : G < w.heap.size := by obtain ⟨cs, hL, _⟩ := h; exact hL.lt
theorem take_set4 (cs : List Value) (p : Nat) (a b c d : Value) (h : p + 4 ≤ cs.length) :
  ((((cs.set p a).set (p + 1) b).set (p + 2) c).set (p + 3) d).take (p + 4) = cs.take p ++ [a, b, c, d] := by
 apply List.ext_getElem?
 intro j
 by_cases hj : j < p + 4
 ·rw [List.getElem?_take_of_lt hj]
  by_cases h0 : j < p
  ·rw [List.getElem?_append_left (by simp; omega), List.getElem?_take_of_lt h0]
   simp [show ¬ p = j by omega, show ¬ p + 1 = j by omega, show ¬ p + 2 = j by omega, show ¬ p + 3 = j by omega]
  ·rw [List.getElem?_append_right (by simp; omega)]
   have hl : (cs.take p).length = p := by simp; omega
   rw [hl]
   rcases (by omega : j = p ∨ j = p + 1 ∨ j = p + 2 ∨ j = p + 3) with rfl | rfl | rfl | rfl
   ·simp [List.getElem?_set]; omega
   ·simp [List.getElem?_set, show p + 1 - p = 1 by omega]; omega
   ·simp [List.getElem?_set, show p + 2 - p = 2 by omega]; omega
   ·simp [List.getElem?_set, show p + 3 - p = 3 by omega]; omega
 ·rw [List.getElem?_eq_none (by simp; omega), List.getElem?_eq_none (by simp; omega)]
theorem RowF.put {w : World} {G m : Nat} {l : List Te} (h : RowF w G m l) (t : Te) (A : Option Addr) (c : Nat) (hi : l.length < m) (ht : EIn w (fun g => G < g) t A) :
  RowF ((((w.setCell ⟨G, l.length * 4, none⟩ (.int .i64 t.kind)).setCell ⟨G, l.length * 4 + 1, none⟩ (.int .i64 t.n)).setCell ⟨G, l.length * 4 + 2, none⟩ (.string t.name)).setCell ⟨G, l.length * 4 + 3, none⟩ (.slice A t.parts.length (capF t.parts.length c))) G m (l ++ [t]) := by
 obtain ⟨cs, hL, hs, hr⟩ := h
 have hX : ∀ p : Addr, p.block = G → ¬ G < p.block := fun p e => by omega
 refine ⟨_, (((hL.put _ _).put _ _).put _ _).put _ _, by simp [hs], ?_⟩
 have h5 : (l ++ [t]).length * 4 = l.length * 4 + 4 := by simp; omega
 rw [h5]
 simp only [Array.toList_setIfInBounds]
 rw [take_set4 _ _ _ _ _ _ (by simp [hs]; omega)]
 have h1 := (((hr.setCell ⟨G, l.length * 4, none⟩ (.int .i64 t.kind) (hX _ rfl)).setCell ⟨G, l.length * 4 + 1, none⟩ (.int .i64 t.n) (hX _ rfl)).setCell ⟨G, l.length * 4 + 2, none⟩ (.string t.name) (hX _ rfl)).setCell ⟨G, l.length * 4 + 3, none⟩ (.slice A t.parts.length (capF t.parts.length c)) (hX _ rfl)
 have h2 := EIn.setCell _ (EIn.setCell _ (EIn.setCell _ (EIn.setCell _ ht ⟨G, l.length * 4, none⟩ (.int .i64 t.kind) (hX _ rfl)) ⟨G, l.length * 4 + 1, none⟩ (.int .i64 t.n) (hX _ rfl)) ⟨G, l.length * 4 + 2, none⟩ (.string t.name) (hX _ rfl)) ⟨G, l.length * 4 + 3, none⟩ (.slice A t.parts.length (capF t.parts.length c)) (hX _ rfl)
 exact h1.snoc (c := c) h2
theorem Lies.far4 {w : World} {g : Nat} {t : TypeId} {cs : Array Value} (h : Lies w g t cs) {G : Nat} (hg : g ≠ G) (o : Nat) (a b c d : Value) :
  Lies ((((w.setCell ⟨G, o, none⟩ a).setCell ⟨G, o + 1, none⟩ b).setCell ⟨G, o + 2, none⟩ c).setCell ⟨G, o + 3, none⟩ d) g t cs :=
 (((h.far (p := ⟨G, o, none⟩) hg _).far (p := ⟨G, o + 1, none⟩) hg _).far (p := ⟨G, o + 2, none⟩) hg _).far (p := ⟨G, o + 3, none⟩) hg _
theorem Below.four {B : Nat} {a w : World} (h : Below B a w) {G : Nat} (hg : B ≤ G) (o : Nat) (x y z u : Value) :
  Below B a ((((w.setCell ⟨G, o, none⟩ x).setCell ⟨G, o + 1, none⟩ y).setCell ⟨G, o + 2, none⟩ z).setCell ⟨G, o + 3, none⟩ u) :=
 (((h.setCell (p := ⟨G, o, none⟩) hg x).setCell (p := ⟨G, o + 1, none⟩) hg y).setCell (p := ⟨G, o + 2, none⟩) hg z).setCell (p := ⟨G, o + 3, none⟩) hg u
theorem RowF.parts {w : World} {G : Nat} {l : List Te} {Y : Nat → Prop} (h : RowF w G l.length l) (hY : ∀ g, G ≤ g → Y g) : ELIn w Y l (some ⟨G, 0, none⟩) 0 := by
 obtain ⟨cs, hL, hs, hr⟩ := h
 refine hr.parts (hY _ (Nat.le_refl _)) (fun b hb _ => hY b (by omega)) fun j u hu => ?_
 rw [Nat.zero_add, hL.cell j]
 have hj : j < l.length * 4 := by
  rcases Nat.lt_or_ge j (l.length * 4) with h | h
  ·exact h
  ·rw [List.getElem?_eq_none (by simp; omega)] at hu; cases hu
 rw [List.getElem?_take_of_lt hj] at hu
 simpa using hu
theorem RowF.fresh (w : World) (m : Nat) : RowF (w.alloc (.cells (madeCells #[.int .i64 0, .int .i64 0, .string ⟨#[]⟩, .slice none 0 0] (m * 4)) 24)) w.heap.size m [] := by
 refine ⟨_, Lies.new _ _ _, size_madeCells #[.int .i64 0, .int .i64 0, .string ⟨#[]⟩, .slice none 0 0] _, RowTe.nil _ _⟩
set_option maxHeartbeats 1000000 in
theorem find7_any (l : List ByteArray) (s : ByteArray) (A : Option Addr) (m c : Nat) (w : World) (hm : m = l.length) (hm2 : m ≤ 100000) (hI : SIn w Any l A) :
  Calls Tryz.prog 80 #[.slice A m c, .string s] w fun e w' => e = .returned (.int .i64 (findN l s)) ∧ Below w.heap.size w w' := by
 have hm1 : l.length ≤ m := by omega
 have hm3 : m ≤ l.length := by omega
 clear hm
 have HI := Lib.hid hI
 have HN : Hid (findR (l.take m).reverse s (m - m) = findN l s) := Lib.hid (by rw [List.take_of_length_le hm1, Nat.sub_self]; rfl)
 clear hI
 go_enter Tryz.func80, Tryz.ntmps80
 go_wp2_with fail
 go_loopw [5] (fun x wr => ∃ j : Nat, j ≤ m ∧ x = .int .i64 ((j : Int) - 1) ∧ Hid (findR (l.take j).reverse s (m - j) = findN l s) ∧ Below w.heap.size w wr) (fun x _ => (intOf x + 1).toNat)
 case atStart => exact ⟨m, Nat.le_refl _, rfl, HN, Below.refl _ w⟩
 case round =>
  obtain ⟨j, hj, rfl, HQ, hbw⟩ := hrel
  have hbs := hbw.size
  by_cases hlt : 0 < j
  ·obtain ⟨i, rfl⟩ : ∃ i, j = i + 1 := ⟨j - 1, by omega⟩
   have hia : i < l.length := by omega
   have him : i < m := by omega
   have e1 : ((i + 1 : Nat) : Int) - 1 = (i : Int) := by omega
   rw [e1]
   obtain ⟨g, o, rfl, _, d0⟩ := (HI.out.below hbw (Nat.le_refl _)) i hia
   have HD : Hid (findR (l.take (i + 1)).reverse s (m - (i + 1)) = if (l[i]'hia) = s then m - (i + 1) else findR (l.take i).reverse s (m - i)) := Lib.hid (by
    rw [take_succ_rev l i hia, findR, show m - (i + 1) + 1 = m - i from by omega])
   obtain ⟨x, hx⟩ : ∃ x, x = l[i]'hia := ⟨_, rfl⟩
   rw [← hx] at d0 HD
   clear hx
   by_cases hxs : x = s
   ·have h1 : (x.toList == s.toList) = true := by rw [hxs]; exact BEq.rfl
    have HR : Hid (((findN l s : Nat) : Int) = (m : Int) - 1 - i) := Lib.hid (by rw [← HQ.out, HD.out, if_pos hxs]; omega)
    clear hxs hlt e1
    go_wp2_with fail
    go_ret
    exact ⟨ret_int HR.out.symm, hbw⟩
   ·have h1 : (x.toList == s.toList) = false := by rw [ename_q, decide_eq_false hxs]
    have HR : Hid (findR (l.take i).reverse s (m - i) = findN l s) := Lib.hid (by rw [← HQ.out, HD.out, if_neg hxs])
    clear hxs hlt e1
    go_wp2_with fail
    go_roundw
    case rel => exact ⟨i, by omega, by go_num, HR, hbw⟩
    case measure => simp [intOf] <;> omega
  ·obtain rfl : j = 0 := by omega
   go_wp2_with fail
   go_ret
   have := HQ.out
   exact ⟨ret_int (by rw [← this]; all_goals rfl), hbw⟩
theorem lam7_any (b : Te) (A : Option Addr) (c : Nat) (w : World) (Z : Nat → Prop) (hI : EIn w Z b A) (hZ : ∀ g, w.heap.size ≤ g → Z g) : Calls Tryz.prog 81 #[ev b A c] w fun e w' => ∃ A c, e = .returned (ev (lam7 b) A c) ∧ EIn w' Z (lam7 b) A ∧ Below w.heap.size w w' := by
 obtain ⟨k, n, s, l⟩ := b
 have HI := Lib.hid hI
 have HZ := Lib.hid hZ
 clear hI hZ
 show Calls Tryz.prog 81 #[.agg #[.int .i64 k, .int .i64 n, .string s, .slice A l.length (capF l.length c)]] w _
 go_enter Tryz.func81, Tryz.ntmps81
 go_wp2_with fail
 refine bodyPost_ret (res_term (p := 2) Tryz.results81 rfl (Lies.old (lies_next _ _ _ _ (by simp)) _)) rfl ⟨some ⟨w.heap.size + 1 + 1, 0, none⟩, 1, rfl, ein_mk (by decide) (by decide) (by decide) (by simp) ?_, (((Below.refl _ w).alloc (Nat.le_refl _) _).alloc (by simp) _).alloc (by simp <;> omega) _⟩
 refine ein_lies1 (c := c) (A := A) (t := .node k n s l) (ty := 24) ?_ (HZ.out _ (by omega)) (EIn.below _ HI.out ((((Below.refl _ w).alloc (Nat.le_refl _) _).alloc (by simp) _).alloc (by simp <;> omega) _) (Nat.le_refl _))
 exact lies_next _ _ _ _ (by simp)
theorem two7_any (q : Int) (a b : Te) (A B : Option Addr) (c d : Nat) (w : World) (Z : Nat → Prop) (_hq0 : 0 ≤ q) (_hq1 : q ≤ 100) (hI : EIn w Z a A) (hJ : EIn w Z b B) (hZ : ∀ g, w.heap.size ≤ g → Z g) : Calls Tryz.prog 83 #[.int .i64 q, ev a A c, ev b B d] w fun e w' => ∃ A c, e = .returned (ev (two7 q a b) A c) ∧ EIn w' Z (two7 q a b) A ∧ Below w.heap.size w w' := by
 obtain ⟨k, n, s, l⟩ := a
 obtain ⟨k2, n2, s2, l2⟩ := b
 have HI := Lib.hid hI
 have HJ := Lib.hid hJ
 have HZ := Lib.hid hZ
 clear hI hJ hZ
 show Calls Tryz.prog 83 #[.int .i64 q, .agg #[.int .i64 k, .int .i64 n, .string s, .slice A l.length (capF l.length c)], .agg #[.int .i64 k2, .int .i64 n2, .string s2, .slice B l2.length (capF l2.length d)]] w _
 obtain ⟨O1, hO1⟩ : ∃ O, O = Obj.cells #[.int .i64 k, .int .i64 n, .string s, .slice A l.length (capF l.length c)] 24 := ⟨_, rfl⟩
 obtain ⟨O2, hO2⟩ : ∃ O, O = Obj.cells #[.int .i64 k2, .int .i64 n2, .string s2, .slice B l2.length (capF l2.length d)] 24 := ⟨_, rfl⟩
 go_enter Tryz.func83, Tryz.ntmps83
 go_wp2_with fail
 rw [← hO1, ← hO2]
 refine bodyPost_ret (res_term (p := 6) Tryz.results83 rfl (Lies.old (lies_next _ _ _ _ (by simp)) _)) rfl ⟨some ⟨w.heap.size + 1 + 1 + 1, 0, none⟩, 2, rfl, ein_mk (by decide) (by decide) (by decide) (by simp) ?_, ((((Below.refl _ w).alloc (Nat.le_refl _) _).alloc (by simp) _).alloc (by simp <;> omega) _).alloc (by simp <;> omega) _⟩
 have hb := ((((Below.refl _ w).alloc (Nat.le_refl _) O1).alloc (by simp) O2).alloc (by simp <;> omega) (Obj.cells #[.int .i64 q, .int .i64 0, .string ⟨#[]⟩, .slice (some ⟨w.heap.size + 1 + 1 + 1, 0, none⟩) 2 2] 24)).alloc (by simp <;> omega) (Obj.cells #[.int .i64 k, .int .i64 n, .string s, .slice A l.length (capF l.length c), .int .i64 k2, .int .i64 n2, .string s2, .slice B l2.length (capF l2.length d)] 24)
 refine ein_lies2 (c := c) (d := d) (A := A) (B := B) (t := .node k n s l) (u := .node k2 n2 s2 l2) (ty := 24) ?_ (HZ.out _ (by omega)) (EIn.below _ HI.out hb (Nat.le_refl _)) (EIn.below _ HJ.out hb (Nat.le_refl _))
 exact lies_next _ _ _ _ (by simp)
end Lx
end Go.Proofs.YtiocmiikghcoaaaGreatDoor
namespace Go.Proofs.YtiocmiikghcoaaaGreatDoor
namespace Lx
set_option maxRecDepth 100000
mutual
def okT : Tr → Prop
 | .node k _ n _ l => ((k = 8 → 0 ≤ n ∧ n + 1 = (l.length : Int)) ∧ (k = 1 → l = [] ∧ n = 0) ∧ (k = 2 → l.length = 1 ∧ n = 0) ∧ (k = 3 ∨ k = 4 ∨ k = 5 ∨ k = 10 → l.length = 2 ∧ n = 0) ∧ (k = 9 → l = [] ∧ 0 ≤ n ∧ n < 1000000000000000000) ∧ (k ≠ 8 → k ≠ 9 → n = 0) ∧ l.length ≤ 9) ∧ okL l
def okL : List Tr → Prop
 | [] => True
 | t :: r => okT t ∧ okL r
end
theorem okL_mem : ∀ (l : List Tr) (t : Tr), t ∈ l → okL l → okT t
 | [], t, h, _ => by simp at h
 | a :: r, t, h, ht => by
  rw [okL] at ht
  rcases List.mem_cons.1 h with rfl | h
  ·exact ht.1
  ·exact okL_mem r t h ht.2
theorem parts_ok {k n : Int} {m : Nat} (h : partsV k n m = true) : (k = 8 → 0 ≤ n ∧ n + 1 = (m : Int)) ∧ (k = 1 → m = 0 ∧ n = 0) ∧ (k = 2 → m = 1 ∧ n = 0) ∧ (k = 3 ∨ k = 4 ∨ k = 5 ∨ k = 10 → m = 2 ∧ n = 0) ∧ (k = 9 → m = 0 ∧ 0 ≤ n ∧ n < 1000000000000000000) ∧ (k ≠ 8 → k ≠ 9 → n = 0) ∧ m ≤ 9 := by
 unfold partsV at h
 split at h
 ·simp at h; omega
 ·split at h
  ·simp at h; omega
  ·split at h
   ·simp at h; omega
   ·split at h
    ·simp at h; omega
    ·split at h
     ·simp at h; omega
     ·split at h
      ·simp at h; omega
      ·split at h
       ·simp at h; omega
       ·cases h
mutual
theorem mayR_ok : ∀ (t : Tr) (alt : Bool), mayRT t alt = true → okT t
 | .node k s n a l, alt, h => by
  rw [mayRT] at h
  simp only [Bool.and_eq_true] at h
  obtain ⟨_, _, h2, _, h3⟩ := h
  rw [okT]
  have := parts_ok h2
  exact ⟨⟨this.1, fun e => ⟨List.eq_nil_of_length_eq_zero (this.2.1 e).1, (this.2.1 e).2⟩, this.2.2.1, this.2.2.2.1, fun e => ⟨List.eq_nil_of_length_eq_zero (this.2.2.2.2.1 e).1, (this.2.2.2.2.1 e).2⟩, this.2.2.2.2.2⟩, mayRL_ok l k n 0 h3⟩
theorem mayRL_ok : ∀ (l : List Tr) (k n : Int) (i : Nat), mayRL k n i l = true → okL l
 | [], _, _, _, _ => by rw [okL]; trivial
 | t :: r, k, n, i, h => by
  rw [mayRL] at h
  simp only [Bool.and_eq_true] at h
  rw [okL]
  exact ⟨mayR_ok t _ h.2.1, mayRL_ok r k n (i + 1) h.2.2⟩
end
theorem onceN_app (a x y : List (ByteArray × Int)) : onceN a (x ++ y) = onceN (onceN a x) y := by
 induction x generalizing a with
 | nil => rfl
 | cons p r ih =>
  obtain ⟨s, n⟩ := p
  simp only [List.cons_append, onceN]
  split
  ·exact ih _
  ·exact ih _
theorem onceN_len (a x : List (ByteArray × Int)) : a.length ≤ (onceN a x).length ∧ (onceN a x).length ≤ a.length + x.length := by
 induction x generalizing a with
 | nil => simp [onceN]
 | cons p r ih =>
  obtain ⟨s, n⟩ := p
  simp only [onceN, List.length_cons]
  split
  ·have := ih (a ++ [(s, n)]); simp only [List.length_append, List.length_singleton] at this; omega
  ·have := ih a; omega
theorem metL_skip (k n : Int) (l : List Tr) (j : Nat) (h : j ≤ fromN k n) (hl : fromN k n ≤ l.length) : metL k n j (l.drop j) = metL k n (fromN k n) (l.drop (fromN k n)) := by
 obtain ⟨d, hd⟩ : ∃ d, fromN k n = j + d := ⟨fromN k n - j, by omega⟩
 induction d generalizing j with
 | zero => rw [show fromN k n = j from by omega]
 | succ d ih =>
  have hj : j < l.length := by omega
  rw [List.drop_eq_getElem_cons hj, metL, if_pos (by omega), List.nil_append]
  exact ih (j + 1) (by omega) (by omega)
theorem badL_skip (A : List (ByteArray × Int)) (k n : Int) (s : ByteArray) (l : List Tr) (b : List ByteArray) (j : Nat) (h : j ≤ fromN k n) (hl : fromN k n ≤ l.length) : badL A k n s l b j [] (l.drop j) = badL A k n s l b (fromN k n) [] (l.drop (fromN k n)) := by
 obtain ⟨d, hd⟩ : ∃ d, fromN k n = j + d := ⟨fromN k n - j, by omega⟩
 induction d generalizing j with
 | zero => rw [show fromN k n = j from by omega]
 | succ d ih =>
  have hj : j < l.length := by omega
  rw [List.drop_eq_getElem_cons hj, badL, if_pos (by omega)]
  exact ih (j + 1) (by omega) (by omega)
mutual
theorem metT_len : ∀ t : Tr, (metT t).length ≤ sizeT t
 | .node k s n a l => by
  rw [metT, sizeT, List.length_append]
  have := metL_len l k n 0
  split <;> simp <;> omega
theorem metL_len : ∀ (l : List Tr) (k n : Int) (i : Nat), (metL k n i l).length ≤ sizeL l
 | [], _, _, _ => by simp [metL, sizeL]
 | t :: r, k, n, i => by
  rw [metL, sizeL, List.length_append]
  have := metT_len t
  have := metL_len r k n (i + 1)
  split <;> simp <;> omega
end
theorem sizeL_drop (l : List Tr) (i : Nat) (h : i < l.length) : sizeL (l.drop i) = sizeT (l[i]'h) + sizeL (l.drop (i + 1)) := by
 rw [List.drop_eq_getElem_cons h, sizeL]
end Lx
end Go.Proofs.YtiocmiikghcoaaaGreatDoor
namespace Go.Proofs.YtiocmiikghcoaaaGreatDoor
open Go
namespace Lx
set_option maxRecDepth 100000
section
variable {P : Program} {ops : Array Oper} {Q : Exit → Act → World → Prop} {md : Region.Mode} {S : World → Prop} {last : Nat}
theorem wpAnyK_oneW {i : Nat} {o : Oper} {fuel : Nat} {listed : Array Bool} {a : Act} {w : World} (ho : ops[i]? = some o) (hw : Region.wanted o (yielded ops a.tmps) = true) (hr : Region.ready md ops listed = [i])
  (h : ∀ K' : Act → World → Prop, Shut (∀ a w, (i ≠ last → S w) → ((i ≠ last → S w) → wpAnyK P md ops Q S last fuel (listed.setIfInBounds i true) a w) → K' a w) → Oper.wp P o a w K' Q) :
  wpAnyK P md ops Q S last (fuel + 1) listed a w := by
 refine ⟨fun h0 => (by rw [hr] at h0; cases h0), fun j hj => ?_⟩
 rw [hr] at hj
 obtain rfl : j = i := by simpa using hj
 refine wpOp_step ho fun K' hK => ?_
 rw [if_pos hw]
 exact h K' (fun a w hS hW => hK a w ⟨hS, hW hS⟩)
theorem wpAnyK_bothW {i j : Nat} {oi oj : Oper} {fuel : Nat} {listed : Array Bool} {a : Act} {w : World} (hoi : ops[i]? = some oi) (hoj : ops[j]? = some oj) (hgi : Region.wanted oi (yielded ops a.tmps) = true) (hgj : Region.wanted oj (yielded ops a.tmps) = true) (hr : Region.ready md ops listed = [i, j])
  (h1 : ∀ K' : Act → World → Prop, Shut (∀ a w, (i ≠ last → S w) → ((i ≠ last → S w) → wpAnyK P md ops Q S last fuel (listed.setIfInBounds i true) a w) → K' a w) → Oper.wp P oi a w K' Q)
  (h2 : ∀ K' : Act → World → Prop, Shut (∀ a w, (j ≠ last → S w) → ((j ≠ last → S w) → wpAnyK P md ops Q S last fuel (listed.setIfInBounds j true) a w) → K' a w) → Oper.wp P oj a w K' Q) :
  wpAnyK P md ops Q S last (fuel + 1) listed a w := by
 refine ⟨fun h0 => (by rw [hr] at h0; cases h0), fun k hk => ?_⟩
 rw [hr] at hk
 rcases List.mem_cons.1 hk with rfl | hk
 ·refine wpOp_step hoi fun K' hK => ?_
  rw [if_pos hgi]
  exact h1 K' (fun a w hS hW => hK a w ⟨hS, hW hS⟩)
 ·obtain rfl : k = j := by simpa using hk
  refine wpOp_step hoj fun K' hK => ?_
  rw [if_pos hgj]
  exact h2 K' (fun a w hS hW => hK a w ⟨hS, hW hS⟩)
end
end Lx
end Go.Proofs.YtiocmiikghcoaaaGreatDoor
namespace Go.Proofs.YtiocmiikghcoaaaGreatDoor
open Go Go.RowKit
namespace Lx
set_option maxRecDepth 100000
section
variable {P : Program} {ops : Array Oper} {Q : Exit → Act → World → Prop} {md : Region.Mode} {S : World → Prop} {last : Nat}
theorem wpAnyK_both {i j : Nat} {oi oj : Oper} {fuel : Nat} {listed : Array Bool} {a : Act} {w : World} (hoi : ops[i]? = some oi) (hoj : ops[j]? = some oj) (hgi : oi.guard = none) (hgj : oj.guard = none) (hr : Region.ready md ops listed = [i, j])
  (h1 : ∀ K' : Act → World → Prop, Shut (∀ a w, (i ≠ last → S w) → ((i ≠ last → S w) → wpAnyK P md ops Q S last fuel (listed.setIfInBounds i true) a w) → K' a w) → Oper.wp P oi a w K' Q)
  (h2 : ∀ K' : Act → World → Prop, Shut (∀ a w, (j ≠ last → S w) → ((j ≠ last → S w) → wpAnyK P md ops Q S last fuel (listed.setIfInBounds j true) a w) → K' a w) → Oper.wp P oj a w K' Q) :
  wpAnyK P md ops Q S last (fuel + 1) listed a w := by
 refine ⟨fun h0 => (by rw [hr] at h0; cases h0), fun k hk => ?_⟩
 rw [hr] at hk
 rcases List.mem_cons.1 hk with rfl | hk
 ·refine wpOp_step hoi fun K' hK => ?_
  rw [if_pos (by simp [Region.wanted, hgi])]
  exact h1 K' (fun a w hS hW => hK a w ⟨hS, hW hS⟩)
 ·obtain rfl : k = j := by simpa using hk
  refine wpOp_step hoj fun K' hK => ?_
  rw [if_pos (by simp [Region.wanted, hgj])]
  exact h2 K' (fun a w hS hW => hK a w ⟨hS, hW hS⟩)
end
theorem lies_is {w : World} {g n : Nat} {t : TypeId} {cs : Array Value} (h : Lies w g t cs) (hn : cs.size = n) : w.there g 0 n := fun k hk => by
 subst hn
 exact ⟨by rw [Nat.zero_add, h.cell k, Array.getElem?_eq_getElem hk]; rfl, by rw [Nat.zero_add]; exact h.frozen k⟩
theorem lies_set4 {w : World} {g : Nat} {t : TypeId} {a b c d : Value} (h : Lies w g t #[a, b, c, d]) (x y z u : Value) : Lies (w.setCells g 0 [x, y, z, u]) g t #[x, y, z, u] := h.all x y z u
theorem below_cells {B : Nat} {a : World} : ∀ {w : World} (_ : Below B a w) {g : Nat} (_ : B ≤ g) (vs : List Value) (o : Nat), Below B a (w.setCells g o vs)
 | _, h, _, _, [], _ => h
 | _, h, g, hg, v :: vs, o => below_cells (h.setCell (p := ⟨g, o, none⟩) hg v) hg vs (o + 1)
theorem lies_offs {g' : Nat} {t : TypeId} {cs : Array Value} : ∀ {w : World} (_ : Lies w g' t cs) {g : Nat} (_ : g' ≠ g) (vs : List Value) (o : Nat), Lies (w.setCells g o vs) g' t cs
 | _, h, _, _, [], _ => h
 | _, h, g, hg, v :: vs, o => lies_offs (h.far (p := ⟨g, o, none⟩) hg v) hg vs (o + 1)
theorem ein_offs {X : Nat → Prop} {A : Option Addr} (t : Te) : ∀ {w : World} (_ : EIn w X t A) {g : Nat} (_ : ¬ X g) (vs : List Value) (o : Nat), EIn (w.setCells g o vs) X t A
 | _, h, _, _, [], _ => h
 | _, h, g, hg, v :: vs, o => ein_offs t (EIn.setCell t h ⟨g, o, none⟩ v hg) hg vs (o + 1)
theorem elin_offs {X : Nat → Prop} {A : Option Addr} (l : List Te) {i : Nat} {w : World} (h : ELIn w X l A i) {g : Nat} (hg : ¬ X g) (vs : List Value) (o : Nat) : ELIn (w.setCells g o vs) X l A i :=
 ELIn.keep l h fun g' j hX _ => by
  have hne : g' ≠ g := fun e => hg (e ▸ hX)
  refine ⟨?_, hX⟩
  have : ∀ (vs : List Value) (w : World) (o : Nat), (w.setCells g o vs).cell? ⟨g', j, none⟩ = w.cell? ⟨g', j, none⟩ := by
   intro vs
   induction vs with
   | nil => intro w o; rfl
   | cons v vs ih =>
    intro w o
    show ((w.setCell ⟨g, o, none⟩ v).setCells g (o + 1) vs).cell? _ = _
    rw [ih]
    exact World.cell?_setCell_other w ⟨g, o, none⟩ ⟨g', j, none⟩ v (fun e => by injection e with e; exact hne e.symm)
  exact this vs w o
theorem size_cells : ∀ (w : World) (g : Nat) (vs : List Value) (o : Nat), (w.setCells g o vs).heap.size = w.heap.size
 | w, g, [], o => rfl
 | w, g, v :: vs, o => by
  show ((w.setCell ⟨g, o, none⟩ v).setCells g (o + 1) vs).heap.size = _
  rw [size_cells]
  simp [World.setCell]
theorem wp_store_as {P : Program} {op : Oper} {a : Act} {w : World} {K : Act → World → Prop} {Q : Exit → Act → World → Prop} (F : World → Prop) (ty : TypeId) (x y : Operand) (ho : op.op = .store ty x y)
  (b o : Nat) (cells : Array Value) (hx : a.eval x = .pointer (some ⟨b, o, none⟩)) (hy : a.eval y = .agg cells)
  (ht : w.there b o cells.size) (hi : (P.info? ty).map (·.size) = some cells.size) (h1 : cells.all (·.oneCell') = true) (hF : F (w.setCells b o cells.toList))
  (h : ∀ W, F W → K (a.put op.dst undef) W) : op.wp P a w K Q := wp_store_mid ty x y ho b o cells hx hy ht hi h1 (h _ hF)
theorem below_on {a b c : World} (h : Below a.heap.size a b) (k : Below b.heap.size b c) : Below a.heap.size a c := h.trans (k.mono h.size)
end Lx
end Go.Proofs.YtiocmiikghcoaaaGreatDoor
