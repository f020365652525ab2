/-
  Texts that lie one behind the other: RegK OwnLe R7B R7C R7D R7E R7F RcD RcE RcF RBare Ref RefRun RefSign RefOne RefTok.
-/
import Derived.Test.YtobdoahdjbmflaaDoorC10
import Derived.Test.YtobdoahdjbmflaaDoorC1
import Derived.Test.YtobdoahdjbmflaaDoorC3
import Derived.Test.YtobdoahdjbmflaaDoorC6
import Derived.Test.YtobdoahdjbmflaaDoorC4
import Derived.Test.YtobdoahdjbmflaaDoorC8
import Derived.Test.YtobdoahdjbmflaaDoorC2
import Derived.Deep.MidRow
import Derived.Maps.AppendAt
import Derived.Deep.RegionHeld3
import Derived.Deep.DrawnRows
import Derived.Deep.AppendLies
import Derived.OwnWalk
import Derived.Deep.QuietTactic
import Derived.BigQuiet
namespace Go.Proofs.YtobdoahdjbmflaaDoor
open Go Go.RowKit
namespace Lx
set_option maxRecDepth 100000
section
variable {P : Program} {ops : Array Oper} {Q : Exit → Act → World → Prop} {md : Region.Mode} {S : World → Prop} {last : Nat}
/-- Two operations may come up. -/
theorem wpAnyK_both {i j : Nat} {oi oj : Oper} {fuel : Nat} {listed : Array Bool} {a : Act} {w : World} (hoi : ops[i]? = some oi) (hoj : ops[j]? = some oj) (hgi : oi.guard = none) (hgj : oj.guard = none) (hr : Region.ready md ops listed = [i, j])
    (h1 : ∀ K' : Act → World → Prop, Shut (∀ a w, (i ≠ last → S w) → ((i ≠ last → S w) → wpAnyK P md ops Q S last fuel (listed.setIfInBounds i true) a w) → K' a w) → Oper.wp P oi a w K' Q)
    (h2 : ∀ K' : Act → World → Prop, Shut (∀ a w, (j ≠ last → S w) → ((j ≠ last → S w) → wpAnyK P md ops Q S last fuel (listed.setIfInBounds j true) a w) → K' a w) → Oper.wp P oj a w K' Q) :
    wpAnyK P md ops Q S last (fuel + 1) listed a w := by
  refine ⟨fun h0 => (by rw [hr] at h0; cases h0), fun k hk => ?_⟩
  rw [hr] at hk
  rcases List.mem_cons.1 hk with rfl | hk
  · refine wpOp_step hoi fun K' hK => ?_
    rw [if_pos (by simp [Region.wanted, hgi])]
    exact h1 K' (fun a w hS hW => hK a w ⟨hS, hW hS⟩)
  · obtain rfl : k = j := by simpa using hk
    refine wpOp_step hoj fun K' hK => ?_
    rw [if_pos (by simp [Region.wanted, hgj])]
    exact h2 K' (fun a w hS hW => hK a w ⟨hS, hW hS⟩)
end
theorem lies_is {w : World} {g n : Nat} {t : TypeId} {cs : Array Value} (h : Lies w g t cs) (hn : cs.size = n) : w.there g 0 n := fun k hk => by
  subst hn
  exact ⟨by rw [Nat.zero_add, h.cell k, Array.getElem?_eq_getElem hk]; rfl, by rw [Nat.zero_add]; exact h.frozen k⟩
theorem lies_set4 {w : World} {g : Nat} {t : TypeId} {a b c d : Value} (h : Lies w g t #[a, b, c, d]) (x y z u : Value) : Lies (w.setCells g 0 [x, y, z, u]) g t #[x, y, z, u] := h.all x y z u
theorem below_cells {B : Nat} {a : World} : ∀ {w : World} (_ : Below B a w) {g : Nat} (_ : B ≤ g) (vs : List Value) (o : Nat), Below B a (w.setCells g o vs)
  | _, h, _, _, [], _ => h
  | _, h, g, hg, v :: vs, o => below_cells (h.setCell (p := ⟨g, o, none⟩) hg v) hg vs (o + 1)
theorem lies_offs {g' : Nat} {t : TypeId} {cs : Array Value} : ∀ {w : World} (_ : Lies w g' t cs) {g : Nat} (_ : g' ≠ g) (vs : List Value) (o : Nat), Lies (w.setCells g o vs) g' t cs
  | _, h, _, _, [], _ => h
  | _, h, g, hg, v :: vs, o => lies_offs (h.far (p := ⟨g, o, none⟩) hg v) hg vs (o + 1)
theorem ein_offs {X : Nat → Prop} {A : Option Addr} (t : Te) : ∀ {w : World} (_ : EIn w X t A) {g : Nat} (_ : ¬ X g) (vs : List Value) (o : Nat), EIn (w.setCells g o vs) X t A
  | _, h, _, _, [], _ => h
  | _, h, g, hg, v :: vs, o => ein_offs t (EIn.setCell t h ⟨g, o, none⟩ v hg) hg vs (o + 1)
theorem elin_offs {X : Nat → Prop} {A : Option Addr} (l : List Te) {i : Nat} {w : World} (h : ELIn w X l A i) {g : Nat} (hg : ¬ X g) (vs : List Value) (o : Nat) : ELIn (w.setCells g o vs) X l A i :=
  ELIn.keep l h fun g' j hX _ => by
    have hne : g' ≠ g := fun e => hg (e ▸ hX)
    refine ⟨?_, hX⟩
    have : ∀ (vs : List Value) (w : World) (o : Nat), (w.setCells g o vs).cell? ⟨g', j, none⟩ = w.cell? ⟨g', j, none⟩ := by
      intro vs
      induction vs with
      | nil => intro w o; rfl
      | cons v vs ih =>
        intro w o
        show ((w.setCell ⟨g, o, none⟩ v).setCells g (o + 1) vs).cell? _ = _
        rw [ih]
        exact World.cell?_setCell_other w ⟨g, o, none⟩ ⟨g', j, none⟩ v (fun e => by injection e with e; exact hne e.symm)
    exact this vs w o
theorem size_cells : ∀ (w : World) (g : Nat) (vs : List Value) (o : Nat), (w.setCells g o vs).heap.size = w.heap.size
  | w, g, [], o => rfl
  | w, g, v :: vs, o => by
    show ((w.setCell ⟨g, o, none⟩ v).setCells g (o + 1) vs).heap.size = _
    rw [size_cells]
    simp [World.setCell]
/-- A store of a whole struct, the world behind it a letter. -/
theorem wp_store_as {P : Program} {op : Oper} {a : Act} {w : World} {K : Act → World → Prop} {Q : Exit → Act → World → Prop} (F : World → Prop) (ty : TypeId) (x y : Operand) (ho : op.op = .store ty x y)
    (b o : Nat) (cells : Array Value) (hx : a.eval x = .pointer (some ⟨b, o, none⟩)) (hy : a.eval y = .agg cells)
    (ht : w.there b o cells.size) (hi : (P.info? ty).map (·.size) = some cells.size) (h1 : cells.all (·.oneCell') = true) (hF : F (w.setCells b o cells.toList))
    (h : ∀ W, F W → K (a.put op.dst undef) W) : op.wp P a w K Q := wp_store_mid ty x y ho b o cells hx hy ht hi h1 (h _ hF)
theorem below_on {a b c : World} (h : Below a.heap.size a b) (k : Below b.heap.size b c) : Below a.heap.size a c := h.trans (k.mono h.size)
end Lx
end Go.Proofs.YtobdoahdjbmflaaDoor
namespace Go.Proofs.YtobdoahdjbmflaaDoor
open Go.RowKit
namespace Lx
theorem own_le {w : World} {base : Nat} {e : TypeId} {size : Nat} {A : Option Addr} {m c : Nat} {n : Nat} {xs : List Value} (h : w.ownsRow base e size (.slice A m c) n xs) : n ≤ c := by
  rcases h.2 with ⟨h1, rfl⟩ | ⟨g, cap, cur, h1, _, _, hle, _⟩
  · exact Nat.zero_le _
  · injection h1 with _ _ h2
    omega
theorem tv_own {k n pc : Int} {nm : ByteArray} {pl : List Tr} {B : Option Addr} {bc : Nat} (h : pl.length ≤ bc) : Ending.returned (.agg #[.int .i64 k, .string nm, .int .i64 n, .int .i64 pc, .slice B pl.length bc]) = .returned (tv (.node k nm n pc pl) B bc) := by
  unfold tv
  simp only [Tr.kind, Tr.name, Tr.n, Tr.place, Tr.parts]
  rw [capF_of h]
end Lx
end Go.Proofs.YtobdoahdjbmflaaDoor
namespace Go.Proofs.YtobdoahdjbmflaaDoor
open Go.RowKit
namespace Lx
set_option maxRecDepth 100000
end Lx
end Go.Proofs.YtobdoahdjbmflaaDoor
namespace Go.Proofs.YtobdoahdjbmflaaDoor
open Go.RowKit
namespace Lx
set_option maxRecDepth 100000
end Lx
end Go.Proofs.YtobdoahdjbmflaaDoor
namespace Go.Proofs.YtobdoahdjbmflaaDoor
open Go.RowKit
namespace Lx
set_option maxRecDepth 100000
end Lx
end Go.Proofs.YtobdoahdjbmflaaDoor
namespace Go.Proofs.YtobdoahdjbmflaaDoor
open Go.RowKit
namespace Lx
set_option maxRecDepth 100000
end Lx
end Go.Proofs.YtobdoahdjbmflaaDoor
namespace Go.Proofs.YtobdoahdjbmflaaDoor
open Go.RowKit
namespace Lx
set_option maxRecDepth 100000
end Lx
end Go.Proofs.YtobdoahdjbmflaaDoor
namespace Go.Proofs.YtobdoahdjbmflaaDoor
open Go.RowKit
namespace Lx
set_option maxRecDepth 100000
end Lx
end Go.Proofs.YtobdoahdjbmflaaDoor
namespace Go.Proofs.YtobdoahdjbmflaaDoor
open Go.RowKit
namespace Lx
set_option maxRecDepth 100000
theorem own_empty {w : World} {b base : Nat} (h : Lies w b 43 #[]) (hb : base ≤ b) : w.ownsRow base 43 2 (.slice (some ⟨b, 0, none⟩) 0 0) 0 [] :=
  ⟨by simp, .inr ⟨b, 0, #[], rfl, hb, h, Nat.le_refl _, by simp [maxLen], by simp, by simp⟩⟩
theorem cellsA_one (l : List (ByteArray × Int)) : ∀ u ∈ cellsA l, u.oneCell' = true := fun u hu => by
  simp only [cellsA, List.mem_flatMap, List.mem_cons, List.not_mem_nil, or_false] at hu
  obtain ⟨a, _, rfl | rfl⟩ := hu <;> rfl
theorem sizeL_drop_le (l : List Tr) (i : Nat) : sizeL (l.drop i) ≤ sizeL l := by
  induction l generalizing i with
  | nil => simp
  | cons a r ih =>
    cases i with
    | zero => simp
    | succ i => simp only [List.drop_succ_cons, sizeL]; have := ih i; omega
/-- What a function that answers arities answers. -/
def AGive (l : List (ByteArray × Int)) (w : World) (e : Ending) (w' : World) : Prop :=
  ∃ A c, e = .returned (.slice A l.length c) ∧ AIn w' Any l A ∧ Below w.heap.size w w'
end Lx
end Go.Proofs.YtobdoahdjbmflaaDoor
namespace Go.Proofs.YtobdoahdjbmflaaDoor
open Go.RowKit
namespace Lx
set_option maxRecDepth 100000
theorem innerN_len (k n : Int) (s : ByteArray) (i : Nat) (l : List Tr) (b : List ByteArray) (h9 : l.length ≤ 9) (h0 : k = 8 → 0 ≤ n) (hn : k = 8 → n ≤ l.length) : (innerN k n s i l b).length ≤ b.length + 9 := by
  unfold innerN
  split
  · simp
  · split
    · split <;> simp
    · split
      · rename_i h; have := varsN_len l n (h0 h) (hn h); simp only [List.length_append]; omega
      · omega
end Lx
end Go.Proofs.YtobdoahdjbmflaaDoor
namespace Go.Proofs.YtobdoahdjbmflaaDoor
open Go.RowKit
namespace Lx
set_option maxRecDepth 100000
/-- The answer is a tree as a value, its parts in new memory. -/
def GivesT (t : Tr) (w : World) (e : Ending) (w' : World) : Prop :=
  ∃ A c, e = .returned (tv t A c) ∧ TIn w' (fun g => w.heap.size ≤ g) t A ∧ Below w.heap.size w w'
theorem bareT_kind (t : Tr) : (bareT t).kind = t.kind := by cases t; simp [bareT, Tr.kind]
theorem bareT_name (t : Tr) : (bareT t).name = t.name := by cases t; simp [bareT, Tr.name]
theorem bareT_n (t : Tr) : (bareT t).n = t.n := by cases t; simp [bareT, Tr.n]
theorem bareT_place (t : Tr) : (bareT t).place = 0 := by cases t; simp [bareT, Tr.place]
theorem bareL_length (l : List Tr) : (bareL l).length = l.length := by rw [bareL_map]; simp
theorem bareT_parts (t : Tr) : (bareT t).parts.length = t.parts.length := by cases t; simp [bareT, Tr.parts, bareL_length]
theorem tv_bare (t : Tr) (A : Option Addr) (c : Nat) : tv (bareT t) A c = .agg #[.int .i64 t.kind, .string t.name, .int .i64 t.n, .int .i64 0, .slice A t.parts.length (capF t.parts.length c)] := by
  rw [tv, bareT_kind, bareT_name, bareT_n, bareT_place, bareT_parts]
theorem take_snoc_map {α β : Type} (f : α → β) (l : List α) (i : Nat) (h : i < l.length) : (l.take (i + 1)).map f = (l.take i).map f ++ [f (l[i]'h)] := by
  rw [List.take_succ_eq_append_getElem h, List.map_append]; rfl

end Lx
end Go.Proofs.YtobdoahdjbmflaaDoor
namespace Go.Proofs.YtobdoahdjbmflaaDoor
open Go.RowKit
namespace Lx
set_option maxRecDepth 100000
/-- The class of a byte. -/
def clsV (c : Int) : Int := if lowR c = true then 1 else if upR c = true then 2 else if digR c = true then 3 else if blkR c = true then 4 else 0
set_option maxHeartbeats 1000000 in
theorem class_any (c : Int) (w : World) (h0 : 0 ≤ c) (h1 : c ≤ 255) : Calls Tryd.prog 40 #[.int .u8 c] w fun e w' => e = .returned (.int .i64 (clsV c)) ∧ w = w' := by
  have hc : (97 ≤ c ∧ c ≤ 122) ∨ (65 ≤ c ∧ c ≤ 90) ∨ (48 ≤ c ∧ c ≤ 57) ∨ c = 32 ∨ c = 10 ∨ c = 9 ∨ (122 < c) ∨ (90 < c ∧ c < 97) ∨ (57 < c ∧ c < 65) ∨ (32 < c ∧ c < 48) ∨ (10 < c ∧ c < 32) ∨ c < 9 := by omega
  rcases hc with ⟨a, b⟩ | ⟨a, b⟩ | ⟨a, b⟩ | rfl | rfl | rfl | a | ⟨a, b⟩ | ⟨a, b⟩ | ⟨a, b⟩ | ⟨a, b⟩ | a
  all_goals
    try have n1 : (c == 32) = false := by simp; omega
    try have n2 : (c == 10) = false := by simp; omega
    try have n3 : (c == 9) = false := by simp; omega
    go_enter Tryd.func40, Tryd.ntmps40
    go_wp2
  all_goals
    go_ret
    refine ⟨ret_int ?_, rfl⟩
    first
      | rfl
      | (simp [clsV, lowR, upR, digR, blkR, *]; done)
      | (have e1 : lowR c = false := by simp [lowR]; omega
         have e2 : upR c = false := by simp [upR]; omega
         have e3 : digR c = false := by simp [digR]; omega
         have e4 : blkR c = false := by simp [blkR]; omega
         simp [clsV, e1, e2, e3, e4]; done)
      | (have e1 : lowR c = false := by simp [lowR]; omega
         have e2 : upR c = false := by simp [upR]; omega
         have e3 : digR c = true := by simp [digR]; omega
         simp [clsV, e1, e2, e3]; done)
      | (have e1 : lowR c = false := by simp [lowR]; omega
         have e2 : upR c = true := by simp [upR]; omega
         simp [clsV, e1, e2]; done)

theorem rword_any (s : ByteArray) (w : World) : Calls Tryd.prog 69 #[.string s] w fun e w' => e = .returned (.bool (wordS s.data.toList)) ∧ w = w' := by
  go_enter Tryd.func69, Tryd.ntmps69
  go_wp2
  all_goals
    go_ret
    refine ⟨ret_bool ?_, rfl⟩
    rw [← data_list]
    simp_all [wordS, Bool.or_assoc]

set_option maxHeartbeats 1000000 in
theorem rnumber_any (s : ByteArray) (w : World) (hd : run digR s.data.toList = s.data.toList.length) (h18 : s.size ≤ 18) :
    Calls Tryd.prog 68 #[.string s] w fun e w' => e = .returned (.int .i64 (numV s.data.toList)) ∧ w = w' := by
  have HD := Lib.hid hd
  clear hd
  go_enter Tryd.func68, Tryd.ntmps68
  go_wp2_with fail
  go_loop [3, 4] (fun n a => ∃ k : Nat, k ≤ s.size ∧ a = .int .i64 k ∧ n = .int .i64 (numV (s.data.toList.take k))) (fun _ a => s.size - (intOf a).toNat)
  case atStart => exact ⟨0, Nat.zero_le _, rfl, rfl⟩
  case round =>
    obtain ⟨k, hk, rfl, rfl⟩ := hrel
    by_cases hlt : k < s.size
    · have hlen : k < s.data.toList.length := by simpa using hlt
      have hb : s.data.toList[k]'hlen = s[k] := by simp [ByteArray.getElem_eq_getElem_data]
      have hmem := dig_of digR _ HD.out (s.data.toList[k]'hlen) (List.getElem_mem hlen)
      have HS := Lib.hid (take_snoc s.data.toList k hlen)
      have hbd := numV_bd k (s.data.toList.take k) (by simp; omega) (fun c hc => dig_of digR _ HD.out c (List.mem_of_mem_take hc))
      have hp := pow_le17 k (by omega)
      rw [hb] at hmem HS
      have hd2 : 48 ≤ ((s[k]'hlt).toNat : Int) ∧ ((s[k]'hlt).toNat : Int) ≤ 57 := by simpa [digR] using hmem
      obtain ⟨hd3, hd4⟩ := hd2
      obtain ⟨hb3, hb4⟩ := hbd
      have hb5 : numV (s.data.toList.take k) ≤ 100000000000000000 := by omega
      clear hp hb4 hmem hb
      obtain ⟨N, hN⟩ : ∃ N, N = numV (s.data.toList.take k) := ⟨_, rfl⟩
      rw [← hN] at hb3 hb5 ⊢
      have HNN := Lib.hid hN
      clear hN
      go_wp2_with fail
      go_round
      case rel =>
        refine ⟨k + 1, by omega, by go_num, congrArg (Value.int .i64) ?_⟩
        rw [HS.out, numV_snoc, ← HNN.out]
        omega
      case measure => simp [intOf]; omega
    · go_wp2_with fail
      go_ret
      refine ⟨ret_int ?_, rfl⟩
      rw [List.take_of_length_le (by simp; omega)]
end Lx
end Go.Proofs.YtobdoahdjbmflaaDoor
namespace Go.Proofs.YtobdoahdjbmflaaDoor
open Go.RowKit
namespace Lx
set_option maxRecDepth 100000
theorem run_pos2 {P : Int → Bool} {c : UInt8} {q : List UInt8} (h : 0 < run P (c :: q)) : P (c.toNat : Int) = true := by
  by_cases hc : P (c.toNat : Int) = true
  · exact hc
  · simp [run, hc] at h
theorem run_lt_at (P : Int → Bool) : ∀ (l : List UInt8) (m : Nat), m < run P l → ∃ h : m < l.length, P ((l[m]'h).toNat : Int) = true
  | [], m, h => by simp [run] at h
  | c :: l, 0, h => ⟨by simp, run_pos2 h⟩
  | c :: l, m + 1, h => by
    cases hc : P (c.toNat : Int)
    · simp [run, hc] at h
    · simp [run, hc] at h
      obtain ⟨h1, h2⟩ := run_lt_at P l m h
      exact ⟨by simp; omega, by simpa using h2⟩
theorem run_stop_at (P : Int → Bool) : ∀ (l : List UInt8) (h : run P l < l.length), P ((l[run P l]'h).toNat : Int) = false
  | [], h => by simp at h
  | c :: l, h => by
    cases hc : P (c.toNat : Int)
    · simp [run, hc]
    · have h1 : run P l < l.length := by simp [run, hc] at h; omega
      have := run_stop_at P l h1
      simpa [run, hc] using this
theorem run_min (P Q : Int → Bool) (hPQ : ∀ x, P x = true → Q x = true) : ∀ l : List UInt8, run P l ≤ run Q l
  | [] => by simp [run]
  | c :: l => by
    have := run_min P Q hPQ l
    cases hc : P (c.toNat : Int)
    · simp [run, hc]
    · simp [run, hc, hPQ _ hc, this]

set_option maxHeartbeats 2000000 in
theorem rrun_any (s : ByteArray) (k : Nat) (w : World) (hk : k ≤ s.size) (hs : s.size ≤ 140737488351232) :
    Calls Tryd.prog 66 #[.string s, .int .i64 k] w fun e w' => e = .returned (.tuple #[.int .i64 (run ldR (s.data.toList.drop k)), .bool (decide (run digR (s.data.toList.drop k) < run ldR (s.data.toList.drop k)))]) ∧ w = w' := by
  obtain ⟨D, hD⟩ : ∃ D, D = s.data.toList.drop k := ⟨_, rfl⟩
  have hDl : D.length = s.size - k := by rw [hD, List.length_drop, Lib.size_eq]
  have hle := run_le ldR D
  rw [← hD]
  have HD := Lib.hid hD
  have HDL := Lib.hid hDl
  rw [hDl] at hle
  clear hD hDl
  go_enter Tryd.func66, Tryd.ntmps66
  go_wp2_with fail
  go_loop [6, 7] (fun a b => ∃ m : Nat, m ≤ run ldR D ∧ a = .int .i64 m ∧ b = .bool (decide (run digR D < m))) (fun a _ => s.size - (intOf a).toNat)
  case atStart => exact ⟨0, Nat.zero_le _, rfl, by simp⟩
  case round =>
    obtain ⟨m, hm, rfl, rfl⟩ := hrel
    by_cases hlt : k + m < s.size
    · have hmD : m < D.length := by rw [HDL.out]; omega
      obtain ⟨c, hc⟩ : ∃ c, c = s[k + m]'hlt := ⟨_, rfl⟩
      have hcD : D[m]'hmD = c := by
        rw [hc]
        have h1 : D[m]'hmD = (s.data.toList.drop k)[m]'(by rw [← HD.out]; exact hmD) := by congr 1
        rw [h1, List.getElem_drop]
        simp [ByteArray.getElem_eq_getElem_data]
      have hb0 : s[k + m]'hlt = c := hc.symm
      have HCD := Lib.hid hcD
      clear hc hcD
      have hcn : (c.toNat : Int) ≤ 255 := by have := c.toNat_lt; omega
      by_cases hin : m < run ldR D
      · obtain ⟨h1, h2⟩ := run_lt_at ldR D m hin
        rw [HCD.out] at h2
        by_cases hdg : digR (c.toNat : Int) = true
        · have hcl : clsV (c.toNat : Int) = 3 := by
            simp only [digR, Bool.and_eq_true, decide_eq_true_eq] at hdg
            have e1 : lowR (c.toNat : Int) = false := by simp [lowR]; omega
            have e2 : upR (c.toNat : Int) = false := by simp [upR]; omega
            have e3 : digR (c.toNat : Int) = true := by simp [digR, hdg]
            simp [clsV, e1, e2, e3]
          have HCL := Lib.hid hcl
          have HDG := Lib.hid hdg
          clear hcl hdg h2
          cases hL : decide (run digR D < m)
          all_goals
            go_wp2_with fail
            refine (class_any _ _ (by omega) hcn).mono ?_
            rintro e w' ⟨rfl, rfl⟩
            rw [HCL.out]
            go_wp2_with fail
            go_round
            case rel =>
              refine ⟨m + 1, by omega, by go_num, congrArg Value.bool ?_⟩
              have h3 : run digR D ≠ m := by
                intro e
                have := run_stop_at digR D (by rw [e]; exact hmD)
                simp only [e] at this
                rw [HCD.out, HDG.out] at this
                cases this
              simp at hL ⊢
              omega
            case measure => simp [intOf]; omega
        · have hno : run digR D ≤ m := by
            rcases Nat.lt_or_ge m (run digR D) with h3 | h3
            · obtain ⟨_, h4⟩ := run_lt_at digR D m h3
              rw [HCD.out] at h4
              exact absurd h4 hdg
            · exact h3
          have hcl : clsV (c.toNat : Int) = 1 ∨ clsV (c.toNat : Int) = 2 := by
            simp only [ldR, Bool.or_eq_true] at h2
            cases e1 : lowR (c.toNat : Int)
            · cases e2 : upR (c.toNat : Int)
              · rw [e1, e2] at h2
                simp at h2
                exact absurd h2 hdg
              · right; simp [clsV, e1, e2]
            · left; simp [clsV, e1]
          clear hdg h2
          rcases hcl with hcl | hcl
          all_goals
            have HCL := Lib.hid hcl
            clear hcl
            cases hL : decide (run digR D < m)
            all_goals
              go_wp2_with fail
              refine (class_any _ _ (by omega) hcn).mono ?_
              rintro e w' ⟨rfl, rfl⟩
              rw [HCL.out]
              go_wp2_with fail
              go_round
              case rel =>
                refine ⟨m + 1, by omega, by go_num, congrArg Value.bool ?_⟩
                simp
                omega
              case measure => simp [intOf]; omega
      · have hme : m = run ldR D := by omega
        have hst := run_stop_at ldR D (by rw [← hme]; exact hmD)
        simp only [← hme] at hst
        rw [HCD.out] at hst
        have hcl : clsV (c.toNat : Int) = 4 ∨ clsV (c.toNat : Int) = 0 := by
          simp only [ldR, Bool.or_eq_false_iff] at hst
          obtain ⟨e1, e2, e3⟩ := hst
          cases e4 : blkR (c.toNat : Int)
          · right; simp [clsV, e1, e2, e3, e4]
          · left; simp [clsV, e1, e2, e3, e4]
        have HME := Lib.hid hme
        clear hst hme
        rcases hcl with hcl | hcl
        all_goals
          have HCL := Lib.hid hcl
          clear hcl
          go_wp2_with fail
          refine (class_any _ _ (by omega) hcn).mono ?_
          rintro e w' ⟨rfl, rfl⟩
          rw [HCL.out]
          go_wp2_with fail
          go_ret2
          have hme := HME.out
          subst hme
          exact ⟨rfl, rfl⟩
    · go_wp2_with fail
      go_ret2
      have : m = run ldR D := by omega
      subst this
      exact ⟨rfl, rfl⟩
end Lx
end Go.Proofs.YtobdoahdjbmflaaDoor
namespace Go.Proofs.YtobdoahdjbmflaaDoor
open Go.RowKit
namespace Lx
set_option maxRecDepth 100000
def ones : List UInt8 := [92, 46, 40, 41, 61, 123, 125, 124, 43, 45, 42, 47, 60]
theorem one_at (k : Nat) (h : k < 13) (w : World) : (Instr.index 9 (.string ⟨#[92, 46, 40, 41, 61, 123, 125, 124, 43, 45, 42, 47, 60]⟩) (.int .i64 k)).run Tryd.prog w = .ok (.int .u8 ((ones.getD k 0).toNat : Int)) w := by
  have i0 : (Instr.index 9 (.string ⟨#[92, 46, 40, 41, 61, 123, 125, 124, 43, 45, 42, 47, 60]⟩) (.int .i64 0)).run Tryd.prog w = .ok (.int .u8 ((ones.getD 0 0).toNat : Int)) w := by kernel_rfl
  have i1 : (Instr.index 9 (.string ⟨#[92, 46, 40, 41, 61, 123, 125, 124, 43, 45, 42, 47, 60]⟩) (.int .i64 1)).run Tryd.prog w = .ok (.int .u8 ((ones.getD 1 0).toNat : Int)) w := by kernel_rfl
  have i2 : (Instr.index 9 (.string ⟨#[92, 46, 40, 41, 61, 123, 125, 124, 43, 45, 42, 47, 60]⟩) (.int .i64 2)).run Tryd.prog w = .ok (.int .u8 ((ones.getD 2 0).toNat : Int)) w := by kernel_rfl
  have i3 : (Instr.index 9 (.string ⟨#[92, 46, 40, 41, 61, 123, 125, 124, 43, 45, 42, 47, 60]⟩) (.int .i64 3)).run Tryd.prog w = .ok (.int .u8 ((ones.getD 3 0).toNat : Int)) w := by kernel_rfl
  have i4 : (Instr.index 9 (.string ⟨#[92, 46, 40, 41, 61, 123, 125, 124, 43, 45, 42, 47, 60]⟩) (.int .i64 4)).run Tryd.prog w = .ok (.int .u8 ((ones.getD 4 0).toNat : Int)) w := by kernel_rfl
  have i5 : (Instr.index 9 (.string ⟨#[92, 46, 40, 41, 61, 123, 125, 124, 43, 45, 42, 47, 60]⟩) (.int .i64 5)).run Tryd.prog w = .ok (.int .u8 ((ones.getD 5 0).toNat : Int)) w := by kernel_rfl
  have i6 : (Instr.index 9 (.string ⟨#[92, 46, 40, 41, 61, 123, 125, 124, 43, 45, 42, 47, 60]⟩) (.int .i64 6)).run Tryd.prog w = .ok (.int .u8 ((ones.getD 6 0).toNat : Int)) w := by kernel_rfl
  have i7 : (Instr.index 9 (.string ⟨#[92, 46, 40, 41, 61, 123, 125, 124, 43, 45, 42, 47, 60]⟩) (.int .i64 7)).run Tryd.prog w = .ok (.int .u8 ((ones.getD 7 0).toNat : Int)) w := by kernel_rfl
  have i8 : (Instr.index 9 (.string ⟨#[92, 46, 40, 41, 61, 123, 125, 124, 43, 45, 42, 47, 60]⟩) (.int .i64 8)).run Tryd.prog w = .ok (.int .u8 ((ones.getD 8 0).toNat : Int)) w := by kernel_rfl
  have i9 : (Instr.index 9 (.string ⟨#[92, 46, 40, 41, 61, 123, 125, 124, 43, 45, 42, 47, 60]⟩) (.int .i64 9)).run Tryd.prog w = .ok (.int .u8 ((ones.getD 9 0).toNat : Int)) w := by kernel_rfl
  have i10 : (Instr.index 9 (.string ⟨#[92, 46, 40, 41, 61, 123, 125, 124, 43, 45, 42, 47, 60]⟩) (.int .i64 10)).run Tryd.prog w = .ok (.int .u8 ((ones.getD 10 0).toNat : Int)) w := by kernel_rfl
  have i11 : (Instr.index 9 (.string ⟨#[92, 46, 40, 41, 61, 123, 125, 124, 43, 45, 42, 47, 60]⟩) (.int .i64 11)).run Tryd.prog w = .ok (.int .u8 ((ones.getD 11 0).toNat : Int)) w := by kernel_rfl
  have i12 : (Instr.index 9 (.string ⟨#[92, 46, 40, 41, 61, 123, 125, 124, 43, 45, 42, 47, 60]⟩) (.int .i64 12)).run Tryd.prog w = .ok (.int .u8 ((ones.getD 12 0).toNat : Int)) w := by kernel_rfl
  match k, h with
  | 0, _ => exact i0
  | 1, _ => exact i1
  | 2, _ => exact i2
  | 3, _ => exact i3
  | 4, _ => exact i4
  | 5, _ => exact i5
  | 6, _ => exact i6
  | 7, _ => exact i7
  | 8, _ => exact i8
  | 9, _ => exact i9
  | 10, _ => exact i10
  | 11, _ => exact i11
  | 12, _ => exact i12
/-- How long the sign at the beginning is; 0: there is none. -/
def sgnV (l : List UInt8) : Nat := match signOf l with | some g => g.length | none => 0
def twoV (c : UInt8) (r : List UInt8) : Bool := (c == 45 && r.head? == some 62) || (c == 61 && r.head? == some 61)
def inV (c : UInt8) : Int := if ones.contains c = true then 1 else 0
theorem sgn_cons (c : UInt8) (r : List UInt8) : sgnV (c :: r) = if twoV c r = true then 2 else if ones.contains c = true then 1 else 0 := by
  unfold sgnV signOf signsS
  simp only [Lib.hasPrefix]
  by_cases h1 : c = 45
  · subst h1
    cases r with
    | nil => rfl
    | cons d q =>
      by_cases h2 : d = 62
      · subst h2; rfl
      · have e : ((62 : UInt8) == d) = false := by simpa using fun h => h2 h.symm
        have e2 : (d == (62 : UInt8)) = false := by simpa using h2
        simp [List.find?, List.isPrefixOf, e, twoV, ones, h2]
  · by_cases h2 : c = 61
    · subst h2
      cases r with
      | nil => rfl
      | cons d q =>
        by_cases h3 : d = 61
        · subst h3; rfl
        · have e : ((61 : UInt8) == d) = false := by simpa using fun h => h3 h.symm
          simp [List.find?, List.isPrefixOf, e, twoV, ones, h3]
    · have e1 : ((45 : UInt8) == c) = false := by simpa using fun h => h1 h.symm
      have e2 : ((61 : UInt8) == c) = false := by simpa using fun h => h2 h.symm
      have et : twoV c r = false := by simp [twoV, h1, h2]
      rw [et]
      by_cases a1 : c = 92
      · subst a1; simp [List.find?, List.isPrefixOf, ones]
      by_cases a2 : c = 46
      · subst a2; simp [List.find?, List.isPrefixOf, ones]
      by_cases a3 : c = 40
      · subst a3; simp [List.find?, List.isPrefixOf, ones]
      by_cases a4 : c = 41
      · subst a4; simp [List.find?, List.isPrefixOf, ones]
      by_cases a5 : c = 123
      · subst a5; simp [List.find?, List.isPrefixOf, ones]
      by_cases a6 : c = 125
      · subst a6; simp [List.find?, List.isPrefixOf, ones]
      by_cases a7 : c = 124
      · subst a7; simp [List.find?, List.isPrefixOf, ones]
      by_cases a8 : c = 43
      · subst a8; simp [List.find?, List.isPrefixOf, ones]
      by_cases a9 : c = 42
      · subst a9; simp [List.find?, List.isPrefixOf, ones]
      by_cases a10 : c = 47
      · subst a10; simp [List.find?, List.isPrefixOf, ones]
      by_cases a11 : c = 60
      · subst a11; simp [List.find?, List.isPrefixOf, ones]
      have n : ∀ x : UInt8, c ≠ x → (x == c) = false := fun x h => by simpa using fun h' => h h'.symm
      simp [List.find?, List.isPrefixOf, ones, e1, e2, n _ a1, n _ a2, n _ a3, n _ a4, n _ a5, n _ a6, n _ a7, n _ a8, n _ a9, n _ a10, n _ a11, a1, a2, a3, a4, a5, a6, a7, a8, a9, a10, a11, h1, h2]

theorem u8_eq (c x : UInt8) : ((x.toNat : Int) == (c.toNat : Int)) = decide (x = c) := by
  rw [Bool.eq_iff_iff]
  simp only [beq_iff_eq, decide_eq_true_eq]
  constructor
  · intro h; apply UInt8.toNat_inj.1; omega
  · rintro rfl; rfl
theorem none_of (c : UInt8) (h : ∀ j, j < 13 → ones.getD j 0 ≠ c) : ones.contains c = false := by
  have h0 := h 0 (by omega)
  have h1 := h 1 (by omega)
  have h2 := h 2 (by omega)
  have h3 := h 3 (by omega)
  have h4 := h 4 (by omega)
  have h5 := h 5 (by omega)
  have h6 := h 6 (by omega)
  have h7 := h 7 (by omega)
  have h8 := h 8 (by omega)
  have h9 := h 9 (by omega)
  have h10 := h 10 (by omega)
  have h11 := h 11 (by omega)
  have h12 := h 12 (by omega)
  simp only [ones, List.getD_cons_zero, List.getD_cons_succ] at h0 h1 h2 h3 h4 h5 h6 h7 h8 h9 h10 h11 h12
  simp [ones, Ne.symm h0, Ne.symm h1, Ne.symm h2, Ne.symm h3, Ne.symm h4, Ne.symm h5, Ne.symm h6, Ne.symm h7, Ne.symm h8, Ne.symm h9, Ne.symm h10, Ne.symm h11, Ne.symm h12]
theorem some_of (c : UInt8) (j : Nat) (hj : j < 13) (h : ones.getD j 0 = c) : ones.contains c = true := by
  rw [← h, List.getD_eq_getElem?_getD, List.getElem?_eq_getElem (show j < ones.length from hj)]
  simp

set_option maxHeartbeats 2000000 in
theorem rsign_loop (s : ByteArray) (k : Nat) (c : UInt8) (w : World) (hk : k < s.size) (hs : s.size ≤ 140737488351232) (hc : s[k]'hk = c)
    (h2 : s.size ≤ k + 1 ∨ (k + 1 < s.size ∧ ∃ d, (s.extract k (k + 2)).toList = [c, d] ∧ ([c, d] == [45, 62]) = false ∧ ([c, d] == [61, 61]) = false)) :
    Calls Tryd.prog 67 #[.string s, .int .i64 k] w fun e w' => e = .returned (.int .i64 (inV c)) ∧ ∃ q, w' = w.drewN q := by
  have i0 : (0 : Int) ≤ (k : Int) := by omega
  have i1 : (k : Int) < (s.size : Int) := by omega
  rcases h2 with h2 | ⟨h2, d, hcut, n1, n2⟩
  all_goals
    first
      | (have h3 : ¬ (k : Int) + 1 < (s.size : Int) := by omega)
      | (have h3 : (k : Int) + 1 < (s.size : Int) := by omega
         have e1 : (k : Int) + 2 ≤ (s.size : Int) := by omega
         have e2 : (0 : Int) ≤ (k : Int) + 2 := by omega
         have e3 : (k : Int) ≤ (k : Int) + 2 := by omega)
    go_enter Tryd.func67, Tryd.ntmps67
    go_wp2_with fail
    go_loopw [5] (fun v wr => ∃ (j q : Nat), j ≤ 13 ∧ v = .int .i64 j ∧ wr = w.drewN q ∧ Hid (∀ x, x < j → ones.getD x 0 ≠ c)) (fun v _ => 13 - (intOf v).toNat)
    case atStart => exact ⟨0, 0, by omega, rfl, rfl, fun x hx => by omega⟩
    case round =>
      obtain ⟨j, q, hj, rfl, rfl, HQ⟩ := hrel
      by_cases hlt : j < 13
      · have hix := fun W => one_at j hlt W
        by_cases hq : ones.getD j 0 = c
        · have HC := Lib.hid (some_of c j hlt hq)
          have heq : (((ones.getD j 0).toNat : Int) == (c.toNat : Int)) = true := by rw [u8_eq]; simpa using hq
          generalize ones.getD j 0 = b at hix heq
          clear hq
          go_wp2_with fail
          go_quiet (fail)
          go_wp2_with fail
          go_ret
          refine ⟨ret_int ?_, q + nq, by first | rfl | rw [World.drewN_drewN]⟩
          unfold inV; rw [HC.out]; rfl
        · have HN := Lib.hid hq
          have heq : (((ones.getD j 0).toNat : Int) == (c.toNat : Int)) = false := by rw [u8_eq]; simpa using hq
          have HNJ : Hid (∀ x, x < j + 1 → ones.getD x 0 ≠ c) := fun x hx => by
            rcases Nat.lt_or_ge x j with h | h
            · exact HQ.out x h
            · obtain rfl : x = j := by omega
              exact HN.out
          clear hq HN
          generalize ones.getD j 0 = b at hix heq
          go_wp2_with fail
          go_quiet (fail)
          go_wp2_with fail
          go_roundw
          case rel => exact ⟨j + 1, q + nq, by omega, by go_num, by first | rfl | rw [World.drewN_drewN], HNJ⟩
          case measure => simp [intOf]; omega
      · go_wp2_with fail
        go_ret
        obtain rfl : j = 13 := by omega
        refine ⟨ret_int ?_, q, rfl⟩
        unfold inV; rw [none_of c HQ.out]; rfl

set_option maxHeartbeats 1000000 in
theorem rsign_two (s : ByteArray) (k : Nat) (c d : UInt8) (w : World) (hk : k + 1 < s.size) (hs : s.size ≤ 140737488351232)
    (hcut : (s.extract k (k + 2)).toList = [c, d]) (h : (c = 45 ∧ d = 62) ∨ (c = 61 ∧ d = 61)) :
    Calls Tryd.prog 67 #[.string s, .int .i64 k] w fun e w' => e = .returned (.int .i64 2) ∧ w = w' := by
  have i0 : (0 : Int) ≤ (k : Int) := by omega
  have i1 : (k : Int) < (s.size : Int) := by omega
  have h3 : (k : Int) + 1 < (s.size : Int) := by omega
  have e1 : (k : Int) + 2 ≤ (s.size : Int) := by omega
  have e2 : (0 : Int) ≤ (k : Int) + 2 := by omega
  have e3 : (k : Int) ≤ (k : Int) + 2 := by omega
  rcases h with ⟨rfl, rfl⟩ | ⟨rfl, rfl⟩
  all_goals
    go_enter Tryd.func67, Tryd.ntmps67
    go_wp2_with fail
    go_ret
    exact ⟨rfl, rfl⟩

theorem rsign_any (s : ByteArray) (k : Nat) (w : World) (hk : k < s.size) (hs : s.size ≤ 140737488351232) :
    Calls Tryd.prog 67 #[.string s, .int .i64 k] w fun e w' => e = .returned (.int .i64 (sgnV (s.data.toList.drop k))) ∧ ∃ q, w' = w.drewN q := by
  have hlen : k < s.data.toList.length := by simpa using hk
  have hb : s.data.toList[k]'hlen = s[k]'hk := by simp [ByteArray.getElem_eq_getElem_data]
  have hD := List.drop_eq_getElem_cons hlen
  rw [hb] at hD
  by_cases h1 : k + 1 < s.size
  · have hlen1 : k + 1 < s.data.toList.length := by simpa using h1
    have hb1 : s.data.toList[k + 1]'hlen1 = s[k + 1]'h1 := by simp [ByteArray.getElem_eq_getElem_data]
    have hD1 := List.drop_eq_getElem_cons hlen1
    rw [hb1] at hD1
    rw [hD1] at hD
    have hcut : (s.extract k (k + 2)).toList = [s[k]'hk, s[k + 1]'h1] := by
      rw [data_list, Lib.extract_data, show k + 2 - k = 2 from by omega, hD]; rfl
    by_cases ht : (s[k]'hk = 45 ∧ s[k + 1]'h1 = 62) ∨ (s[k]'hk = 61 ∧ s[k + 1]'h1 = 61)
    · refine (rsign_two s k _ _ w h1 hs hcut ht).mono ?_
      rintro e w' ⟨rfl, rfl⟩
      refine ⟨ret_int ?_, 0, rfl⟩
      rw [hD, sgn_cons, if_pos (by rcases ht with ⟨a, b⟩ | ⟨a, b⟩ <;> simp [twoV, a, b])]
      rfl
    · have n1 : ([s[k]'hk, s[k + 1]'h1] == [45, 62]) = false := by
        simp only [beq_eq_false_iff_ne, ne_eq, List.cons.injEq, and_true]
        exact fun h => ht (.inl h)
      have n2 : ([s[k]'hk, s[k + 1]'h1] == [61, 61]) = false := by
        simp only [beq_eq_false_iff_ne, ne_eq, List.cons.injEq, and_true]
        exact fun h => ht (.inr h)
      refine (rsign_loop s k _ w hk hs rfl (.inr ⟨h1, _, hcut, n1, n2⟩)).mono ?_
      rintro e w' ⟨rfl, hq⟩
      refine ⟨ret_int ?_, hq⟩
      rw [hD, sgn_cons, if_neg (by
        intro h
        apply ht
        simp only [twoV, Bool.or_eq_true, Bool.and_eq_true, beq_iff_eq, List.head?_cons, Option.some.injEq] at h
        exact h)]
      unfold inV; split <;> rfl
  · refine (rsign_loop s k _ w hk hs rfl (.inl (by omega))).mono ?_
    rintro e w' ⟨rfl, hq⟩
    refine ⟨ret_int ?_, hq⟩
    rw [hD, List.drop_eq_nil_of_le (by rw [← Lib.size_eq]; omega), sgn_cons, if_neg (by simp [twoV])]
    unfold inV; split <;> rfl
end Lx
end Go.Proofs.YtobdoahdjbmflaaDoor
namespace Go.Proofs.YtobdoahdjbmflaaDoor
open Go.RowKit
namespace Lx
set_option maxRecDepth 100000
theorem res_tok2 {fn : Func} {p q : Tmp} (h : fn.results = #[.cell p 64, .tmp q]) {tmps : Array Value} {g : Nat} {a b c d : Value} {w : World} (hp : tmps.getD p undef = .pointer (some ⟨g, 0, none⟩)) (L : Lies w g 64 #[a, b, c, d]) :
    (results fn tmps).run Tryd.prog w = .ok (.tuple #[.agg #[a, b, c, d], tmps.getD q undef]) w := by
  have hl := run_loadVar_row (P := Tryd.prog) w g 64 64 #[a, b, c, d] (0, 0) _ L Tryd.underlying64 rfl (by kernel_rfl)
  have hp' : tmps[p]?.getD undef = .pointer (some ⟨g, 0, none⟩) := by simpa using hp
  simp only [results, h]
  simp [hp', asAddr, hl]
theorem cut_mid (s : ByteArray) (k n : Nat) : s.extract k (k + n) = ⟨((s.data.toList.drop k).take n).toArray⟩ := by
  rw [← toBytes (s.extract k (k + n)), Lib.extract_data, show k + n - k = n from by omega]
def noTokR (x : Int) : Value := .tuple #[.agg #[.int .i64 0, .string ⟨#[]⟩, .int .i64 0, .int .i64 0], .int .i64 x]
def tokR (kd n : Int) (t : List UInt8) (k : Nat) : Value := .tuple #[.agg #[.int .i64 kd, .string ⟨t.toArray⟩, .int .i64 n, .int .i64 k], .int .i64 0]

set_option maxHeartbeats 2000000 in
theorem one_sign (s : ByteArray) (k : Nat) (w : World) (hk : k < s.size) (hs : s.size ≤ 140737488351232) (h0 : run ldR (s.data.toList.drop k) = 0) (g : Nat) (hg : sgnV (s.data.toList.drop k) = g) (hg0 : 0 < g) (hle : k + g ≤ s.size) :
    Calls Tryd.prog 41 #[.string s, .int .i64 k] w fun e w' => e = .returned (tokR 5 0 ((s.data.toList.drop k).take g) k) ∧ Below w.heap.size w w' := by
  have HR := Lib.hid (rrun_any s k (w.alloc (.cells #[.int .i64 0, .string ⟨#[]⟩, .int .i64 0, .int .i64 0] 64)) (by omega) hs)
  rw [h0] at HR
  have HS := Lib.hid (rsign_any s k (w.alloc (.cells #[.int .i64 0, .string ⟨#[]⟩, .int .i64 0, .int .i64 0] 64)) hk hs)
  rw [hg] at HS
  have HC := Lib.hid (cut_mid s k g)
  have hg1 : ((g : Int) == 0) = false := by simp; omega
  have e1 : (k : Int) + (g : Int) ≤ (s.size : Int) := by omega
  have e2 : (0 : Int) ≤ (k : Int) + (g : Int) := by omega
  have e3 : (k : Int) ≤ (k : Int) + (g : Int) := by omega
  have e4 : (0 : Int) ≤ (k : Int) := by omega
  clear h0 hg
  unfold tokR
  go_enter Tryd.func41, Tryd.ntmps41
  go_wp2_with fail
  refine HR.out.mono ?_
  rintro e w' ⟨rfl, rfl⟩
  go_wp2_with fail
  refine HS.out.mono ?_
  rintro e w' ⟨rfl, q, rfl⟩
  have hL := (Lies.new w 64 #[.int .i64 0, .string ⟨#[]⟩, .int .i64 0, .int .i64 0]).drewN q
  obtain ⟨⟨c0, c1, c2, c3⟩, f0, f1, f2, f3⟩ := hL.four
  go_wp2_with fail
  refine bodyPost_ret (res_tok2 (p := 4) (q := 5) Tryd.results41 rfl (hL.all _ _ _ _)) rfl ⟨?_, Below.all (below_drewN ((Below.refl _ w).alloc (Nat.le_refl _) _) q) (Nat.le_refl _) _ _ _ _⟩
  rw [HC.out]; rfl
set_option maxHeartbeats 2000000 in
theorem one_none (s : ByteArray) (k : Nat) (w : World) (hk : k < s.size) (hs : s.size ≤ 140737488351232) (h0 : run ldR (s.data.toList.drop k) = 0) (hg : sgnV (s.data.toList.drop k) = 0) :
    Calls Tryd.prog 41 #[.string s, .int .i64 k] w fun e w' => e = .returned (noTokR 10) ∧ Below w.heap.size w w' := by
  have HR := Lib.hid (rrun_any s k (w.alloc (.cells #[.int .i64 0, .string ⟨#[]⟩, .int .i64 0, .int .i64 0] 64)) (by omega) hs)
  rw [h0] at HR
  have HS := Lib.hid (rsign_any s k (w.alloc (.cells #[.int .i64 0, .string ⟨#[]⟩, .int .i64 0, .int .i64 0] 64)) hk hs)
  rw [hg] at HS
  clear h0 hg
  unfold noTokR
  go_enter Tryd.func41, Tryd.ntmps41
  go_wp2_with fail
  refine HR.out.mono ?_
  rintro e w' ⟨rfl, rfl⟩
  go_wp2_with fail
  refine HS.out.mono ?_
  rintro e w' ⟨rfl, q, rfl⟩
  have hL := (Lies.new w 64 #[.int .i64 0, .string ⟨#[]⟩, .int .i64 0, .int .i64 0]).drewN q
  obtain ⟨⟨c0, c1, c2, c3⟩, f0, f1, f2, f3⟩ := hL.four
  go_wp2_with fail
  exact bodyPost_ret (res_tok2 (p := 4) (q := 5) Tryd.results41 rfl (hL.all _ _ _ _)) rfl ⟨rfl, Below.all (below_drewN ((Below.refl _ w).alloc (Nat.le_refl _) _) q) (Nat.le_refl _) _ _ _ _⟩
/-- What the walks of letters and digits share. -/
structure RunAt (s : ByteArray) (k n : Nat) (c : UInt8) (b : Bool) : Prop where
  hk : k < s.size
  hs : s.size ≤ 140737488351232
  hc : s[k]'hk = c
  hn : run ldR (s.data.toList.drop k) = n
  hb : decide (run digR (s.data.toList.drop k) < n) = b
theorem RunAt.le {s : ByteArray} {k n : Nat} {c : UInt8} {b : Bool} (h : RunAt s k n c b) : k + n ≤ s.size := by
  have := run_le ldR (s.data.toList.drop k)
  have h1 := h.hn
  have h2 := h.hk
  rw [List.length_drop, ← Lib.size_eq] at this
  omega
theorem RunAt.run {s : ByteArray} {k n : Nat} {c : UInt8} {b : Bool} (h : RunAt s k n c b) (w : World) :
    Calls Tryd.prog 66 #[.string s, .int .i64 k] w fun e w' => e = .returned (.tuple #[.int .i64 n, .bool b]) ∧ w = w' := by
  refine (rrun_any s k w (by have := h.hk; omega) h.hs).mono ?_
  rintro e w' ⟨rfl, rfl⟩
  exact ⟨by rw [h.hn, h.hb], rfl⟩
theorem u8_bd (c : UInt8) : (0 : Int) ≤ (c.toNat : Int) ∧ (c.toNat : Int) ≤ 255 := by have := c.toNat_lt; omega

set_option maxHeartbeats 2000000 in
theorem one_err (s : ByteArray) (k n : Nat) (c : UInt8) (b : Bool) (w : World) (h : RunAt s k n c b) (hn0 : 0 < n) (x : Int)
    (hx : (digR (c.toNat : Int) = true ∧ b = true ∧ x = 10) ∨ (digR (c.toNat : Int) = true ∧ b = false ∧ 18 < n ∧ x = 11) ∨ (digR (c.toNat : Int) = true ∧ b = false ∧ ¬ 18 < n ∧ 1 < n ∧ c = 48 ∧ x = 11) ∨
      (digR (c.toNat : Int) = false ∧ 16 < n ∧ (clsV (c.toNat : Int) == 3) = false ∧ x = 11)) :
    Calls Tryd.prog 41 #[.string s, .int .i64 k] w fun e w' => e = .returned (noTokR x) ∧ Below w.heap.size w w' := by
  have HR := Lib.hid h.run
  have hle := h.le
  have HC := fun w => class_any (c.toNat : Int) w (u8_bd c).1 (u8_bd c).2
  have hk := h.hk
  have hb0 : s[k]'hk = c := h.hc
  have hs := h.hs
  have hn1 : ((n : Int) == 0) = false := by simp; omega
  have e1 : (k : Int) + (n : Int) ≤ (s.size : Int) := by omega
  have e2 : (0 : Int) ≤ (k : Int) + (n : Int) := by omega
  have e3 : (k : Int) ≤ (k : Int) + (n : Int) := by omega
  have e4 : (0 : Int) ≤ (k : Int) := by omega
  have e5 : (k : Int) < (s.size : Int) := by omega
  have h3 : ∀ hd : digR (c.toNat : Int) = true, clsV (c.toNat : Int) = 3 := fun hd => by
    have a1 : lowR (c.toNat : Int) = false := by simp [digR] at hd; simp [lowR]; omega
    have a2 : upR (c.toNat : Int) = false := by simp [digR] at hd; simp [upR]; omega
    simp [clsV, a1, a2, hd]
  clear h
  unfold noTokR
  rcases hx with ⟨hd, rfl, rfl⟩ | ⟨hd, rfl, g18, rfl⟩ | ⟨hd, rfl, g18, g1, rfl, rfl⟩ | ⟨hd, g16, hc3, rfl⟩
  case inr.inr.inr =>
    have HCC := Lib.hid HC
    have g16' : (16 : Int) < (n : Int) := by omega
    generalize clsV (c.toNat : Int) = v at HCC hc3
    clear HC h3 hd
    go_enter Tryd.func41, Tryd.ntmps41
    go_wp2_with fail
    refine (HR.out _).mono ?_
    rintro e w' ⟨rfl, rfl⟩
    go_wp2_with fail
    refine (HCC.out _).mono ?_
    rintro e w' ⟨rfl, rfl⟩
    have hL := (Lies.new w 64 #[.int .i64 0, .string ⟨#[]⟩, .int .i64 0, .int .i64 0]).old (.cells #[.int .i64 0, .string (s.extract k (k + n)), .int .i64 0, .int .i64 k] 64)
    go_wp2_with fail
    exact bodyPost_ret (res_tok2 (p := 4) (q := 5) Tryd.results41 rfl hL) rfl ⟨rfl, ((Below.refl _ w).alloc (Nat.le_refl _) _).alloc (by simp) _⟩
  all_goals
    rw [h3 hd] at HC
    have HCC := Lib.hid HC
    clear HC h3 hd
    go_enter Tryd.func41, Tryd.ntmps41
    go_wp2_with fail
    refine (HR.out _).mono ?_
    rintro e w' ⟨rfl, rfl⟩
    go_wp2_with fail
    refine (HCC.out _).mono ?_
    rintro e w' ⟨rfl, rfl⟩
    have hL := (Lies.new w 64 #[.int .i64 0, .string ⟨#[]⟩, .int .i64 0, .int .i64 0]).old (.cells #[.int .i64 0, .string (s.extract k (k + n)), .int .i64 0, .int .i64 k] 64)
    go_wp2_with fail
    exact bodyPost_ret (res_tok2 (p := 4) (q := 5) Tryd.results41 rfl hL) rfl ⟨rfl, ((Below.refl _ w).alloc (Nat.le_refl _) _).alloc (by simp) _⟩
set_option maxHeartbeats 2000000 in
theorem one_num (s : ByteArray) (k n : Nat) (c : UInt8) (w : World) (h : RunAt s k n c false) (hn0 : 0 < n) (hd : digR (c.toNat : Int) = true) (h18 : ¬ 18 < n) (h0 : n ≤ 1 ∨ (1 < n ∧ ((c.toNat : Int) == 48) = false)) (hall : run digR ((s.data.toList.drop k).take n) = n) :
    Calls Tryd.prog 41 #[.string s, .int .i64 k] w fun e w' => e = .returned (tokR 3 (numV ((s.data.toList.drop k).take n)) ((s.data.toList.drop k).take n) k) ∧ Below w.heap.size w w' := by
  have HR := Lib.hid h.run
  have hle := h.le
  have HC := fun w => class_any (c.toNat : Int) w (u8_bd c).1 (u8_bd c).2
  have hk := h.hk
  have hb0 : s[k]'hk = c := h.hc
  have hs := h.hs
  have hn1 : ((n : Int) == 0) = false := by simp; omega
  have e1 : (k : Int) + (n : Int) ≤ (s.size : Int) := by omega
  have e2 : (0 : Int) ≤ (k : Int) + (n : Int) := by omega
  have e3 : (k : Int) ≤ (k : Int) + (n : Int) := by omega
  have e4 : (0 : Int) ≤ (k : Int) := by omega
  have e5 : (k : Int) < (s.size : Int) := by omega
  have e6 : ¬ (18 : Int) < (n : Int) := by omega
  have h3 : clsV (c.toNat : Int) = 3 := by
    have a1 : lowR (c.toNat : Int) = false := by simp [digR] at hd; simp [lowR]; omega
    have a2 : upR (c.toNat : Int) = false := by simp [digR] at hd; simp [upR]; omega
    simp [clsV, a1, a2, hd]
  rw [h3] at HC
  have HCC := Lib.hid HC
  obtain ⟨tx, htx⟩ : ∃ tx, tx = s.extract k (k + n) := ⟨_, rfl⟩
  have hdat : tx.data.toList = (s.data.toList.drop k).take n := by rw [htx, Lib.extract_data, show k + n - k = n from by omega]
  have htl : ((s.data.toList.drop k).take n).length = n := by rw [List.length_take, List.length_drop, ← Lib.size_eq]; omega
  have HNm := Lib.hid (fun w => rnumber_any tx w (by rw [hdat, hall, htl]) (by rw [Lib.size_eq, hdat, htl]; omega))
  have HTX : Hid ((⟨((s.data.toList.drop k).take n).toArray⟩ : ByteArray) = tx) := by
    show _ = _
    rw [htx, cut_mid]
  have HDT := Lib.hid hdat
  have HX := Lib.hid htx
  clear h HC h3 hd hdat htx hall htl
  unfold tokR
  rcases h0 with h0 | ⟨h0, h1⟩
  all_goals
    go_enter Tryd.func41, Tryd.ntmps41
    go_wp2_with fail
    refine (HR.out _).mono ?_
    rintro e w' ⟨rfl, rfl⟩
    go_wp2_with fail
    rw [← HX.out]
    refine (HCC.out _).mono ?_
    rintro e w' ⟨rfl, rfl⟩
    go_wp2_with fail
    refine (HNm.out _).mono ?_
    rintro e w' ⟨rfl, rfl⟩
    rw [HDT.out]
    have hL := (Lies.new w 64 #[.int .i64 3, .string tx, .int .i64 (numV ((s.data.toList.drop k).take n)), .int .i64 k]).old (.cells #[.int .i64 3, .string tx, .int .i64 (numV ((s.data.toList.drop k).take n)), .int .i64 k] 64)
    go_wp2_with fail
    exact bodyPost_ret (res_tok2 (p := 4) (q := 5) Tryd.results41 rfl hL) rfl ⟨by rw [HTX.out]; rfl, ((Below.refl _ w).alloc (Nat.le_refl _) _).alloc (by simp) _⟩
set_option maxHeartbeats 2000000 in
theorem one_word (s : ByteArray) (k n : Nat) (c : UInt8) (b : Bool) (w : World) (h : RunAt s k n c b) (hn0 : 0 < n) (v : Int) (hv : clsV (c.toNat : Int) = v) (h3 : (v == 3) = false) (h16 : ¬ 16 < n) (wd : Bool) (hw : wordS ((s.data.toList.drop k).take n) = wd) :
    Calls Tryd.prog 41 #[.string s, .int .i64 k] w fun e w' => e = .returned (tokR (cond wd 4 v) 0 ((s.data.toList.drop k).take n) k) ∧ Below w.heap.size w w' := by
  have HR := Lib.hid h.run
  have hle := h.le
  have HC := fun w => class_any (c.toNat : Int) w (u8_bd c).1 (u8_bd c).2
  have hk := h.hk
  have hb0 : s[k]'hk = c := h.hc
  have hs := h.hs
  have hn1 : ((n : Int) == 0) = false := by simp; omega
  have e1 : (k : Int) + (n : Int) ≤ (s.size : Int) := by omega
  have e2 : (0 : Int) ≤ (k : Int) + (n : Int) := by omega
  have e3 : (k : Int) ≤ (k : Int) + (n : Int) := by omega
  have e4 : (0 : Int) ≤ (k : Int) := by omega
  have e5 : (k : Int) < (s.size : Int) := by omega
  have e6 : ¬ (16 : Int) < (n : Int) := by omega
  rw [hv] at HC
  have HCC := Lib.hid HC
  obtain ⟨tx, htx⟩ : ∃ tx, tx = s.extract k (k + n) := ⟨_, rfl⟩
  have hdat : tx.data.toList = (s.data.toList.drop k).take n := by rw [htx, Lib.extract_data, show k + n - k = n from by omega]
  have HW := fun w => rword_any tx w
  rw [hdat, hw] at HW
  have HWW := Lib.hid HW
  have HTX : Hid ((⟨((s.data.toList.drop k).take n).toArray⟩ : ByteArray) = tx) := by
    show _ = _
    rw [htx, cut_mid]
  have HX := Lib.hid htx
  clear h HC hv hdat htx HW hw
  unfold tokR
  cases wd
  all_goals
    go_enter Tryd.func41, Tryd.ntmps41
    go_wp2_with fail
    refine (HR.out _).mono ?_
    rintro e w' ⟨rfl, rfl⟩
    go_wp2_with fail
    rw [← HX.out]
    refine (HCC.out _).mono ?_
    rintro e w' ⟨rfl, rfl⟩
    go_wp2_with fail
    refine (HWW.out _).mono ?_
    rintro e w' ⟨rfl, rfl⟩
  · have hL := (Lies.new w 64 #[.int .i64 v, .string tx, .int .i64 0, .int .i64 k]).old (.cells #[.int .i64 v, .string tx, .int .i64 0, .int .i64 k] 64)
    go_wp2_with fail
    exact bodyPost_ret (res_tok2 (p := 4) (q := 5) Tryd.results41 rfl hL) rfl ⟨by rw [HTX.out]; rfl, ((Below.refl _ w).alloc (Nat.le_refl _) _).alloc (by simp) _⟩
  · have hL := (Lies.new w 64 #[.int .i64 4, .string tx, .int .i64 0, .int .i64 k]).old (.cells #[.int .i64 4, .string tx, .int .i64 0, .int .i64 k] 64)
    go_wp2_with fail
    exact bodyPost_ret (res_tok2 (p := 4) (q := 5) Tryd.results41 rfl hL) rfl ⟨by rw [HTX.out]; rfl, ((Below.refl _ w).alloc (Nat.le_refl _) _).alloc (by simp) _⟩
end Lx
end Go.Proofs.YtobdoahdjbmflaaDoor
namespace Go.Proofs.YtobdoahdjbmflaaDoor
open Go.RowKit
namespace Lx
set_option maxRecDepth 100000
theorem run_take_min (P : Int → Bool) : ∀ (l : List UInt8) (n : Nat), run P (l.take n) = min (run P l) n
  | [], n => by simp [run]
  | c :: l, 0 => by simp [run]
  | c :: l, n + 1 => by
    have := run_take_min P l n
    by_cases h : P (c.toNat : Int)
    · simp only [List.take_succ_cons, run, h, if_true, this]; omega
    · simp [run, h]
theorem b48' (c : UInt8) : ((c.toNat : Int) == 48) = decide (c = 48) := b48 c
theorem one_both (s : ByteArray) (k : Nat) (w : World) (hk : k < s.size) (hs : s.size ≤ 140737488351232) :
    Calls Tryd.prog 41 #[.string s, .int .i64 k] w fun e w' =>
      (∀ kd n t, tokK (s.data.toList.drop k) = .ok (kd, n, t) → e = .returned (tokR kd n t k)) ∧ (∀ x, tokK (s.data.toList.drop k) = .error x → e = .returned (noTokR x)) ∧ Below w.heap.size w w' := by
  have hlen : k < s.data.toList.length := by simpa using hk
  have hb : s.data.toList[k]'hlen = s[k]'hk := by simp [ByteArray.getElem_eq_getElem_data]
  have hD := List.drop_eq_getElem_cons hlen
  rw [hb] at hD
  obtain ⟨c, hc⟩ : ∃ c, s[k]'hk = c := ⟨_, rfl⟩
  rw [hc] at hD
  obtain ⟨D, hDD⟩ : ∃ D, D = s.data.toList.drop k := ⟨_, rfl⟩
  obtain ⟨r, hr⟩ : ∃ r, r = s.data.toList.drop (k + 1) := ⟨_, rfl⟩
  rw [← hDD, ← hr] at hD
  obtain ⟨N, hN⟩ : ∃ N, run ldR D = N := ⟨_, rfl⟩
  have hNle := run_le ldR D
  have hDl : D.length = s.size - k := by rw [hDD, List.length_drop, ← Lib.size_eq]
  rcases Nat.eq_zero_or_pos N with h0 | h0
  · have ht : tokK D = match signOf D with | some g => .ok (5, 0, g) | none => .error 10 := by
      unfold tokK; rw [if_neg (by omega)]
      cases signOf D <;> rfl
    rw [← hDD]
    cases hg : signOf D with
    | none =>
      rw [hg] at ht
      refine (one_none s k w hk hs (by rw [← hDD, hN, h0]) (by rw [← hDD]; unfold sgnV; rw [hg])).mono ?_
      rintro e w' ⟨rfl, hb⟩
      refine ⟨fun kd n t h => ?_, fun x h => ?_, hb⟩
      · rw [ht] at h; cases h
      · rw [ht] at h; cases h; rfl
    | some g =>
      rw [hg] at ht
      have htt := tok_text ht
      refine (one_sign s k w hk hs (by rw [← hDD, hN, h0]) g.length (by rw [← hDD]; unfold sgnV; rw [hg]) htt.1 (by omega)).mono ?_
      rintro e w' ⟨rfl, hb⟩
      refine ⟨fun kd n t h => ?_, fun x h => ?_, hb⟩
      · rw [ht] at h
        simp only [Except.ok.injEq, Prod.mk.injEq] at h
        obtain ⟨rfl, rfl, rfl⟩ := h
        rw [← hDD, htt.2.2]
      · rw [ht] at h; cases h
  · obtain ⟨L, hL⟩ : ∃ L, L = D.take N := ⟨_, rfl⟩
    have hLl : L.length = N := by rw [hL, List.length_take]; omega
    have hLc : ∃ q, L = c :: q := by
      rw [hL, hD]
      obtain ⟨m, rfl⟩ : ∃ m, N = m + 1 := ⟨N - 1, by omega⟩
      exact ⟨_, List.take_succ_cons⟩
    have hdl : run digR L = min (run digR D) N := by rw [hL, run_take_min]
    have ht : tokK D = match runK L with | .ok (k, n) => .ok (k, n, L) | .error e => .error e := by
      unfold tokK; rw [if_pos (by omega), hN, ← hL]
      rcases runK L with e | ⟨a, b⟩ <;> rfl
    have hld : ldR (c.toNat : Int) = true := (run_pos_iff ldR c r).1 (by rw [← hD, hN]; exact h0)
    have hR : ∀ b, decide (run digR D < N) = b → RunAt s k N c b := fun b hb => ⟨hk, hs, hc, by rw [← hDD, hN], by rw [← hDD]; exact hb⟩
    have hLD : (s.data.toList.drop k).take N = L := by rw [← hDD, hL]
    rw [← hDD]
    obtain ⟨q, hq⟩ := hLc
    by_cases hd : digR (c.toNat : Int) = true
    · have h1 : 0 < run digR L := by rw [hq]; exact (run_pos_iff digR c q).2 hd
      have hrk : runK L = numK L := by unfold runK; rw [if_pos h1]
      by_cases hlt : run digR D < N
      · have hn : numK L = .error 10 := by unfold numK; rw [if_pos (by omega)]
        rw [hrk, hn] at ht
        refine (one_err s k N c true w (hR _ (by simpa using hlt)) h0 10 (.inl ⟨hd, rfl, rfl⟩)).mono ?_
        rintro e w' ⟨rfl, hb⟩
        refine ⟨fun kd n t h => ?_, fun x h => ?_, hb⟩
        · rw [ht] at h; cases h
        · rw [ht] at h; cases h; rfl
      · have hRf := hR false (by simpa using hlt)
        have hnd : ¬ run digR L < L.length := by omega
        by_cases h18 : 18 < N
        · have hn : numK L = .error 11 := by unfold numK; rw [if_neg hnd, if_pos (.inl (by omega))]
          rw [hrk, hn] at ht
          refine (one_err s k N c false w hRf h0 11 (.inr (.inl ⟨hd, rfl, h18, rfl⟩))).mono ?_
          rintro e w' ⟨rfl, hb⟩
          refine ⟨fun kd n t h => ?_, fun x h => ?_, hb⟩
          · rw [ht] at h; cases h
          · rw [ht] at h; cases h; rfl
        · by_cases hz : 1 < N ∧ c = 48
          · have hn : numK L = .error 11 := by unfold numK; rw [if_neg hnd, if_pos (.inr ⟨by omega, by rw [hq, hz.2]; rfl⟩)]
            rw [hrk, hn] at ht
            refine (one_err s k N c false w hRf h0 11 (.inr (.inr (.inl ⟨hd, rfl, h18, hz.1, hz.2, rfl⟩)))).mono ?_
            rintro e w' ⟨rfl, hb⟩
            refine ⟨fun kd n t h => ?_, fun x h => ?_, hb⟩
            · rw [ht] at h; cases h
            · rw [ht] at h; cases h; rfl
          · have hn : numK L = .ok (3, numV L) := by
              unfold numK
              rw [if_neg hnd, if_neg]
              rintro (h | ⟨h, h'⟩)
              · omega
              · rw [hq] at h'
                exact hz ⟨by omega, by simpa using h'⟩
            rw [hrk, hn] at ht
            refine (one_num s k N c w hRf h0 hd h18 ?_ (by rw [hLD, hdl]; omega)).mono ?_
            · by_cases h1' : 1 < N
              · refine .inr ⟨h1', ?_⟩
                rw [b48', decide_eq_false]
                exact fun h => hz ⟨h1', h⟩
              · exact .inl (by omega)
            rintro e w' ⟨rfl, hb⟩
            refine ⟨fun kd n t h => ?_, fun x h => ?_, hb⟩
            · rw [ht] at h
              simp only [Except.ok.injEq, Prod.mk.injEq] at h
              obtain ⟨rfl, rfl, rfl⟩ := h
              rw [hLD]
            · rw [ht] at h; cases h
    · have hd' : digR (c.toNat : Int) = false := by simpa using hd
      have h1 : ¬ 0 < run digR L := by rw [hq, run_pos_iff]; exact hd
      obtain ⟨b, hb'⟩ : ∃ b, decide (run digR D < N) = b := ⟨_, rfl⟩
      have hlu : lowR (c.toNat : Int) = true ∨ (lowR (c.toNat : Int) = false ∧ upR (c.toNat : Int) = true) := by
        simp only [ldR, hd', Bool.or_false] at hld
        cases h : lowR (c.toNat : Int)
        · rw [h] at hld; exact .inr ⟨rfl, by simpa using hld⟩
        · exact .inl rfl
      have hcv : clsV (c.toNat : Int) = if 0 < run lowR L then 1 else 2 := by
        rw [hq]
        simp only [run_pos_iff]
        rcases hlu with h | ⟨h, h'⟩
        · simp [clsV, h]
        · simp [clsV, h, h']
      have hc3 : (clsV (c.toNat : Int) == 3) = false := by rw [hcv]; split <;> rfl
      by_cases h16 : 16 < N
      · have hrk : runK L = .error 11 := by unfold runK; rw [if_neg h1, if_pos (by omega)]
        rw [hrk] at ht
        refine (one_err s k N c b w (hR b hb') h0 11 (.inr (.inr (.inr ⟨hd', h16, hc3, rfl⟩)))).mono ?_
        rintro e w' ⟨rfl, hb⟩
        refine ⟨fun kd n t h => ?_, fun x h => ?_, hb⟩
        · rw [ht] at h; cases h
        · rw [ht] at h; cases h; rfl
      · refine (one_word s k N c b w (hR b hb') h0 _ rfl hc3 h16 (wordS L) (by rw [hLD])).mono ?_
        rintro e w' ⟨rfl, hb⟩
        have hrk : runK L = .ok (cond (wordS L) 4 (clsV (c.toNat : Int)), 0) := by
          unfold runK
          rw [if_neg h1, if_neg (by omega), hcv]
          cases wordS L
          · by_cases hp : 0 < run lowR L <;> simp [hp]
          · simp
        rw [hrk] at ht
        refine ⟨fun kd n t h => ?_, fun x h => ?_, hb⟩
        · rw [ht] at h
          simp only [Except.ok.injEq, Prod.mk.injEq] at h
          obtain ⟨rfl, rfl, rfl⟩ := h
          rw [hLD]
        · rw [ht] at h; cases h
set_option maxHeartbeats 2000000 in
theorem rtoken_any (s : ByteArray) (k : Int) (w : World) (hk : k = 1 ∨ k = 2) (hs : s.size ≤ 140737488351232) :
    Calls Tryd.prog 47 #[.string s, .int .i64 k] w fun e w' => e = .returned (.bool (kindV k s.data.toList)) ∧ Below w.heap.size w w' := by
  by_cases h0 : s.size = 0
  · have hl : s.data.toList = [] := List.eq_nil_of_length_eq_zero (by rw [← Lib.size_eq]; exact h0)
    have e3 : s.toList = [] := by rw [data_list]; exact hl
    have HF : Hid (kindV k s.data.toList = false) := by
      show _ = _
      rw [hl]; rcases hk with rfl | rfl <;> rfl
    clear hl h0
    go_enter Tryd.func47, Tryd.ntmps47
    go_wp2_with fail
    go_ret
    exact ⟨ret_bool HF.out.symm, Below.refl _ _⟩
  · have hl : s.data.toList ≠ [] := by
      intro e
      have := congrArg List.length e
      rw [← Lib.size_eq] at this
      exact h0 this
    have e3 : s.toList.isEmpty = false := by rw [data_list]; cases h : s.data.toList with | nil => exact absurd h hl | cons _ _ => rfl
    have HK := Lib.hid (refTok_kind s.data.toList k hk hl)
    have HO := Lib.hid (one_both s 0 w (by omega) hs)
    rw [List.drop_zero] at HO
    cases ht : tokK s.data.toList with
    | error x =>
      have hx := tokK_err ht
      have hx0 : (x == 0) = false := by rcases hx with rfl | rfl <;> rfl
      have hf : refTokV s.data.toList k = false := by unfold refTokV; rw [ht]
      have HF := Lib.hid hf
      have HT := Lib.hid ht
      clear ht hf hl h0
      go_enter Tryd.func47, Tryd.ntmps47
      go_wp2_with fail
      refine HO.out.mono ?_
      rintro e w2 ⟨_, he, hb2⟩
      have he2 := he x HT.out
      subst he2
      clear he
      unfold noTokR
      go_wp2_with fail
      go_ret
      exact ⟨ret_bool (by rw [← HK.out, HF.out]), hb2.alloc hb2.size _⟩
    | ok r =>
      obtain ⟨kd, n, t⟩ := r
      have hf : refTokV s.data.toList k = (decide (kd = k) && (t == s.data.toList)) := by unfold refTokV; rw [ht]
      have HF := Lib.hid hf
      have HT := Lib.hid ht
      clear ht hf hl h0
      by_cases hkd : kd = k
      · subst hkd
        go_enter Tryd.func47, Tryd.ntmps47
        go_wp2_with fail
        refine HO.out.mono ?_
        rintro e w2 ⟨he, _, hb2⟩
        have he2 := he kd n t HT.out
        subst he2
        clear he
        unfold tokR
        go_wp2_with fail
        go_ret
        exact ⟨ret_bool (by rw [← HK.out, HF.out, data_list]; simp), hb2.alloc hb2.size _⟩
      · have e1 : (kd == k) = false := by simpa using hkd
        go_enter Tryd.func47, Tryd.ntmps47
        go_wp2_with fail
        refine HO.out.mono ?_
        rintro e w2 ⟨he, _, hb2⟩
        have he2 := he kd n t HT.out
        subst he2
        clear he
        unfold tokR
        go_wp2_with fail
        go_ret
        exact ⟨ret_bool (by rw [← HK.out, HF.out]; simp [hkd]), hb2.alloc hb2.size _⟩
end Lx
end Go.Proofs.YtobdoahdjbmflaaDoor
