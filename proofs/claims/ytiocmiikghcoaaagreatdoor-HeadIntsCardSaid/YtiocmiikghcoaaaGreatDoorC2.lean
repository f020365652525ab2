/-
  Texts that lie one behind the other: Rec All Rows4 Tin RowTr GRes GExp GSign GErr GStore GAtom.
-/
import Derived.Test.YtiocmiikghcoaaaGreatDoorC1
import Derived.Recover
import Derived.Tactics
import Derived.Calls
import Derived.RegionTactic
import Derived.BigRegion
import Derived.Lib.SmallJoins
import Derived.Laws.StructEq
import Derived.BigQuiet
import Derived.Deep.QuietTactic
import Derived.StillTailTactics
import Derived.Deep.MidRow
namespace Go.Proofs.YtiocmiikghcoaaaGreatDoor
namespace Lx
set_option maxRecDepth 100000
section
variable {P : Program} {Q : Exit → Act → List Frame → World → Prop} {cs : List Frame}

theorem upon_more {o : Oper} {a : Act} {n1 n2 : Act → World → Prop} {q : Exit → Act → World → Prop} {r : Result Next} (hn : ∀ a w, n1 a w → n2 a w) (h : o.upon P a n1 q r) : o.upon P a n2 q r := by
 unfold Oper.upon at h ⊢
 split at h
 ·exact hn _ _ h
 ·exact hn _ _ h
 ·exact hn _ _ h
 ·refine Calls.mono h (fun e w hh => ?_)
  cases e with
  | returned v => exact hn _ _ hh
  | panicked c => exact hh
  | outgrown => exact hh
 ·exact Rows.mono h (fun v w hh => hn _ _ hh)
 ·exact h
 ·exact h

theorem opsS_of_list {ops : Array Oper} (hno : ¬ LetsOut (fun e a w => Q e a cs w)) (l : List Oper) : ∀ (k : Nat) (a : Act) (w : World), (∀ j, l[j]? = ops[k + j]?) → wpList P ops (fun e a w => Q e a cs w) l a w → wpOpsS P ops Q (List.range' k l.length) a cs w := by
 induction l with
 | nil => intro k a w _ h; simpa [wpOpsS, wpList] using h
 | cons o l ih =>
  intro k a w hk h
  have h0 : ops[k]? = some o := by simpa using (hk 0).symm
  have ih' := fun a w => ih (k + 1) a w (fun j => by have := hk (j + 1); simpa [Nat.add_assoc, Nat.add_comm 1 j] using this)
  simp only [List.length_cons, List.range'_succ, wpOpsS, h0]
  unfold wpList at h
  split at h
  ·rename_i hw
   rw [if_pos hw]
   rcases h with h | h
   ·have h2 := upon_more (n2 := fun a' w' => wpOpsS P ops Q (List.range' (k + 1) l.length) a' cs w') ih' h
    split
    ·rename_i w' hr
     rw [hr] at h2
     exact h2.elim
    ·exact h2
   ·exact absurd h.2 hno
  ·rename_i hw
   rw [if_neg hw]
   exact ih' _ _ h

theorem opsS_recover {ops : Array Oper} {i : Nat} {rest : List Nat} {o : Oper} {a : Act} {w w' : World} {v : Value} {cs' : List Frame} (ho : ops[i]? = some o) (hg : o.guard = none)
  (hr : (execOp a.eval o).run P w = .ok .recover w') (hc : recoverD cs = some (v, cs')) (h : wpOpsS P ops Q rest (a.put o.dst v) cs' w') : wpOpsS P ops Q (i :: rest) a cs w := by
 have hw : Region.wanted o (yielded ops a.tmps) = true := by simp [Region.wanted, hg]
 simp only [wpOpsS, ho, hw, if_true, hr, hc]
 exact h
theorem opsS_recover_nil {ops : Array Oper} {i : Nat} {rest : List Nat} {o : Oper} {a : Act} {w w' : World} (ho : ops[i]? = some o) (hg : o.guard = none)
  (hr : (execOp a.eval o).run P w = .ok .recover w') (hc : recoverD cs = none) (h : wpOpsS P ops Q rest (a.put o.dst .nilIface) cs w') : wpOpsS P ops Q (i :: rest) a cs w := by
 have hw : Region.wanted o (yielded ops a.tmps) = true := by simp [Region.wanted, hg]
 simp only [wpOpsS, ho, hw, if_true, hr, hc]
 exact h
theorem region_recover {id : Nat} {ops : Array Oper} {o : Oper} {l : List Oper} {a : Act} {w w' : World} {v : Value} {cs' : List Frame} (hops : ops.toList = o :: l) (hg : o.guard = none)
  (hr : (execOp a.eval o).run P w = .ok .recover w') (hc : recoverD cs = some (v, cs')) (hno : ¬ LetsOut (fun e a w => Q e a cs' w)) (h : wpList P ops (fun e a w => Q e a cs' w) l (a.put o.dst v) w') :
  (Code.region id ops false).wpS P Q a cs w := by
 obtain ⟨L⟩ := ops
 obtain rfl : L = o :: l := hops
 refine wpS_region ?_
 rw [List.range_eq_range', show (o :: l).toArray.size = l.length + 1 from rfl, List.range'_succ]
 refine opsS_recover (by simp) hg hr hc ?_
 exact opsS_of_list hno l 1 _ _ (fun j => by simp [Nat.add_comm]) h
theorem region_recover_nil {id : Nat} {ops : Array Oper} {o : Oper} {l : List Oper} {a : Act} {w w' : World} (hops : ops.toList = o :: l) (hg : o.guard = none)
  (hr : (execOp a.eval o).run P w = .ok .recover w') (hc : recoverD cs = none) (hno : ¬ LetsOut (fun e a w => Q e a cs w)) (h : wpList P ops (fun e a w => Q e a cs w) l (a.put o.dst .nilIface) w') :
  (Code.region id ops false).wpS P Q a cs w := by
 obtain ⟨L⟩ := ops
 obtain rfl : L = o :: l := hops
 refine wpS_region ?_
 rw [List.range_eq_range', show (o :: l).toArray.size = l.length + 1 from rfl, List.range'_succ]
 refine opsS_recover_nil (by simp) hg hr hc ?_
 exact opsS_of_list hno l 1 _ _ (fun j => by simp [Nat.add_comm]) h
end
end Lx
end Go.Proofs.YtiocmiikghcoaaaGreatDoor
namespace Go.Proofs.YtiocmiikghcoaaaGreatDoor
open Go.RowKit
namespace Lx
set_option maxRecDepth 100000
theorem assert_hit (v : Value) (w : World) : (Instr.typeAssert (.iface 126 v) 20 126 true).run Tryz.prog w = .ok (.tuple #[v, .bool true]) w := by kernel_rfl
theorem assert_nil (w : World) : (Instr.typeAssert .nilIface 20 126 true).run Tryz.prog w = .ok (.tuple #[.agg #[.int .i64 0, .int .i64 0], .bool false]) w := by kernel_rfl

theorem catch_tok (b0 b1 b2 : Nat) (p x : Int) (w : World) (d01 : b0 < b1) (d12 : b1 < b2) (h0 : Lies w b0 68 #[.slice none 0 0]) (h1 : Lies w b1 3 #[.int .i64 0]) (h2 : Lies w b2 30 #[.int .i64 0]) :
  CallsD Tryz.prog 116 #[.pointer (some ⟨b0, 0, none⟩), .pointer (some ⟨b1, 0, none⟩), .pointer (some ⟨b2, 0, none⟩)] (.panicking [{ v := noTok p x, recovered := false }]) w fun e u' w' =>
   e = .returned (.tuple #[]) ∧ u' = .panicking [{ v := noTok p x, recovered := true }] ∧ Lies w' b0 68 #[.slice none 0 0] ∧ Lies w' b1 3 #[.int .i64 p] ∧ Lies w' b2 30 #[.int .i64 x] ∧ Below b0 w w' := by
 unfold noTok
 refine callsD_of_wpS Tryz.func116 rfl fun c₀ cs hu => ?_
 apply wpS_seq
 refine region_recover (w' := w) (v := .iface 126 (.agg #[.int .i64 p, .int .i64 x])) rfl rfl rfl (by simp [recoverD, hu]; rfl) ?_ ?_
 ·rintro ⟨a, w2, h⟩
  simp [Exit.thenS, bodyPostS] at h
 ·have hta := assert_hit (.agg #[.int .i64 p, .int .i64 x])
  show wpList _ _ _ _ { tmps := #[.pointer (some ⟨b0, 0, none⟩), .pointer (some ⟨b1, 0, none⟩), .pointer (some ⟨b2, 0, none⟩), undef, undef, undef, .iface 126 (.agg #[.int .i64 p, .int .i64 x]), undef, undef, undef, undef, undef, undef, undef, undef], defers := [] } w
  go_wp2_with fail
  refine wpS_of_wp ?_
  clear hta
  have g0 := h0.old (.cells #[.int .i64 p, .int .i64 x] 126)
  have g1 := h1.old (.cells #[.int .i64 p, .int .i64 x] 126)
  have g2 := h2.old (.cells #[.int .i64 p, .int .i64 x] 126)
  have gn := Lies.new w 126 #[.int .i64 p, .int .i64 x]
  obtain ⟨W, hW⟩ : ∃ W, W = w.alloc (.cells #[.int .i64 p, .int .i64 x] 126) := ⟨_, rfl⟩
  rw [← hW] at g0 g1 g2 gn ⊢
  have c0 := g0.cell 0
  have c1 := g1.cell 0
  have c2 := g2.cell 0
  have f0 := g0.frozen 0
  have f1 := g1.frozen 0
  have f2 := g2.frozen 0
  have n0 := gn.cell 0
  have n1 := gn.cell 1
  simp at c0 c1 c2 n0 n1
  have HW := Lib.hid hW
  clear hW
  obtain ⟨G, hG⟩ : ∃ G, G = w.heap.size := ⟨_, rfl⟩
  rw [← hG] at n0 n1 gn ⊢
  have l2 := h2.lt
  rw [← hG] at l2
  have HG := Lib.hid hG
  clear hG h0 h1 h2
  have e1 : ¬ b0 = b1 := by omega
  have e2 : ¬ b1 = b0 := by omega
  have e3 : ¬ b0 = b2 := by omega
  have e4 : ¬ b2 = b0 := by omega
  have e5 : ¬ b1 = b2 := by omega
  have e6 : ¬ b2 = b1 := by omega
  have e7 : ¬ b0 = G := by omega
  have e8 : ¬ G = b0 := by omega
  have e9 : ¬ b1 = G := by omega
  have e10 : ¬ G = b1 := by omega
  have e11 : ¬ b2 = G := by omega
  have e12 : ¬ G = b2 := by omega
  have L2 := Lib.hid l2
  clear l2
  go_wp2_with fail
  go_region
  have hb : Below b0 w W := by
   rw [HW.out]
   exact (Below.refl _ w).alloc (by have := L2.out; rw [← HG.out]; omega) _
  refine ⟨rfl, _, rfl, .tuple #[], by simp [results, Tryz.results116], rfl, rfl, ?_, ?_, ?_, ?_⟩
  ·exact ((((g0.put 0 (.slice none 0 0)).far (p := ⟨b1, 0, none⟩) e1 _).far (p := ⟨b2, 0, none⟩) e3 _)).drew
  ·exact (((g1.far (p := ⟨b0, 0, none⟩) e2 _).put 0 (.int .i64 p)).far (p := ⟨b2, 0, none⟩) e5 _).drew
  ·exact (((g2.far (p := ⟨b0, 0, none⟩) e4 _).far (p := ⟨b1, 0, none⟩) e6 _).put 0 (.int .i64 x)).drew
  ·exact (((hb.setCell (p := ⟨b0, 0, none⟩) (Nat.le_refl _) _).setCell (p := ⟨b1, 0, none⟩) (Nat.le_of_lt d01) _).setCell (p := ⟨b2, 0, none⟩) (by show b0 ≤ b2; omega) _).drew

theorem catch_idle (b0 b1 b2 : Nat) (w : World) :
  CallsD Tryz.prog 116 #[.pointer (some ⟨b0, 0, none⟩), .pointer (some ⟨b1, 0, none⟩), .pointer (some ⟨b2, 0, none⟩)] .returning w fun e u' w' =>
   e = .returned (.tuple #[]) ∧ u' = .returning ∧ Below w.heap.size w w' := by
 refine callsD_of_wpS Tryz.func116 rfl fun c₀ cs hu => ?_
 apply wpS_seq
 refine region_recover_nil (w' := w) rfl rfl rfl (by simp [recoverD, hu]) ?_ ?_
 ·rintro ⟨a, w2, h⟩
  simp [Exit.thenS, bodyPostS] at h
 ·have hta := assert_nil
  show wpList _ _ _ _ { tmps := #[.pointer (some ⟨b0, 0, none⟩), .pointer (some ⟨b1, 0, none⟩), .pointer (some ⟨b2, 0, none⟩), undef, undef, undef, .nilIface, undef, undef, undef, undef, undef, undef, undef, undef], defers := [] } w
  go_wp2_with fail
  refine wpS_of_wp ?_
  clear hta
  go_wp2_with fail
  refine ⟨rfl, .returning, ?_, .tuple #[], by simp [results, Tryz.results116], rfl, rfl, ?_⟩
  ·cases c₀; simp_all
  ·exact (Below.refl _ w).alloc (Nat.le_refl _) _

set_option maxHeartbeats 1000000 in
theorem all_bad (s : ByteArray) (p x : Int) (w : World) (hs : s.size ≤ 60000) (hg : Signs w) (h : allK s.data.toList = .error (p, x)) :
  Calls Tryz.prog 85 #[.string s] w fun e w' => e = .returned (.tuple #[.slice none 0 0, .int .i64 p, .int .i64 x]) ∧ Below w.heap.size w w' := by
 have hmf : ∀ (fn : Fn) (first cap : Array Value) (w : World), (Instr.makeFunc fn first cap).run Tryz.prog w = .ok (.func fn first cap) w := fun _ _ _ _ => rfl
 have HH := Lib.hid h
 clear h
 have hpos := hg.pos
 have hg0 : Signs (((w.alloc (.cells #[.slice none 0 0] 68)).alloc (.cells #[.int .i64 0] 3)).alloc (.cells #[.int .i64 0] 30)) :=
  hg.below ((((Below.refl _ w).alloc (Nat.le_refl _) _).alloc (by simp) _).alloc (by simp; omega) _) hpos
 go_enter_defers Tryz.func85, Tryz.ntmps85
 go_wp2_with fail
 refine (tokens_any s _ hs hg0).mono ?_
 rintro e w1 ⟨_, hbad, hb1⟩
 obtain rfl := hbad p x HH.out
 clear hbad
 have l0 := (((Lies.new w 68 #[.slice none 0 0]).old (.cells #[.int .i64 0] 3)).old (.cells #[.int .i64 0] 30)).below hb1 (by simp; omega)
 have l1 := ((Lies.new (w.alloc (.cells #[.slice none 0 0] 68)) 3 #[.int .i64 0]).old (.cells #[.int .i64 0] 30)).below hb1 (by simp)
 have l2 := (Lies.new ((w.alloc (.cells #[.slice none 0 0] 68)).alloc (.cells #[.int .i64 0] 3)) 30 #[.int .i64 0]).below hb1 (by simp)
 have hB : Below w.heap.size w w1 := ((((Below.refl _ w).alloc (Nat.le_refl _) _).alloc (by simp) _).alloc (by simp; omega) _).trans (hb1.mono (by simp; omega))
 go_wp2_with fail
 refine leaves_cons (f := 116) (args := #[.pointer (some ⟨w.heap.size, 0, none⟩), .pointer (some ⟨w.heap.size + 1, 0, none⟩), .pointer (some ⟨w.heap.size + 1 + 1, 0, none⟩)]) (by simp) (by simp [go_sem]) ?_
 refine (catch_tok w.heap.size (w.heap.size + 1) (w.heap.size + 1 + 1) p x w1 (by omega) (by omega) l0 (by simpa using l1) (by simpa using l2)).mono ?_
 rintro e u' w2 ⟨rfl, rfl, k0, k1, k2, hb2⟩
 have c0 := k0.cell 0
 have c1 := k1.cell 0
 have c2 := k2.cell 0
 simp at c0 c1 c2
 simp [Leaves, settle, results, Tryz.results85, go_sem, c0, c1, c2]
 exact hB.trans hb2

theorem own_slice {w : World} {base : Nat} {e : TypeId} {size : Nat} {v : Value} {n : Nat} {xs : List Value} (h : w.ownsRow base e size v n xs) : ∃ A c, v = .slice A n c := by
 rcases h.2 with ⟨rfl, rfl⟩ | ⟨g, cap, cur, rfl, _⟩
 ·exact ⟨_, _, rfl⟩
 ·exact ⟨_, _, rfl⟩

theorem own_stored3 {w : World} {base B : Nat} {e : TypeId} {size : Nat} {v : Value} {n : Nat} {xs : List Value} (h : w.ownsRow B e size v n xs) (_hB : B ≤ w.heap.size) (hb : base + 3 ≤ B) {x y z : Value} :
  (((w.setCell ⟨base, 0, none⟩ x).setCell ⟨base + 1, 0, none⟩ y).setCell ⟨base + 1 + 1, 0, none⟩ z).ownsRow base e size v n xs :=
 Joins.ownsRow_le (ownsRow_setCell_below (ownsRow_setCell_below (ownsRow_setCell_below h (by show base < B; omega) x) (by show base + 1 < B; omega) y) (by show base + 1 + 1 < B; omega) z) (by omega)

set_option maxHeartbeats 1000000 in
theorem all_good (s : ByteArray) (ts : List Tok) (w : World) (hs : s.size ≤ 60000) (hg : Signs w) (h : allK s.data.toList = .ok ts) :
  Calls Tryz.prog 85 #[.string s] w fun e w' => ∃ A c, e = .returned (.tuple #[.slice A ts.length c, .int .i64 0, .int .i64 0]) ∧ w'.ownsRow w.heap.size 75 4 (.slice A ts.length c) ts.length (cellsOf ts) ∧ Below w.heap.size w w' := by
 have hmf : ∀ (fn : Fn) (first cap : Array Value) (w : World), (Instr.makeFunc fn first cap).run Tryz.prog w = .ok (.func fn first cap) w := fun _ _ _ _ => rfl
 have HH := Lib.hid h
 clear h
 have hpos := hg.pos
 have hg0 : Signs (((w.alloc (.cells #[.slice none 0 0] 68)).alloc (.cells #[.int .i64 0] 3)).alloc (.cells #[.int .i64 0] 30)) :=
  hg.below ((((Below.refl _ w).alloc (Nat.le_refl _) _).alloc (by simp) _).alloc (by simp; omega) _) hpos
 go_enter_defers Tryz.func85, Tryz.ntmps85
 go_wp2_with fail
 refine (tokens_any s _ hs hg0).mono ?_
 rintro e w1 ⟨hgood, _, hb1⟩
 obtain ⟨v, rfl, hown⟩ := hgood ts HH.out
 clear hgood
 obtain ⟨A, c, rfl⟩ := own_slice hown
 have l0 := (((Lies.new w 68 #[.slice none 0 0]).old (.cells #[.int .i64 0] 3)).old (.cells #[.int .i64 0] 30)).below hb1 (by simp; omega)
 have l1 : Lies w1 (w.heap.size + 1) 3 #[.int .i64 0] := by simpa using ((Lies.new (w.alloc (.cells #[.slice none 0 0] 68)) 3 #[.int .i64 0]).old (.cells #[.int .i64 0] 30)).below hb1 (by simp)
 have l2 : Lies w1 (w.heap.size + 1 + 1) 30 #[.int .i64 0] := by simpa using (Lies.new ((w.alloc (.cells #[.slice none 0 0] 68)).alloc (.cells #[.int .i64 0] 3)) 30 #[.int .i64 0]).below hb1 (by simp)
 have hB : Below w.heap.size w w1 := ((((Below.refl _ w).alloc (Nat.le_refl _) _).alloc (by simp) _).alloc (by simp; omega) _).trans (hb1.mono (by simp; omega))
 have c0 := l0.cell 0
 have c1 := l1.cell 0
 have c2 := l2.cell 0
 have f0 := l0.frozen 0
 have f1 := l1.frozen 0
 have f2 := l2.frozen 0
 simp at c0 c1 c2
 clear HH hg hg0 hs
 go_wp2_with fail
 refine leaves_cons (f := 116) (args := #[.pointer (some ⟨w.heap.size, 0, none⟩), .pointer (some ⟨w.heap.size + 1, 0, none⟩), .pointer (some ⟨w.heap.size + 1 + 1, 0, none⟩)]) (by simp) (by simp [go_sem]) ?_
 refine (catch_idle w.heap.size (w.heap.size + 1) (w.heap.size + 1 + 1) _).mono ?_
 rintro e u' w2 ⟨rfl, rfl, hb2⟩
 have hlt := l2.lt
 have hown2 := own_below (own_stored3 hown hb1.size (by simp)) hb2 (Nat.le_refl _)
 have k0 := (((l0.put 0 (.slice A ts.length c)).far (p := ⟨w.heap.size + 1, 0, none⟩) (by simp) (.int .i64 0)).far (p := ⟨w.heap.size + 1 + 1, 0, none⟩) (by simp; omega) (.int .i64 0)).below hb2 (by simp; omega)
 have k1 := (((l1.far (p := ⟨w.heap.size, 0, none⟩) (by simp) (.slice A ts.length c)).put 0 (.int .i64 0)).far (p := ⟨w.heap.size + 1 + 1, 0, none⟩) (by simp) (.int .i64 0)).below hb2 (by simp; omega)
 have k2 := (((l2.far (p := ⟨w.heap.size, 0, none⟩) (by simp; omega) (.slice A ts.length c)).far (p := ⟨w.heap.size + 1, 0, none⟩) (by simp) (.int .i64 0)).put 0 (.int .i64 0)).below hb2 (by simp; omega)
 have c0 := k0.cell 0
 have c1 := k1.cell 0
 have c2 := k2.cell 0
 simp at c0 c1 c2
 simp [Leaves, settle, results, Tryz.results85, go_sem, c0, c1, c2]
 exact ⟨A, c, ⟨rfl, rfl⟩, hown2, (((hB.setCell (p := ⟨w.heap.size, 0, none⟩) (Nat.le_refl _) _).setCell (p := ⟨w.heap.size + 1, 0, none⟩) (by simp) _).setCell (p := ⟨w.heap.size + 1 + 1, 0, none⟩) (by show w.heap.size ≤ w.heap.size + 1 + 1; omega) _).trans (hb2.mono (by simp; omega))⟩
def Row (w : World) (A : Option Addr) (l : List Tok) : Prop :=
 l ≠ [] → ∃ g o, A = some ⟨g, o, none⟩ ∧ ∀ n u, (cellsOf l)[n]? = some u → w.cell? ⟨g, o + n, none⟩ = some u

theorem cell_lt {w : World} {g o : Nat} {u : Value} (h : w.cell? ⟨g, o, none⟩ = some u) : g < w.heap.size := by
 by_cases hlt : g < w.heap.size
 ·exact hlt
 ·simp [World.cell?, Array.getElem?_eq_none (Nat.le_of_not_lt hlt)] at h

theorem cellsOf_pos {l : List Tok} (h : l ≠ []) : 0 < (cellsOf l).length := by
 rw [cellsOf_length]
 have := List.length_pos_iff.2 h
 omega
theorem Row.below {w w' : World} {A : Option Addr} {l : List Tok} {B : Nat} (h : Row w A l) (hb : Below B w w') (hB : w.heap.size ≤ B) : Row w' A l := by
 intro hl
 obtain ⟨g, o, rfl, hc⟩ := h hl
 refine ⟨g, o, rfl, fun n u hu => ?_⟩
 have h1 := hc n u hu
 have := cell_lt h1
 rw [hb.cell (p := ⟨g, o + n, none⟩) (by show g < B; omega)]
 exact h1
theorem Row.of_own {w : World} {base : Nat} {A : Option Addr} {n c : Nat} {l : List Tok} (h : w.ownsRow base 75 4 (.slice A n c) n (cellsOf l)) : Row w A l := by
 intro hl
 have hp := cellsOf_pos hl
 have hn : 0 < n := by
  have := h.1
  omega
 obtain ⟨g, cap, hv⟩ := Joins.ownsRow_form h hn
 have hA : A = some ⟨g, 0, none⟩ := by injection hv
 subst hA
 refine ⟨g, 0, rfl, fun j u hu => ?_⟩
 have h1 := h.cells (g := g) rfl j u hu
 have hadd : (⟨g, 0, none⟩ : Addr).add j = ⟨g, 0 + j, none⟩ := by unfold Addr.add; split <;> simp_all
 rw [hadd] at h1
 exact h1

theorem cellsOf_at (l : List Tok) (i : Nat) (h : i < l.length) (j : Nat) (hj : j < 4) : (cellsOf l)[i * 4 + j]? = (l[i]'h).cells[j]? := by
 induction l generalizing i with
 | nil => simp at h
 | cons a r ih =>
  have hc : cellsOf (a :: r) = a.cells ++ cellsOf r := by simp [cellsOf]
  have ha : a.cells.length = 4 := rfl
  cases i with
  | zero =>
   rw [hc, List.getElem?_append_left (by omega)]
   simp
  | succ i =>
   rw [hc, List.getElem?_append_right (by omega), ha]
   have := ih i (by simpa using h)
   rw [show (i + 1) * 4 + j - 4 = i * 4 + j from by omega, this]
   simp

theorem Row.at_ {w : World} {A : Option Addr} {l : List Tok} (h : Row w A l) {i : Nat} (hi : i < l.length) :
  ∃ g o, A = some ⟨g, o, none⟩ ∧ w.cell? ⟨g, o + i * 4, none⟩ = some (.int .i64 (l[i]'hi).kind) ∧ w.cell? ⟨g, o + i * 4 + 1, none⟩ = some (.string ⟨(l[i]'hi).text.toArray⟩) ∧
   w.cell? ⟨g, o + i * 4 + 2, none⟩ = some (.int .i64 (l[i]'hi).n) ∧ w.cell? ⟨g, o + i * 4 + 3, none⟩ = some (.int .i64 (l[i]'hi).place) := by
 obtain ⟨g, o, rfl, hc⟩ := h (by intro e; subst e; simp at hi)
 refine ⟨g, o, rfl, hc _ _ ?_, ?_, ?_, ?_⟩
 ·have := cellsOf_at l i hi 0 (by omega); simpa [Tok.cells] using this
 ·have := hc (i * 4 + 1) _ ((cellsOf_at l i hi 1 (by omega)).trans rfl); simpa [Nat.add_assoc] using this
 ·have := hc (i * 4 + 2) _ ((cellsOf_at l i hi 2 (by omega)).trans rfl); simpa [Nat.add_assoc] using this
 ·have := hc (i * 4 + 3) _ ((cellsOf_at l i hi 3 (by omega)).trans rfl); simpa [Nat.add_assoc] using this

def capF (n c : Nat) : Nat := max n c
theorem le_capF (n c : Nat) : n ≤ capF n c := Nat.le_max_left n c
theorem capF_of {n c : Nat} (h : n ≤ c) : capF n c = c := Nat.max_eq_right h
def Any : Nat → Prop := fun _ => True
mutual
def TIn (w : World) (X : Nat → Prop) : Tr → Option Addr → Prop
 | .node _ s _ _ l, A => s.size ≤ 140737488351232 ∧ l.length ≤ 140737488351232 ∧ LIn w X l A 0
def LIn (w : World) (X : Nat → Prop) : List Tr → Option Addr → Nat → Prop
 | [], _, _ => True
 | t :: r, A, i => (∃ g o A' c, (A = some ⟨g, o, none⟩ ∧ X g) ∧ w.cell? ⟨g, o + i * 5, none⟩ = some (.int .i64 t.kind) ∧ w.cell? ⟨g, o + i * 5 + 1, none⟩ = some (.string t.name) ∧
   w.cell? ⟨g, o + i * 5 + 2, none⟩ = some (.int .i64 t.n) ∧ w.cell? ⟨g, o + i * 5 + 3, none⟩ = some (.int .i64 t.place) ∧
   w.cell? ⟨g, o + i * 5 + 4, none⟩ = some (.slice A' t.parts.length (capF t.parts.length c)) ∧ TIn w X t A') ∧ LIn w X r A (i + 1)
end
def tv (t : Tr) (A : Option Addr) (c : Nat) : Value := .agg #[.int .i64 t.kind, .string t.name, .int .i64 t.n, .int .i64 t.place, .slice A t.parts.length (capF t.parts.length c)]

mutual
theorem TIn.keep : ∀ (t : Tr) {w w' : World} {X Y : Nat → Prop} {A : Option Addr}, TIn w X t A → (∀ g j, X g → g < w.heap.size → w'.cell? ⟨g, j, none⟩ = w.cell? ⟨g, j, none⟩ ∧ Y g) → TIn w' Y t A
 | .node k s n a l, w, w', X, Y, A, h, hk => by
  rw [TIn] at h ⊢
  exact ⟨h.1, h.2.1, LIn.keep l h.2.2 hk⟩
theorem LIn.keep : ∀ (l : List Tr) {w w' : World} {X Y : Nat → Prop} {A : Option Addr} {i : Nat}, LIn w X l A i → (∀ g j, X g → g < w.heap.size → w'.cell? ⟨g, j, none⟩ = w.cell? ⟨g, j, none⟩ ∧ Y g) → LIn w' Y l A i
 | [], w, w', X, Y, A, i, _, _ => by rw [LIn]; trivial
 | t :: r, w, w', X, Y, A, i, h, hk => by
  rw [LIn] at h ⊢
  obtain ⟨⟨g, o, A', c, ⟨e, hX⟩, h0, h1, h2, h3, h4, ht⟩, hr⟩ := h
  have hlt := cell_lt h0
  have hc : ∀ j, w'.cell? ⟨g, j, none⟩ = w.cell? ⟨g, j, none⟩ := fun j => (hk g j hX hlt).1
  exact ⟨⟨g, o, A', c, ⟨e, (hk g 0 hX hlt).2⟩, by rw [hc]; exact h0, by rw [hc]; exact h1, by rw [hc]; exact h2, by rw [hc]; exact h3, by rw [hc]; exact h4, TIn.keep t ht hk⟩, LIn.keep r hr hk⟩
end
theorem TIn.below (t : Tr) {w w' : World} {X : Nat → Prop} {A : Option Addr} {B : Nat} (h : TIn w X t A) (hb : Below B w w') (hB : w.heap.size ≤ B) : TIn w' X t A :=
 TIn.keep t h fun g j hX hlt => ⟨hb.cell (p := ⟨g, j, none⟩) (by show g < B; omega), hX⟩
theorem TIn.wide (t : Tr) {w : World} {X Y : Nat → Prop} {A : Option Addr} (h : TIn w X t A) (hXY : ∀ g, X g → g < w.heap.size → Y g) : TIn w Y t A :=
 TIn.keep t h fun g _ hX hlt => ⟨rfl, hXY g hX hlt⟩
theorem TIn.any (t : Tr) {w : World} {X : Nat → Prop} {A : Option Addr} (h : TIn w X t A) : TIn w Any t A := TIn.wide t h fun _ _ _ => trivial
theorem TIn.setCell (t : Tr) {w : World} {X : Nat → Prop} {A : Option Addr} (h : TIn w X t A) (p : Addr) (u : Value) (hp : ¬ X p.block) : TIn (w.setCell p u) X t A :=
 TIn.keep t h fun g j hX _ => ⟨World.cell?_setCell_other w p ⟨g, j, none⟩ u (fun e => by subst e; exact hp hX), hX⟩
theorem TIn.grown (t : Tr) {w w' : World} {X : Nat → Prop} {A : Option Addr} {row : Option Nat} (h : TIn w X t A) (hg : w.grownBy w' row) (hp : ∀ g, row = some g → ¬ X g) : TIn w' X t A :=
 TIn.keep t h fun g _ hX hlt => ⟨World.cell?_of_block (hg.block g hlt (fun e => hp g e.symm hX)), hX⟩

theorem LIn.at_ : ∀ (l : List Tr) {w : World} {X : Nat → Prop} {A : Option Addr} {j : Nat}, LIn w X l A j → ∀ (i : Nat) (hi : i < l.length),
  ∃ g o A' c, (A = some ⟨g, o, none⟩ ∧ X g) ∧ w.cell? ⟨g, o + (j + i) * 5, none⟩ = some (.int .i64 (l[i]'hi).kind) ∧ w.cell? ⟨g, o + (j + i) * 5 + 1, none⟩ = some (.string (l[i]'hi).name) ∧
   w.cell? ⟨g, o + (j + i) * 5 + 2, none⟩ = some (.int .i64 (l[i]'hi).n) ∧ w.cell? ⟨g, o + (j + i) * 5 + 3, none⟩ = some (.int .i64 (l[i]'hi).place) ∧
   w.cell? ⟨g, o + (j + i) * 5 + 4, none⟩ = some (.slice A' (l[i]'hi).parts.length (capF (l[i]'hi).parts.length c)) ∧ TIn w X (l[i]'hi) A'
 | [], w, X, A, j, _, i, hi => by simp at hi
 | t :: r, w, X, A, j, h, 0, hi => by
  rw [LIn] at h
  simpa using h.1
 | t :: r, w, X, A, j, h, i + 1, hi => by
  rw [LIn] at h
  have := LIn.at_ r h.2 i (by simpa using hi)
  rw [show j + 1 + i = j + (i + 1) from by omega] at this
  simpa using this
theorem LIn.mk : ∀ (l : List Tr) {w : World} {X : Nat → Prop} {A : Option Addr} (j : Nat), (∀ (i : Nat) (hi : i < l.length),
  ∃ g o A' c, (A = some ⟨g, o, none⟩ ∧ X g) ∧ w.cell? ⟨g, o + (j + i) * 5, none⟩ = some (.int .i64 (l[i]'hi).kind) ∧ w.cell? ⟨g, o + (j + i) * 5 + 1, none⟩ = some (.string (l[i]'hi).name) ∧
   w.cell? ⟨g, o + (j + i) * 5 + 2, none⟩ = some (.int .i64 (l[i]'hi).n) ∧ w.cell? ⟨g, o + (j + i) * 5 + 3, none⟩ = some (.int .i64 (l[i]'hi).place) ∧
   w.cell? ⟨g, o + (j + i) * 5 + 4, none⟩ = some (.slice A' (l[i]'hi).parts.length (capF (l[i]'hi).parts.length c)) ∧ TIn w X (l[i]'hi) A') → LIn w X l A j
 | [], w, X, A, j, _ => by rw [LIn]; trivial
 | t :: r, w, X, A, j, h => by
  rw [LIn]
  refine ⟨(by have := h 0 (by simp); rw [Nat.add_zero] at this; exact this), LIn.mk r (j + 1) fun i hi => ?_⟩
  have := h (i + 1) (by simpa using hi)
  rw [show j + 1 + i = j + (i + 1) from by omega]
  simpa using this
theorem TIn.part {t : Tr} {w : World} {X : Nat → Prop} {A : Option Addr} (h : TIn w X t A) (i : Nat) (hi : i < t.parts.length) :
  ∃ g o A' c, (A = some ⟨g, o, none⟩ ∧ X g) ∧ w.cell? ⟨g, o + i * 5, none⟩ = some (.int .i64 (t.parts[i]'hi).kind) ∧ w.cell? ⟨g, o + i * 5 + 1, none⟩ = some (.string (t.parts[i]'hi).name) ∧
   w.cell? ⟨g, o + i * 5 + 2, none⟩ = some (.int .i64 (t.parts[i]'hi).n) ∧ w.cell? ⟨g, o + i * 5 + 3, none⟩ = some (.int .i64 (t.parts[i]'hi).place) ∧
   w.cell? ⟨g, o + i * 5 + 4, none⟩ = some (.slice A' (t.parts[i]'hi).parts.length (capF (t.parts[i]'hi).parts.length c)) ∧ TIn w X (t.parts[i]'hi) A' := by
 obtain ⟨k, s, n, a, l⟩ := t
 rw [TIn] at h
 have := LIn.at_ l h.2.2 i hi
 rw [Nat.zero_add] at this
 exact this
theorem infoT : (Tryz.prog.info? 49).map (fun i => (i.zero, i.size, i.bytes)) = some (some (.agg #[.int .i64 0, .string ⟨#[]⟩, .int .i64 0, .int .i64 0, .slice none 0 0]), 5, 64) := by kernel_rfl
def cellsT (t : Tr) (A : Option Addr) (c : Nat) : List Value := [.int .i64 t.kind, .string t.name, .int .i64 t.n, .int .i64 t.place, .slice A t.parts.length (capF t.parts.length c)]
theorem cellsT_length (t : Tr) (A : Option Addr) (c : Nat) : (cellsT t A c).length = 5 := rfl
def RowTr (w : World) (X : Nat → Prop) (l : List Tr) (xs : List Value) : Prop :=
 xs.length = l.length * 5 ∧ ∀ (j : Nat) (hj : j < l.length), ∃ A c, (∀ q, q < 5 → xs[j * 5 + q]? = (cellsT (l[j]'hj) A c)[q]?) ∧ TIn w X (l[j]'hj) A
theorem RowTr.nil (w : World) (X : Nat → Prop) : RowTr w X [] [] := ⟨rfl, fun j hj => by simp at hj⟩
theorem RowTr.keep {w w' : World} {X Y : Nat → Prop} {l : List Tr} {xs : List Value} (h : RowTr w X l xs) (hk : ∀ g j, X g → g < w.heap.size → w'.cell? ⟨g, j, none⟩ = w.cell? ⟨g, j, none⟩ ∧ Y g) : RowTr w' Y l xs :=
 ⟨h.1, fun j hj => by
  obtain ⟨A, c, hc, ht⟩ := h.2 j hj
  exact ⟨A, c, hc, TIn.keep _ ht hk⟩⟩
theorem RowTr.below {w w' : World} {X : Nat → Prop} {l : List Tr} {xs : List Value} {B : Nat} (h : RowTr w X l xs) (hb : Below B w w') (hB : w.heap.size ≤ B) : RowTr w' X l xs :=
 h.keep fun g j hX hlt => ⟨hb.cell (p := ⟨g, j, none⟩) (by show g < B; omega), hX⟩
theorem RowTr.wide {w : World} {X Y : Nat → Prop} {l : List Tr} {xs : List Value} (h : RowTr w X l xs) (hXY : ∀ g, X g → g < w.heap.size → Y g) : RowTr w Y l xs :=
 h.keep fun g _ hX hlt => ⟨rfl, hXY g hX hlt⟩
theorem RowTr.setCell {w : World} {X : Nat → Prop} {l : List Tr} {xs : List Value} (h : RowTr w X l xs) (p : Addr) (u : Value) (hp : ¬ X p.block) : RowTr (w.setCell p u) X l xs :=
 h.keep fun g j hX _ => ⟨World.cell?_setCell_other w p ⟨g, j, none⟩ u (fun e => by subst e; exact hp hX), hX⟩
theorem RowTr.grown {w w' : World} {X : Nat → Prop} {l : List Tr} {xs : List Value} {row : Option Nat} (h : RowTr w X l xs) (hg : w.grownBy w' row) (hp : ∀ g, row = some g → ¬ X g) : RowTr w' X l xs :=
 h.keep fun g _ hX hlt => ⟨World.cell?_of_block (hg.block g hlt (fun e => hp g e.symm hX)), hX⟩
theorem RowTr.snoc {w : World} {X : Nat → Prop} {l : List Tr} {xs : List Value} (h : RowTr w X l xs) {t : Tr} {A : Option Addr} {c : Nat} (ht : TIn w X t A) : RowTr w X (l ++ [t]) (xs ++ cellsT t A c) := by
 refine ⟨by simp [h.1, cellsT_length]; omega, fun j hj => ?_⟩
 rcases Nat.lt_or_ge j l.length with hlt | hge
 ·obtain ⟨A', c', hc, ht'⟩ := h.2 j hlt
  rw [List.getElem_append_left hlt]
  refine ⟨A', c', fun q hq => ?_, ht'⟩
  rw [List.getElem?_append_left (by rw [h.1]; omega)]
  exact hc q hq
 ·have hj' : j = l.length := by simp at hj; omega
  subst hj'
  rw [List.getElem_append_right (Nat.le_refl _)]
  simp only [Nat.sub_self, List.getElem_singleton]
  refine ⟨A, c, fun q hq => ?_, ht⟩
  rw [List.getElem?_append_right (by rw [h.1]; omega), h.1]
  congr 1
  omega
theorem RowTr.parts {w : World} {X Y : Nat → Prop} {l : List Tr} {xs : List Value} {g o : Nat} (h : RowTr w X l xs) (hg : Y g) (hXY : ∀ b, X b → b < w.heap.size → Y b)
  (hc : ∀ j u, xs[j]? = some u → w.cell? ⟨g, o + j, none⟩ = some u) : LIn w Y l (some ⟨g, o, none⟩) 0 := by
 refine LIn.mk l 0 fun i hi => ?_
 obtain ⟨A, c, hx, ht⟩ := h.2 i hi
 rw [Nat.zero_add]
 refine ⟨g, o, A, c, ⟨rfl, hg⟩, hc (i * 5) _ ((hx 0 (by omega)).trans rfl), ?_, ?_, ?_, ?_, TIn.wide _ ht hXY⟩
 ·have := hc (i * 5 + 1) _ ((hx 1 (by omega)).trans rfl); simpa [Nat.add_assoc] using this
 ·have := hc (i * 5 + 2) _ ((hx 2 (by omega)).trans rfl); simpa [Nat.add_assoc] using this
 ·have := hc (i * 5 + 3) _ ((hx 3 (by omega)).trans rfl); simpa [Nat.add_assoc] using this
 ·have := hc (i * 5 + 4) _ ((hx 4 (by omega)).trans rfl); simpa [Nat.add_assoc] using this
theorem RowTr.owned {w : World} {X Y : Nat → Prop} {l : List Tr} {xs : List Value} {base n c : Nat} {A : Option Addr} (h : RowTr w X l xs) (ho : w.ownsRow base 49 5 (.slice A n c) n xs) (hX : ∀ g, base ≤ g → Y g) (hXY : ∀ b, X b → b < w.heap.size → Y b) :
  LIn w Y l A 0 := by
 by_cases hl : l = []
 ·subst hl; rw [LIn]; trivial
 ·have hn : 0 < n := by
   have h1 := ho.1
   have h2 := h.1
   have := List.length_pos_iff.2 hl
   omega
  obtain ⟨g, cap, hv⟩ := Joins.ownsRow_form ho hn
  have hA : A = some ⟨g, 0, none⟩ := by injection hv
  subst hA
  refine h.parts (hX g ?_) hXY fun j u hu => ?_
  ·rcases ho.2 with ⟨e, _⟩ | ⟨g', _, _, e, hb, _⟩
   ·cases e
   ·injection e with e; injection e with e; injection e with e; subst e; exact hb
  ·have h1 := ho.cells (g := g) rfl j u hu
   have hadd : (⟨g, 0, none⟩ : Addr).add j = ⟨g, 0 + j, none⟩ := by unfold Addr.add; split <;> simp_all
   rw [hadd] at h1
   exact h1
theorem Lies.five {w : World} {g : Nat} {t : TypeId} {a b c d e : Value} (h : Lies w g t #[a, b, c, d, e]) :
  (w.cell? ⟨g, 0, none⟩ = some a ∧ w.cell? ⟨g, 1, none⟩ = some b ∧ w.cell? ⟨g, 2, none⟩ = some c ∧ w.cell? ⟨g, 3, none⟩ = some d ∧ w.cell? ⟨g, 4, none⟩ = some e) ∧
  w.frozen? ⟨g, 0, none⟩ = false ∧ w.frozen? ⟨g, 1, none⟩ = false ∧ w.frozen? ⟨g, 2, none⟩ = false ∧ w.frozen? ⟨g, 3, none⟩ = false ∧ w.frozen? ⟨g, 4, none⟩ = false :=
 ⟨⟨h.cell 0, h.cell 1, h.cell 2, h.cell 3, h.cell 4⟩, h.frozen 0, h.frozen 1, h.frozen 2, h.frozen 3, h.frozen 4⟩
theorem Lies.all5 {w : World} {g : Nat} {t : TypeId} {a b c d e : Value} (h : Lies w g t #[a, b, c, d, e]) (x y z u v : Value) : Lies (((((w.setCell ⟨g, 0, none⟩ x).setCell ⟨g, 1, none⟩ y).setCell ⟨g, 2, none⟩ z).setCell ⟨g, 3, none⟩ u).setCell ⟨g, 4, none⟩ v) g t #[x, y, z, u, v] := by
 simpa using ((((h.put 0 x).put 1 y).put 2 z).put 3 u).put 4 v
theorem Below.all5 {B : Nat} {a w : World} (h : Below B a w) {g : Nat} (hg : B ≤ g) (x y z u v : Value) : Below B a (((((w.setCell ⟨g, 0, none⟩ x).setCell ⟨g, 1, none⟩ y).setCell ⟨g, 2, none⟩ z).setCell ⟨g, 3, none⟩ u).setCell ⟨g, 4, none⟩ v) :=
 ((((h.setCell (p := ⟨g, 0, none⟩) hg x).setCell (p := ⟨g, 1, none⟩) hg y).setCell (p := ⟨g, 2, none⟩) hg z).setCell (p := ⟨g, 3, none⟩) hg u).setCell (p := ⟨g, 4, none⟩) hg v
theorem text_mk (l : List UInt8) : (⟨l.toArray⟩ : ByteArray).toList = l := ByteArray.toList_mk l
theorem kAt_of {l : List Tok} {i : Nat} (h : i < l.length) : kAt l i = (l[i]'h).kind := by unfold kAt; rw [List.getElem?_eq_getElem h]
theorem kAt_no {l : List Tok} {i : Nat} (h : ¬ i < l.length) : kAt l i = 0 := by unfold kAt; rw [List.getElem?_eq_none (by omega)]
theorem xAt_of {l : List Tok} {i : Nat} (h : i < l.length) : xAt l i = if 4 ≤ (l[i]'h).kind then (l[i]'h).text else [] := by unfold xAt; rw [List.getElem?_eq_getElem h]
theorem xAt_no {l : List Tok} {i : Nat} (h : ¬ i < l.length) : xAt l i = [] := by unfold xAt; rw [List.getElem?_eq_none (by omega)]
theorem Row.get {w : World} {A : Option Addr} {l : List Tok} (h : Row w A l) {i : Nat} (hi : i < l.length) :
  ∃ g o, A = some ⟨g, o, none⟩ ∧ w.cell? ⟨g, o + i * 4, none⟩ = some (.int .i64 (kAt l i)) ∧ w.cell? ⟨g, o + i * 4 + 1, none⟩ = some (.string (nmAt l i)) ∧ w.cell? ⟨g, o + i * 4 + 2, none⟩ = some (.int .i64 (nuAt l i)) ∧ w.cell? ⟨g, o + i * 4 + 3, none⟩ = some (.int .i64 (plAt l i)) := by
 obtain ⟨g, o, hA, c0, c1, c2, c3⟩ := h.at_ hi
 refine ⟨g, o, hA, ?_, ?_, ?_, ?_⟩
 ·rw [kAt_of hi]; exact c0
 ·unfold nmAt; rw [List.getElem?_eq_getElem hi]; exact c1
 ·unfold nuAt; rw [List.getElem?_eq_getElem hi]; exact c2
 ·unfold plAt; rw [List.getElem?_eq_getElem hi]; exact c3
theorem xAt_get {l : List Tok} {i : Nat} (h : i < l.length) : xAt l i = if 4 ≤ kAt l i then (nmAt l i).toList else [] := by
 rw [xAt_of h, kAt_of h]
 unfold nmAt
 rw [List.getElem?_eq_getElem h, text_mk]
set_option maxHeartbeats 1000000 in
theorem gkind_any (l : List Tok) (A : Option Addr) (n c i : Nat) (w : World) (hn : n = l.length) (_hi : i ≤ 70000) (_hn6 : n ≤ 60000) (hR : Row w A l) :
  Calls Tryz.prog 102 #[.slice A n c, .int .i64 i] w fun e w' => e = .returned (.int .i64 (kAt l i)) ∧ w = w' := by
 by_cases hlt : i < n
 ·obtain ⟨g, o, rfl, c0, c1, c2, c3⟩ := hR.get (i := i) (by omega)
  clear hR hn
  obtain ⟨K, hK⟩ : ∃ K, K = kAt l i := ⟨_, rfl⟩
  rw [← hK] at c0 ⊢
  clear hK c1 c2 c3
  go_enter Tryz.func102, Tryz.ntmps102
  go_wp2_with fail
  go_ret
  exact ⟨rfl, rfl⟩
 ·have HE := Lib.hid (kAt_no (l := l) (i := i) (by omega))
  clear hR hn
  go_enter Tryz.func102, Tryz.ntmps102
  go_wp2_with fail
  go_ret
  exact ⟨ret_int HE.out.symm, rfl⟩
theorem ret_str {a b : ByteArray} (h : a = b) : Ending.returned (.string a) = .returned (.string b) := by rw [h]
theorem bytes_ext {a b : ByteArray} (h : a.toList = b.toList) : a = b := by
 rw [data_list, data_list] at h
 obtain ⟨⟨a⟩⟩ := a
 obtain ⟨⟨b⟩⟩ := b
 simp at h
 rw [h]
set_option maxHeartbeats 1000000 in
theorem gtext_any (l : List Tok) (A : Option Addr) (n c i : Nat) (w : World) (hn : n = l.length) (_hi : i ≤ 70000) (_hn6 : n ≤ 60000) (hR : Row w A l) :
  Calls Tryz.prog 72 #[.slice A n c, .int .i64 i] w fun e w' => e = .returned (.string ⟨(xAt l i).toArray⟩) ∧ w = w' := by
 by_cases hlt : i < n
 ·obtain ⟨g, o, rfl, c0, c1, c2, c3⟩ := hR.get (i := i) (by omega)
  have hx := xAt_get (l := l) (i := i) (by omega)
  clear hR hn
  obtain ⟨K, hK⟩ : ∃ K, K = kAt l i := ⟨_, rfl⟩
  obtain ⟨S, hS⟩ : ∃ S, S = nmAt l i := ⟨_, rfl⟩
  rw [← hK] at c0 hx
  rw [← hS] at c1 hx
  clear hK hS c2 c3
  by_cases h4 : 4 ≤ K
  ·rw [if_pos h4] at hx
   have HX := Lib.hid hx
   clear hx
   go_enter Tryz.func72, Tryz.ntmps72
   go_wp2_with fail
   go_ret
   exact ⟨ret_str (bytes_ext (HX.out.symm.trans (text_mk _).symm)), rfl⟩
  ·rw [if_neg h4] at hx
   have HX := Lib.hid hx
   have h4' : ¬ 4 ≤ K := h4
   clear hx h4
   go_enter Tryz.func72, Tryz.ntmps72
   go_wp2_with fail
   go_ret
   exact ⟨ret_str (by rw [HX.out]), rfl⟩
 ·have HE := Lib.hid (xAt_no (l := l) (i := i) (by omega))
  clear hR hn
  go_enter Tryz.func72, Tryz.ntmps72
  go_wp2_with fail
  go_ret
  exact ⟨ret_str (by rw [HE.out]), rfl⟩
def gv (t : Tr) (A : Option Addr) (c j : Nat) (ok : Bool) : Value := .agg #[.int .i64 t.kind, .string t.name, .int .i64 t.n, .int .i64 t.place, .slice A t.parts.length (capF t.parts.length c), .int .i64 j, .bool ok]
def noTr : Tr := .node 0 ⟨#[]⟩ 0 0 []
def GPost (w : World) (r : GR) (e : Ending) (w' : World) : Prop :=
 Below w.heap.size w w' ∧ (∀ j, r = .error j → e = .returned (gv noTr none 0 j false)) ∧ (∀ t j, r = .ok (t, j) → ∃ A c, e = .returned (gv t A c j true) ∧ TIn w' (fun g => w.heap.size ≤ g) t A)
abbrev zero7 : Array Value := #[.int .i64 0, .string ⟨#[]⟩, .int .i64 0, .int .i64 0, .slice none 0 0, .int .i64 0, .bool false]
theorem res_got {fn : Func} {p : Tmp} (h : fn.results = #[.cell p 72]) {tmps : Array Value} {g : Nat} {a b c d e x y : Value} {w : World} (hp : tmps.getD p undef = .pointer (some ⟨g, 0, none⟩)) (L : Lies w g 72 #[a, b, c, d, e, x, y]) :
  (results fn tmps).run Tryz.prog w = .ok (.agg #[a, b, c, d, e, x, y]) w := by
 have hl := run_loadVar_row (P := Tryz.prog) w g 72 72 #[a, b, c, d, e, x, y] (0, 0) _ L Tryz.underlying72 rfl (by kernel_rfl)
 have hp' : tmps[p]?.getD undef = .pointer (some ⟨g, 0, none⟩) := by simpa using hp
 simp only [results, h]
 simp [hp', asAddr, hl]
theorem Lies.seven {w : World} {g : Nat} {t : TypeId} {a b c d e x y : Value} (h : Lies w g t #[a, b, c, d, e, x, y]) :
  (w.cell? ⟨g, 0, none⟩ = some a ∧ w.cell? ⟨g, 1, none⟩ = some b ∧ w.cell? ⟨g, 2, none⟩ = some c ∧ w.cell? ⟨g, 3, none⟩ = some d ∧ w.cell? ⟨g, 4, none⟩ = some e ∧ w.cell? ⟨g, 5, none⟩ = some x ∧ w.cell? ⟨g, 6, none⟩ = some y) ∧
  w.frozen? ⟨g, 0, none⟩ = false ∧ w.frozen? ⟨g, 1, none⟩ = false ∧ w.frozen? ⟨g, 2, none⟩ = false ∧ w.frozen? ⟨g, 3, none⟩ = false ∧ w.frozen? ⟨g, 4, none⟩ = false ∧ w.frozen? ⟨g, 5, none⟩ = false ∧ w.frozen? ⟨g, 6, none⟩ = false :=
 ⟨⟨h.cell 0, h.cell 1, h.cell 2, h.cell 3, h.cell 4, h.cell 5, h.cell 6⟩, h.frozen 0, h.frozen 1, h.frozen 2, h.frozen 3, h.frozen 4, h.frozen 5, h.frozen 6⟩
abbrev put7 (w : World) (g : Nat) (a b c d e x y : Value) : World := (((((((w.setCell ⟨g, 0, none⟩ a).setCell ⟨g, 1, none⟩ b).setCell ⟨g, 2, none⟩ c).setCell ⟨g, 3, none⟩ d).setCell ⟨g, 4, none⟩ e).setCell ⟨g, 5, none⟩ x).setCell ⟨g, 6, none⟩ y)
theorem Lies.all7 {w : World} {g : Nat} {t : TypeId} {a b c d e x y : Value} (h : Lies w g t #[a, b, c, d, e, x, y]) (a' b' c' d' e' x' y' : Value) : Lies (put7 w g a' b' c' d' e' x' y') g t #[a', b', c', d', e', x', y'] := by
 simpa using ((((((h.put 0 a').put 1 b').put 2 c').put 3 d').put 4 e').put 5 x').put 6 y'
theorem Below.all7 {B : Nat} {a w : World} (h : Below B a w) {g : Nat} (hg : B ≤ g) (a' b' c' d' e' x' y' : Value) : Below B a (put7 w g a' b' c' d' e' x' y') :=
 ((((((h.setCell (p := ⟨g, 0, none⟩) hg a').setCell (p := ⟨g, 1, none⟩) hg b').setCell (p := ⟨g, 2, none⟩) hg c').setCell (p := ⟨g, 3, none⟩) hg d').setCell (p := ⟨g, 4, none⟩) hg e').setCell (p := ⟨g, 5, none⟩) hg x').setCell (p := ⟨g, 6, none⟩) hg y'
theorem TIn.all7 (t : Tr) {w : World} {X : Nat → Prop} {A : Option Addr} (h : TIn w X t A) {g : Nat} (hg : ¬ X g) (a' b' c' d' e' x' y' : Value) : TIn (put7 w g a' b' c' d' e' x' y') X t A :=
 TIn.setCell _ (TIn.setCell _ (TIn.setCell _ (TIn.setCell _ (TIn.setCell _ (TIn.setCell _ (TIn.setCell _ h ⟨g, 0, none⟩ a' hg) ⟨g, 1, none⟩ b' hg) ⟨g, 2, none⟩ c' hg) ⟨g, 3, none⟩ d' hg) ⟨g, 4, none⟩ e' hg) ⟨g, 5, none⟩ x' hg) ⟨g, 6, none⟩ y' hg
set_option maxHeartbeats 1000000 in
theorem gno_any (j : Nat) (w : World) : Calls Tryz.prog 103 #[.int .i64 j] w fun e w' => e = .returned (gv noTr none 0 j false) ∧ Below w.heap.size w w' := by
 go_enter Tryz.func103, Tryz.ntmps103
 go_wp2_with fail
 exact bodyPost_ret (res_got (p := 2) Tryz.results103 rfl (Lies.new w _ _)) rfl ⟨rfl, (Below.refl _ w).alloc (Nat.le_refl _) _⟩
set_option maxHeartbeats 1000000 in
theorem gyes_any (k n a : Int) (s : ByteArray) (A : Option Addr) (m c j : Nat) (w : World) : Calls Tryz.prog 104 #[.agg #[.int .i64 k, .string s, .int .i64 n, .int .i64 a, .slice A m c], .int .i64 j] w
  fun e w' => e = .returned (.agg #[.int .i64 k, .string s, .int .i64 n, .int .i64 a, .slice A m c, .int .i64 j, .bool true]) ∧ Below w.heap.size w w' := by
 go_enter Tryz.func104, Tryz.ntmps104
 go_wp2_with fail
 have L := Lies.new (w.alloc (.cells #[.int .i64 k, .string s, .int .i64 n, .int .i64 a, .slice A m c] 49)) 72 #[.int .i64 k, .string s, .int .i64 n, .int .i64 a, .slice A m c, .int .i64 j, .bool true]
 rw [show (w.alloc (.cells #[.int .i64 k, .string s, .int .i64 n, .int .i64 a, .slice A m c] 49)).heap.size = w.heap.size + 1 from by simp] at L
 exact bodyPost_ret (res_got (p := 4) Tryz.results104 rfl L) rfl ⟨rfl, ((Below.refl _ w).alloc (Nat.le_refl _) _).alloc (by simp) _⟩
set_option maxHeartbeats 2000000 in
theorem gatomic_any (l : List Tok) (A : Option Addr) (n c i : Nat) (w : World) (hn : n = l.length) (hi : i ≤ 70000) (hn6 : n ≤ 60000) (hR : Row w A l) :
  Calls Tryz.prog 121 #[.slice A n c, .int .i64 i] w fun e w' => e = .returned (.bool (atomicA l i)) ∧ w = w' := by
 have HK := Lib.hid (gkind_any l A n c i w hn hi hn6 hR)
 have HT := Lib.hid (gtext_any l A n c i w hn hi hn6 hR)
 have HE : Hid (atomicA l i = ((decide (1 ≤ kAt l i) && decide (kAt l i ≤ 3)) || xAt l i == [40])) := by exact rfl
 obtain ⟨K, hK⟩ : ∃ K, K = kAt l i := ⟨_, rfl⟩
 obtain ⟨X, hX⟩ : ∃ X, X = xAt l i := ⟨_, rfl⟩
 rw [← hK] at HK HE
 rw [← hX] at HT HE
 have HX2 := Lib.hid (text_mk X)
 clear hK hX hR hn
 by_cases h1 : 1 ≤ K
 ·by_cases h3 : K ≤ 3
  ·go_enter Tryz.func121, Tryz.ntmps121
   go_wp2_with fail
   refine HK.out.mono ?_
   rintro e w' ⟨rfl, rfl⟩
   go_wp2_with fail
   go_ret
   exact ⟨ret_bool (by rw [HE.out, decide_eq_true (by omega : 1 ≤ K), decide_eq_true (by omega : K ≤ 3)]; rfl), rfl⟩
  ·have h3' : ¬ K ≤ 3 := h3
   by_cases hx : X = [40]
   ·subst hx
    go_enter Tryz.func121, Tryz.ntmps121
    go_wp2_with fail
    refine HK.out.mono ?_
    rintro e w' ⟨rfl, rfl⟩
    go_wp2_with fail
    refine HT.out.mono ?_
    rintro e w' ⟨rfl, rfl⟩
    go_wp2_with fail
    go_ret
    exact ⟨ret_bool (by rw [HE.out]; exact (Bool.or_true _).symm), rfl⟩
   ·have hx2 : ¬ [40] = X := fun e => hx e.symm
    have hx3 : ¬ (⟨X.toArray⟩ : ByteArray).toList = [40] := by rw [text_mk]; exact hx
    go_enter Tryz.func121, Tryz.ntmps121
    go_wp2_with fail
    refine HK.out.mono ?_
    rintro e w' ⟨rfl, rfl⟩
    go_wp2_with fail
    refine HT.out.mono ?_
    rintro e w' ⟨rfl, rfl⟩
    go_wp2_with fail
    go_ret
    exact ⟨ret_bool (by rw [HE.out, decide_eq_false (by omega : ¬ K ≤ 3), Bool.and_false]), rfl⟩
 ·have h1' : ¬ 1 ≤ K := h1
  by_cases hx : X = [40]
  ·subst hx
   go_enter Tryz.func121, Tryz.ntmps121
   go_wp2_with fail
   refine HK.out.mono ?_
   rintro e w' ⟨rfl, rfl⟩
   go_wp2_with fail
   refine HT.out.mono ?_
   rintro e w' ⟨rfl, rfl⟩
   go_wp2_with fail
   go_ret
   exact ⟨ret_bool (by rw [HE.out]; exact (Bool.or_true _).symm), rfl⟩
  ·have hx2 : ¬ [40] = X := fun e => hx e.symm
   have hx3 : ¬ (⟨X.toArray⟩ : ByteArray).toList = [40] := by rw [text_mk]; exact hx
   go_enter Tryz.func121, Tryz.ntmps121
   go_wp2_with fail
   refine HK.out.mono ?_
   rintro e w' ⟨rfl, rfl⟩
   go_wp2_with fail
   refine HT.out.mono ?_
   rintro e w' ⟨rfl, rfl⟩
   go_wp2_with fail
   go_ret
   exact ⟨ret_bool (by rw [HE.out, decide_eq_false (by omega : ¬ 1 ≤ K), Bool.false_and, Bool.false_or]), rfl⟩
theorem gkind_at (l : List Tok) (A : Option Addr) (n c i : Nat) (x : Int) (w : World) (hx : x = (i : Int)) (hn : n = l.length) (hi : i ≤ 70000) (hn6 : n ≤ 60000) (hR : Row w A l) :
  Calls Tryz.prog 102 #[.slice A n c, .int .i64 x] w fun e w' => e = .returned (.int .i64 (kAt l i)) ∧ w = w' := by
 subst hx; exact gkind_any l A n c i w hn hi hn6 hR
theorem gtext_at (l : List Tok) (A : Option Addr) (n c i : Nat) (x : Int) (w : World) (hx : x = (i : Int)) (hn : n = l.length) (hi : i ≤ 70000) (hn6 : n ≤ 60000) (hR : Row w A l) :
  Calls Tryz.prog 72 #[.slice A n c, .int .i64 x] w fun e w' => e = .returned (.string ⟨(xAt l i).toArray⟩) ∧ w = w' := by
 subst hx; exact gtext_any l A n c i w hn hi hn6 hR
theorem gyes_at (k n a : Int) (s : ByteArray) (A : Option Addr) (m c j : Nat) (x : Int) (w : World) (hx : x = (j : Int)) : Calls Tryz.prog 104 #[.agg #[.int .i64 k, .string s, .int .i64 n, .int .i64 a, .slice A m c], .int .i64 x] w
  fun e w' => e = .returned (.agg #[.int .i64 k, .string s, .int .i64 n, .int .i64 a, .slice A m c, .int .i64 j, .bool true]) ∧ Below w.heap.size w w' := by
 subst hx; exact gyes_any k n a s A m c j w
def GC (F : FuncId) (l : List Tok) (A : Option Addr) (n c rank : Nat) (g : Nat → List Tok → Nat → GR) (f : Nat) : Prop :=
 ∀ (i : Nat) (x : Int) (w : World), x = (i : Int) → i ≤ n + 8 → 8 * (n - i) + rank ≤ f → Row w A l → Calls Tryz.prog F #[.slice A n c, .int .i64 x] w (GPost w (g f l i))
structure GTok (l : List Tok) (n : Nat) : Prop where
 len : n = l.length
 few : n ≤ 60000
 small : ∀ i, (nmAt l i).size ≤ 140737488351232
theorem below_seven {w : World} : Below w.heap.size w (w.alloc (.cells zero7 72)) := (Below.refl _ w).alloc (Nat.le_refl _) _
theorem gpost_err {w V : World} {j : Nat} {r : GR} (hr : r = .error j) (hb : Below w.heap.size w V) : GPost w r (.returned (gv noTr none 0 j false)) (put7 V w.heap.size (.int .i64 0) (.string ⟨#[]⟩) (.int .i64 0) (.int .i64 0) (.slice none 0 0) (.int .i64 j) (.bool false)) := by
 subst hr
 exact ⟨Below.all7 hb (Nat.le_refl _) _ _ _ _ _ _ _, fun j' h => by cases h; rfl, fun t j' h => by cases h⟩
theorem gpost_ok {w V : World} {t : Tr} {A : Option Addr} {c j : Nat} {r : GR} (hr : r = .ok (t, j)) (hb : Below w.heap.size w V) (hT : TIn V (fun g => w.heap.size + 1 ≤ g) t A) :
  GPost w r (.returned (gv t A c j true)) (put7 V w.heap.size (.int .i64 t.kind) (.string t.name) (.int .i64 t.n) (.int .i64 t.place) (.slice A t.parts.length (capF t.parts.length c)) (.int .i64 j) (.bool true)) := by
 subst hr
 refine ⟨Below.all7 hb (Nat.le_refl _) _ _ _ _ _ _ _, fun j' h => (by cases h), fun t' j' h => ?_⟩
 cases h
 refine ⟨A, c, rfl, ?_⟩
 exact TIn.wide _ (TIn.all7 _ hT (g := w.heap.size) (by omega) _ _ _ _ _ _ _) (fun g h _ => by omega)
theorem GPost.split {w V : World} {r : GR} {e : Ending} (h : GPost w r e V) :
  (∃ j, r = .error j ∧ e = .returned (.agg #[.int .i64 0, .string ⟨#[]⟩, .int .i64 0, .int .i64 0, .slice none 0 0, .int .i64 j, .bool false])) ∨
  (∃ t j A c, r = .ok (t, j) ∧ e = .returned (.agg #[.int .i64 t.kind, .string t.name, .int .i64 t.n, .int .i64 t.place, .slice A t.parts.length (capF t.parts.length c), .int .i64 j, .bool true]) ∧ TIn V (fun g => w.heap.size ≤ g) t A) := by
 rcases hr : r with j | ⟨t, j⟩
 ·exact .inl ⟨j, rfl, h.2.1 j hr⟩
 ·obtain ⟨A, c, he, hT⟩ := h.2.2 t j hr
  exact .inr ⟨t, j, A, c, rfl, he, hT⟩
def GCO (l : List Tok) (A : Option Addr) (n c f : Nat) (lev : Nat) : Prop :=
 ∀ (i : Nat) (x y : Int) (w : World), x = (i : Int) → y = (lev : Int) → i ≤ n + 8 → 8 * (n - i) + (6 - lev) ≤ f → Row w A l → Calls Tryz.prog 76 #[.slice A n c, .int .i64 x, .int .i64 y] w (GPost w (gOps f l i lev))
theorem bytes_ne {l m : List UInt8} (h : ¬ l = m) : ¬ (⟨l.toArray⟩ : ByteArray).toList = m := by rw [text_mk]; exact h
theorem Row.at_new {w : World} {A : Option Addr} {l : List Tok} (h : Row w A l) {V : World} (hb : Below w.heap.size w V) : Row V A l := h.below (B := w.heap.size) hb (Nat.le_refl _)
set_option maxHeartbeats 4000000 in
theorem gexpr_any {l : List Tok} {A : Option Addr} {n c f : Nat} (T : GTok l n) (HL : GC 73 l A n c 6 gLam f) (HT : GC 74 l A n c 6 gLet f) (HM : ∀ (i : Nat) (x : Int) (w : World), x = (i : Int) → i < n → 8 * (n - i) + 6 ≤ f → Row w A l → Calls Tryz.prog 75 #[.slice A n c, .int .i64 x] w (GPost w (gMatch f l i))) (HO : GCO l A n c f 0) :
  GC 49 l A n c 7 gExpr (f + 1) := by
 intro i x w hx hi hf hR
 subst hx
 have h6 := T.few
 have hb0 := below_seven (w := w)
 have hR1 := hR.at_new hb0
 have HX := Lib.hid (gtext_any l A n c i (w.alloc (.cells zero7 72)) T.len (by omega) h6 hR1)
 obtain ⟨X, hX⟩ : ∃ X, X = xAt l i := ⟨_, rfl⟩
 have HX2 := Lib.hid (text_mk X)
 rw [← hX] at HX
 by_cases h1 : X = [92]
 ·have HC1 := Lib.hid (HL i i (w.alloc (.cells zero7 72)) rfl hi (by omega) hR1)
  subst h1
  have HE : Hid (gExpr (f + 1) l i = gLam f l i) := by
   refine Lib.hid ?_
   rw [gExpr]
   rw [← hX]; rfl
  clear T
  obtain ⟨r, hr⟩ : ∃ r, r = gLam f l i := ⟨_, rfl⟩
  rw [← hr] at HE HC1
  clear hr hX
  go_enter Tryz.func49, Tryz.ntmps49
  go_wp2_with fail
  refine HX.out.mono ?_
  rintro e w' ⟨rfl, rfl⟩
  go_wp2_with fail
  refine HC1.out.mono ?_
  intro e V hG
  have hb := hb0.trans (hG.1.mono hb0.size)
  have L := (Lies.new w 72 zero7).below hG.1 (by simp)
  rcases hG.split with ⟨j, hr, rfl⟩ | ⟨t, j, A2, c2, hr, rfl, hT⟩
  ·have q := L.seven
   go_wp2_with fail
   exact bodyPost_ret (res_got (p := 4) Tryz.results49 rfl (Lies.all7 L _ _ _ _ _ _ _)) rfl (gpost_err (HE.out.trans hr) hb)
  ·have q := L.seven
   go_wp2_with fail
   exact bodyPost_ret (res_got (p := 4) Tryz.results49 rfl (Lies.all7 L _ _ _ _ _ _ _)) rfl (gpost_ok (HE.out.trans hr) hb (TIn.wide _ hT (fun g hg _ => by simpa using hg)))
 by_cases h2 : X = [108, 101, 116]
 ·have HC2 := Lib.hid (HT i i (w.alloc (.cells zero7 72)) rfl hi (by omega) hR1)
  subst h2
  have HE : Hid (gExpr (f + 1) l i = gLet f l i) := by
   refine Lib.hid ?_
   rw [gExpr]
   rw [← hX]; rfl
  clear T
  obtain ⟨r, hr⟩ : ∃ r, r = gLet f l i := ⟨_, rfl⟩
  rw [← hr] at HE HC2
  clear hr hX
  go_enter Tryz.func49, Tryz.ntmps49
  go_wp2_with fail
  refine HX.out.mono ?_
  rintro e w' ⟨rfl, rfl⟩
  go_wp2_with fail
  refine HC2.out.mono ?_
  intro e V hG
  have hb := hb0.trans (hG.1.mono hb0.size)
  have L := (Lies.new w 72 zero7).below hG.1 (by simp)
  rcases hG.split with ⟨j, hr, rfl⟩ | ⟨t, j, A2, c2, hr, rfl, hT⟩
  ·have q := L.seven
   go_wp2_with fail
   exact bodyPost_ret (res_got (p := 4) Tryz.results49 rfl (Lies.all7 L _ _ _ _ _ _ _)) rfl (gpost_err (HE.out.trans hr) hb)
  ·have q := L.seven
   go_wp2_with fail
   exact bodyPost_ret (res_got (p := 4) Tryz.results49 rfl (Lies.all7 L _ _ _ _ _ _ _)) rfl (gpost_ok (HE.out.trans hr) hb (TIn.wide _ hT (fun g hg _ => by simpa using hg)))
 by_cases h3 : X = [108, 101, 116, 114, 101, 99]
 ·have HC2 := Lib.hid (HT i i (w.alloc (.cells zero7 72)) rfl hi (by omega) hR1)
  subst h3
  have HE : Hid (gExpr (f + 1) l i = gLet f l i) := by
   refine Lib.hid ?_
   rw [gExpr]
   rw [← hX]; rfl
  clear T
  obtain ⟨r, hr⟩ : ∃ r, r = gLet f l i := ⟨_, rfl⟩
  rw [← hr] at HE HC2
  clear hr hX
  go_enter Tryz.func49, Tryz.ntmps49
  go_wp2_with fail
  refine HX.out.mono ?_
  rintro e w' ⟨rfl, rfl⟩
  go_wp2_with fail
  refine HC2.out.mono ?_
  intro e V hG
  have hb := hb0.trans (hG.1.mono hb0.size)
  have L := (Lies.new w 72 zero7).below hG.1 (by simp)
  rcases hG.split with ⟨j, hr, rfl⟩ | ⟨t, j, A2, c2, hr, rfl, hT⟩
  ·have q := L.seven
   go_wp2_with fail
   exact bodyPost_ret (res_got (p := 4) Tryz.results49 rfl (Lies.all7 L _ _ _ _ _ _ _)) rfl (gpost_err (HE.out.trans hr) hb)
  ·have q := L.seven
   go_wp2_with fail
   exact bodyPost_ret (res_got (p := 4) Tryz.results49 rfl (Lies.all7 L _ _ _ _ _ _ _)) rfl (gpost_ok (HE.out.trans hr) hb (TIn.wide _ hT (fun g hg _ => by simpa using hg)))
 by_cases h4 : X = [99, 97, 115, 101]
 ·have HC3 := Lib.hid (HM i i (w.alloc (.cells zero7 72)) rfl (by rw [T.len]; exact xAt_lt (hX.symm.trans h4) (by simp)) (by omega) hR1)
  subst h4
  have HE : Hid (gExpr (f + 1) l i = gMatch f l i) := by
   refine Lib.hid ?_
   rw [gExpr]
   rw [← hX]; rfl
  clear T
  obtain ⟨r, hr⟩ : ∃ r, r = gMatch f l i := ⟨_, rfl⟩
  rw [← hr] at HE HC3
  clear hr hX
  go_enter Tryz.func49, Tryz.ntmps49
  go_wp2_with fail
  refine HX.out.mono ?_
  rintro e w' ⟨rfl, rfl⟩
  go_wp2_with fail
  refine HC3.out.mono ?_
  intro e V hG
  have hb := hb0.trans (hG.1.mono hb0.size)
  have L := (Lies.new w 72 zero7).below hG.1 (by simp)
  rcases hG.split with ⟨j, hr, rfl⟩ | ⟨t, j, A2, c2, hr, rfl, hT⟩
  ·have q := L.seven
   go_wp2_with fail
   exact bodyPost_ret (res_got (p := 4) Tryz.results49 rfl (Lies.all7 L _ _ _ _ _ _ _)) rfl (gpost_err (HE.out.trans hr) hb)
  ·have q := L.seven
   go_wp2_with fail
   exact bodyPost_ret (res_got (p := 4) Tryz.results49 rfl (Lies.all7 L _ _ _ _ _ _ _)) rfl (gpost_ok (HE.out.trans hr) hb (TIn.wide _ hT (fun g hg _ => by simpa using hg)))
 have HC4 := Lib.hid (HO i i 0 (w.alloc (.cells zero7 72)) rfl rfl hi (by omega) hR1)
 have n1 := bytes_ne h1
 have b1 : (X == [92]) = false := beq_eq_false_iff_ne.2 h1
 have b2 : (X == [108, 101, 116]) = false := beq_eq_false_iff_ne.2 h2
 have b3 : (X == [108, 101, 116, 114, 101, 99]) = false := beq_eq_false_iff_ne.2 h3
 have b4 : (X == [99, 97, 115, 101]) = false := beq_eq_false_iff_ne.2 h4
 have n2 : ¬ (⟨X.toArray⟩ : ByteArray).toList = [108, 101, 116] := bytes_ne h2
 have n3 : ¬ (⟨X.toArray⟩ : ByteArray).toList = [108, 101, 116, 114, 101, 99] := bytes_ne h3
 have n4 : ¬ (⟨X.toArray⟩ : ByteArray).toList = [99, 97, 115, 101] := bytes_ne h4
 have HE : Hid (gExpr (f + 1) l i = gOps f l i ((0 : Nat) : Int)) := by
  refine Lib.hid ?_
  rw [gExpr]
  rw [← hX, if_neg (by simpa using h1), if_neg (by simp [letS, letrecS, h2, h3]), if_neg (by simpa [caseS] using h4)]; rfl
 clear T
 obtain ⟨r, hr⟩ : ∃ r, r = gOps f l i ((0 : Nat) : Int) := ⟨_, rfl⟩
 rw [← hr] at HE HC4
 clear hr hX
 go_enter Tryz.func49, Tryz.ntmps49
 go_wp2_with fail
 refine HX.out.mono ?_
 rintro e w' ⟨rfl, rfl⟩
 go_wp2_with fail
 refine HC4.out.mono ?_
 intro e V hG
 have hb := hb0.trans (hG.1.mono hb0.size)
 have L := (Lies.new w 72 zero7).below hG.1 (by simp)
 rcases hG.split with ⟨j, hr, rfl⟩ | ⟨t, j, A2, c2, hr, rfl, hT⟩
 ·have q := L.seven
  go_wp2_with fail
  exact bodyPost_ret (res_got (p := 4) Tryz.results49 rfl (Lies.all7 L _ _ _ _ _ _ _)) rfl (gpost_err (HE.out.trans hr) hb)
 ·have q := L.seven
  go_wp2_with fail
  exact bodyPost_ret (res_got (p := 4) Tryz.results49 rfl (Lies.all7 L _ _ _ _ _ _ _)) rfl (gpost_ok (HE.out.trans hr) hb (TIn.wide _ hT (fun g hg _ => by simpa using hg)))
set_option maxHeartbeats 4000000 in
theorem gsign_any {l : List Tok} {A : Option Addr} {n c : Nat} (T : GTok l n) (i lev : Nat) (x y : Int) (w : World) (hx : x = (i : Int)) (hy : y = (lev : Int)) (hi : i ≤ n + 8) (hl : lev < 3) (hR : Row w A l) :
  Calls Tryz.prog 107 #[.slice A n c, .int .i64 x, .int .i64 y] w fun e w' => e = .returned (.bool (signA l i lev)) ∧ w = w' := by
 subst hx hy
 have HX := Lib.hid (gtext_any l A n c i w T.len (by have := T.few; omega) T.few hR)
 have hs := fun v => signA l i v
 obtain ⟨X, hX⟩ : ∃ X, X = xAt l i := ⟨_, rfl⟩
 rw [← hX] at HX
 clear hs
 by_cases h0 : lev = 0
 ·subst h0
  have HE : Hid (signA l i ((0 : Nat) : Int) = (X == [60] || X == [61, 61])) := by
   refine Lib.hid ?_
   unfold signA; rw [if_pos (by rfl), ← hX]
  clear hX T hR
  by_cases g0 : X = [60]
  ·subst g0
   go_enter Tryz.func107, Tryz.ntmps107
   go_wp2_with fail
   refine HX.out.mono ?_
   rintro e w' ⟨rfl, rfl⟩
   go_wp2_with fail
   go_ret
   exact ⟨ret_bool (by rw [HE.out]; rfl), rfl⟩
  by_cases g1 : X = [61, 61]
  ·subst g1
   go_enter Tryz.func107, Tryz.ntmps107
   go_wp2_with fail
   refine HX.out.mono ?_
   rintro e w' ⟨rfl, rfl⟩
   go_wp2_with fail
   go_ret
   exact ⟨ret_bool (by rw [HE.out]; rfl), rfl⟩
  have b0 : (X == [60]) = false := beq_eq_false_iff_ne.2 g0
  have b1 : (X == [61, 61]) = false := beq_eq_false_iff_ne.2 g1
  go_enter Tryz.func107, Tryz.ntmps107
  go_wp2_with fail
  refine HX.out.mono ?_
  rintro e w' ⟨rfl, rfl⟩
  go_wp2_with fail
  go_ret
  exact ⟨ret_bool (by rw [HE.out, b0, b1]; rfl), rfl⟩
 by_cases h1 : lev = 1
 ·subst h1
  have HE : Hid (signA l i ((1 : Nat) : Int) = (X == [43] || X == [45])) := by
   refine Lib.hid ?_
   unfold signA; rw [if_neg (by decide), if_pos (by rfl), ← hX]
  clear hX T hR
  by_cases g0 : X = [43]
  ·subst g0
   go_enter Tryz.func107, Tryz.ntmps107
   go_wp2_with fail
   refine HX.out.mono ?_
   rintro e w' ⟨rfl, rfl⟩
   go_wp2_with fail
   go_ret
   exact ⟨ret_bool (by rw [HE.out]; rfl), rfl⟩
  by_cases g1 : X = [45]
  ·subst g1
   go_enter Tryz.func107, Tryz.ntmps107
   go_wp2_with fail
   refine HX.out.mono ?_
   rintro e w' ⟨rfl, rfl⟩
   go_wp2_with fail
   go_ret
   exact ⟨ret_bool (by rw [HE.out]; rfl), rfl⟩
  have b0 : (X == [43]) = false := beq_eq_false_iff_ne.2 g0
  have b1 : (X == [45]) = false := beq_eq_false_iff_ne.2 g1
  go_enter Tryz.func107, Tryz.ntmps107
  go_wp2_with fail
  refine HX.out.mono ?_
  rintro e w' ⟨rfl, rfl⟩
  go_wp2_with fail
  go_ret
  exact ⟨ret_bool (by rw [HE.out, b0, b1]; rfl), rfl⟩
 obtain rfl : lev = 2 := by omega
 have HE : Hid (signA l i ((2 : Nat) : Int) = (X == [42] || X == [47])) := by
  refine Lib.hid ?_
  unfold signA; rw [if_neg (by decide), if_neg (by decide), ← hX]
 clear hX T hR
 by_cases g0 : X = [42]
 ·subst g0
  go_enter Tryz.func107, Tryz.ntmps107
  go_wp2_with fail
  refine HX.out.mono ?_
  rintro e w' ⟨rfl, rfl⟩
  go_wp2_with fail
  go_ret
  exact ⟨ret_bool (by rw [HE.out]; rfl), rfl⟩
 by_cases g1 : X = [47]
 ·subst g1
  go_enter Tryz.func107, Tryz.ntmps107
  go_wp2_with fail
  refine HX.out.mono ?_
  rintro e w' ⟨rfl, rfl⟩
  go_wp2_with fail
  go_ret
  exact ⟨ret_bool (by rw [HE.out]; rfl), rfl⟩
 have b0 : (X == [42]) = false := beq_eq_false_iff_ne.2 g0
 have b1 : (X == [47]) = false := beq_eq_false_iff_ne.2 g1
 go_enter Tryz.func107, Tryz.ntmps107
 go_wp2_with fail
 refine HX.out.mono ?_
 rintro e w' ⟨rfl, rfl⟩
 go_wp2_with fail
 go_ret
 exact ⟨ret_bool (by rw [HE.out, b0, b1]; rfl), rfl⟩
end Lx
end Go.Proofs.YtiocmiikghcoaaaGreatDoor
namespace Go.Proofs.YtiocmiikghcoaaaGreatDoor
namespace Lx
set_option maxRecDepth 100000
theorem names_err : ∀ (f : Nat) (l : List Tok) (j : Nat) (acc : List Tr) (j2 : Nat), gNames f l j acc = .error j2 → j2 ≤ j ∨ j2 ≤ l.length
 | 0, l, j, acc, j2, h => by cases h; omega
 | f + 1, l, j, acc, j2, h => by
  rw [gNames] at h
  split at h
  ·rename_i hk
   have hlt := kAt_lt (l := l) (i := j) (by omega)
   split at h
   ·cases h; omega
   ·have := names_err f l (j + 1) _ j2 h
    omega
  ·cases h
theorem sign_lt {l : List Tok} {i : Nat} {lev : Int} (h : signA l i lev = true) : i < l.length := by
 unfold signA at h
 split at h
 ·simp at h; rcases h with h | h <;> exact xAt_lt h (by simp)
 ·split at h
  ·simp at h; rcases h with h | h <;> exact xAt_lt h (by simp)
  ·simp at h; rcases h with h | h <;> exact xAt_lt h (by simp)
def ErrB (l : List Tok) (b : Nat) (r : GR) : Prop := ∀ j, r = .error j → j ≤ b ∨ j ≤ l.length + 2
structure ErrAll (f : Nat) : Prop where
 expr : ∀ l i, ErrB l (i + 2) (gExpr f l i)
 lam : ∀ l i, ErrB l (i + 2) (gLam f l i)
 let_ : ∀ l i, ErrB l (i + 2) (gLet f l i)
 alt : ∀ l i, ErrB l (i + 2) (gAlt f l i)
 match_ : ∀ l i, ErrB l (i + 3) (gMatch f l i)
 alts : ∀ l i j acc, ErrB l (j + 2) (gAlts f l i j acc)
 ops : ∀ l i lev, ErrB l (i + 2) (gOps f l i lev)
 opsL : ∀ l lev n a j, j ≤ l.length → ErrB l 0 (gOpsL f l lev n a j)
 app : ∀ l i, ErrB l (i + 2) (gApp f l i)
 appL : ∀ l con a j, j ≤ l.length → ErrB l 0 (gAppL f l con a j)
 atom : ∀ l i, ErrB l (i + 2) (gAtom f l i)
theorem eq_of_nn {a b : List UInt8} (h : ¬ a ≠ b) : a = b := Classical.byContradiction fun e => h e
theorem err_all : ∀ f, ErrAll f
 | 0 => by
  refine ⟨?_, ?_, ?_, ?_, ?_, ?_, ?_, ?_, ?_, ?_, ?_⟩
  all_goals
   intros
   intro j h
   first
    | (rw [gExpr] at h; cases h; omega)
    | (rw [gLam] at h; cases h; omega)
    | (rw [gLet] at h; cases h; omega)
    | (rw [gAlt] at h; cases h; omega)
    | (rw [gMatch] at h; cases h; omega)
    | (rw [gAlts] at h; cases h; omega)
    | (rw [gOps] at h; cases h; omega)
    | (rw [gOpsL] at h; cases h; omega)
    | (rw [gApp] at h; cases h; omega)
    | (rw [gAppL] at h; cases h; omega)
    | (rw [gAtom] at h; cases h; omega)
 | f + 1 => by
  have ih := err_all f
  have pr := prog_all f
  refine ⟨?_, ?_, ?_, ?_, ?_, ?_, ?_, ?_, ?_, ?_, ?_⟩
  ·intro l i
   rw [gExpr]
   split
   ·exact ih.lam l i
   ·split
    ·exact ih.let_ l i
    ·split
     ·rename_i hc
      have hlt := xAt_lt (l := l) (i := i) (s := caseS) (by simpa using hc) (by decide)
      intro j h
      have := ih.match_ l i j h
      omega
     ·exact ih.ops l i 0
  ·intro l i j h
   rw [gLam] at h
   split at h
   ·cases h; omega
   ·split at h
    ·cases h; omega
    ·rename_i hx
     have hlt := xAt_lt (eq_of_nn hx) (by simp)
     split at h
     ·rename_i j' hb
      have := ih.expr l (i + 3) j' hb
      cases h
      omega
     ·cases h
  ·intro l i j h
   rw [gLet] at h
   split at h
   ·cases h; omega
   ·split at h
    ·cases h; omega
    ·rename_i hx
     have hlt := xAt_lt (eq_of_nn hx) (by simp)
     split at h
     ·rename_i j' hb
      have := ih.expr l (i + 3) j' hb
      cases h
      omega
     ·rename_i a j1 ha
      have h1 := pr.expr l (i + 3) a j1 ha
      split at h
      ·cases h; omega
      ·rename_i hx2
       have hlt2 := xAt_lt (eq_of_nn hx2) (by decide)
       split at h
       ·rename_i j2 hb
        have := ih.expr l (j1 + 1) j2 hb
        cases h
        omega
       ·cases h
  ·intro l i j h
   rw [gAlt] at h
   split at h
   ·cases h; omega
   ·split at h
    ·rename_i j1 hv
     have := names_err _ _ _ _ _ hv
     cases h
     omega
    ·rename_i hk vs j1 hv
     have hlt := kAt_lt (l := l) (i := i) (by omega)
     have h1 := names_prog _ _ _ _ _ _ hv (by simp)
     split at h
     ·cases h; omega
     ·rename_i hx2
      have hlt2 := xAt_lt (eq_of_nn hx2) (by decide)
      split at h
      ·rename_i j2 hb
       have := ih.expr l (j1 + 1) j2 hb
       cases h
       omega
      ·cases h
  ·intro l i j h
   rw [gMatch] at h
   split at h
   ·rename_i j1 hb
    have := ih.expr l (i + 1) j1 hb
    cases h
    omega
   ·rename_i a j1 ha
    have h1 := pr.expr l (i + 1) a j1 ha
    split at h
    ·cases h; omega
    ·split at h
     ·cases h; omega
     ·rename_i hx2
      have hlt2 := xAt_lt (eq_of_nn hx2) (by decide)
      have := ih.alts l i (j1 + 2) [a] j h
      omega
  ·intro l i j acc j9 h
   rw [gAlts] at h
   split at h
   ·rename_i j2 hb
    have := ih.alt l j j2 hb
    cases h
    omega
   ·rename_i b j2 hb
    have h1 := pr.alt l j b j2 hb
    split at h
    ·cases h
    ·split at h
     ·cases h; omega
     ·rename_i hx
      have hx3 : xAt l j2 = [124] := Classical.byContradiction fun e => hx (.inl e)
      have hlt := xAt_lt hx3 (by simp)
      have := ih.alts l i (j2 + 1) (acc ++ [b]) j9 h
      omega
  ·intro l i lev j h
   rw [gOps] at h
   split at h
   ·exact ih.app l i j h
   ·split at h
    ·rename_i j1 ha
     have := ih.ops l i (lev + 1) j1 ha
     cases h
     omega
    ·rename_i a j1 ha
     have h1 := pr.ops l i (lev + 1) a j1 ha
     have := ih.opsL l lev 0 a j1 h1.2 j h
     omega
  ·intro l lev n a j hj j9 h
   rw [gOpsL] at h
   split at h
   ·rename_i hs
    split at h
    ·rename_i j2 hb
     have := ih.ops l (j + 1) (lev + 1) j2 hb
     cases h
     have hlt : j < l.length := sign_lt hs.1
     omega
    ·rename_i b j2 hb
     have h1 := pr.ops l (j + 1) (lev + 1) b j2 hb
     exact ih.opsL l lev (n + 1) _ j2 h1.2 j9 h
   ·cases h
  ·intro l i j h
   rw [gApp] at h
   split at h
   ·rename_i j1 ha
    have := ih.atom l i j1 ha
    cases h
    omega
   ·rename_i a j1 ha
    have h1 := pr.atom l i a j1 ha
    have := ih.appL l _ a j1 h1.2 j h
    omega
  ·intro l con a j hj j9 h
   rw [gAppL] at h
   split at h
   ·split at h
    ·cases h; omega
    ·split at h
     ·rename_i j2 hb
      have := ih.atom l j j2 hb
      cases h
      omega
     ·rename_i b j2 hb
      have h1 := pr.atom l j b j2 hb
      exact ih.appL l con _ j2 h1.2 j9 h
   ·cases h
  ·intro l i j h
   rw [gAtom] at h
   split at h
   ·rename_i hp
    have hlt := xAt_lt (l := l) (i := i) (s := [40]) (by simpa using hp) (by simp)
    split at h
    ·rename_i j1 ha
     have := ih.expr l (i + 1) j1 ha
     cases h
     omega
    ·rename_i a j1 ha
     have h1 := pr.expr l (i + 1) a j1 ha
     split at h
     ·cases h; omega
     ·cases h
   ·split at h
    ·cases h
    ·split at h
     ·cases h
     ·split at h
      ·cases h
      ·cases h; omega
end Lx
end Go.Proofs.YtiocmiikghcoaaaGreatDoor
namespace Go.Proofs.YtiocmiikghcoaaaGreatDoor
open Go.RowKit
namespace Lx
set_option maxRecDepth 100000
theorem GTok.leaf {l : List Tok} {n : Nat} (T : GTok l n) (i : Nat) (k num a : Int) (w : World) (X : Nat → Prop) : TIn w X (.node k (nmAt l i) num a []) none := by
 rw [TIn]
 exact ⟨T.small i, by simp, by rw [LIn]; trivial⟩
theorem leaf0 (k num a : Int) (w : World) (X : Nat → Prop) : TIn w X (.node k ⟨#[]⟩ num a []) none := by
 rw [TIn]
 exact ⟨by decide, by simp, by rw [LIn]; trivial⟩
theorem Lies.far7 {w : World} {g : Nat} {t : TypeId} {cs : Array Value} (h : Lies w g t cs) {r : Nat} (hr : g ≠ r) (a b c d e x y : Value) : Lies (put7 w r a b c d e x y) g t cs :=
 ((((((h.far (p := ⟨r, 0, none⟩) hr a).far (p := ⟨r, 1, none⟩) hr b).far (p := ⟨r, 2, none⟩) hr c).far (p := ⟨r, 3, none⟩) hr d).far (p := ⟨r, 4, none⟩) hr e).far (p := ⟨r, 5, none⟩) hr x).far (p := ⟨r, 6, none⟩) hr y
theorem gno_lit (j : Nat) (w : World) : Calls Tryz.prog 103 #[.int .i64 j] w fun e w' => e = .returned (.agg #[.int .i64 0, .string ⟨#[]⟩, .int .i64 0, .int .i64 0, .slice none 0 0, .int .i64 j, .bool false]) ∧ Below w.heap.size w w' := gno_any j w
theorem gpost_leaf {w V : World} {r : GR} {k num a : Int} {s : ByteArray} {i : Nat} (hr : r = .ok (.node k s num a [], i + 1)) (hb : Below w.heap.size w V) (hT : TIn V (fun g => w.heap.size + 1 ≤ g) (.node k s num a []) none) :
  GPost w r (.returned (.agg #[.int .i64 k, .string s, .int .i64 num, .int .i64 a, .slice none 0 0, .int .i64 ((i : Int) + 1), .bool true]))
   (put7 V w.heap.size (.int .i64 k) (.string s) (.int .i64 num) (.int .i64 a) (.slice none 0 0) (.int .i64 ((i : Int) + 1)) (.bool true)) := by
 have h := gpost_ok (c := 0) hr hb hT
 rw [show (((i + 1 : Nat) : Int)) = (i : Int) + 1 from by simp] at h
 have h2 := h
 unfold gv at h2
 simp only [Tr.kind, Tr.name, Tr.n, Tr.place, Tr.parts, List.length_nil, capF, Nat.max_self] at h2
 rw [show (((i + 1 : Nat) : Int)) = (i : Int) + 1 from by simp] at h2
 exact h2
set_option maxHeartbeats 4000000 in
theorem gatom_any {l : List Tok} {A : Option Addr} {n c f : Nat} (T : GTok l n) (HX0 : GC 49 l A n c 7 gExpr f) :
  GC 120 l A n c 1 gAtom (f + 1) := by
 intro i x w hx hi hf hR
 subst hx
 have h6 := T.few
 have hb0 := below_seven (w := w)
 have hR1 := hR.at_new hb0
 have HX := Lib.hid (gtext_any l A n c i (w.alloc (.cells zero7 72)) T.len (by omega) h6 hR1)
 have HK := Lib.hid (gkind_any l A n c i (w.alloc (.cells zero7 72)) T.len (by omega) h6 hR1)
 have hL := Lies.new w 72 zero7
 by_cases hp : xAt l i = [40]
 ·have hlt : i < n := by rw [T.len]; exact xAt_lt hp (by simp)
  have HC := Lib.hid (HX0 (i + 1) ((i : Int) + 1) (w.alloc (.cells zero7 72)) (by simp) (by omega) (by omega) hR1)
  rw [hp] at HX
  have HE : Hid (gAtom (f + 1) l i = (match gExpr f l (i + 1) with | .error j => .error j | .ok (a, j) => if xAt l j ≠ [41] then .error j else .ok (a, j + 1))) := by
   refine Lib.hid ?_
   rw [gAtom, if_pos (by rw [hp]; rfl)]
   all_goals (cases gExpr f l (i + 1) <;> rfl)
  clear hp
  go_enter Tryz.func120, Tryz.ntmps120
  go_wp2_with fail
  refine HX.out.mono ?_
  rintro e w' ⟨rfl, rfl⟩
  go_wp2_with fail
  refine HC.out.mono ?_
  intro e V hG
  have hb := hb0.trans (hG.1.mono hb0.size)
  have L := hL.below hG.1 (by simp)
  have hsz := hG.1.size
  have hne : w.heap.size ≠ V.heap.size := by simp at hsz; omega
  have hRV := hR.below hb (Nat.le_refl _)
  rcases hG.split with ⟨j, hr, rfl⟩ | ⟨t, j, A2, c2, hr, rfl, hT⟩
  ·rw [hr] at HE
   have hj := (err_all f).expr l (i + 1) j hr
   have hjs : j ≤ 60002 := by have := T.len; omega
   clear hj
   have L9 := L.old (.cells #[.int .i64 0, .string ⟨#[]⟩, .int .i64 0, .int .i64 0, .slice none 0 0, .int .i64 j, .bool false] 72)
   have q9 := L9.seven
   have hb9 := hb.alloc hb.size (.cells #[.int .i64 0, .string ⟨#[]⟩, .int .i64 0, .int .i64 0, .slice none 0 0, .int .i64 j, .bool false] 72)
   go_wp2_with fail
   exact bodyPost_ret (res_got (p := 4) Tryz.results120 rfl (Lies.all7 L9 _ _ _ _ _ _ _)) rfl (gpost_err HE.out hb9)
  ·rw [hr] at HE
   have hj := (prog_all f).expr l (i + 1) t j hr
   have hjs : j ≤ 60000 := by have := T.len; omega
   have hjn : j ≤ n := by have := T.len; omega
   clear hj
   have hb8 : Below V.heap.size V (V.alloc (.cells #[.int .i64 t.kind, .string t.name, .int .i64 t.n, .int .i64 t.place, .slice A2 t.parts.length (capF t.parts.length c2), .int .i64 j, .bool true] 72)) := (Below.refl _ V).alloc (Nat.le_refl _) _
   have HX2 := Lib.hid (gtext_any l A n c j (V.alloc (.cells #[.int .i64 t.kind, .string t.name, .int .i64 t.n, .int .i64 t.place, .slice A2 t.parts.length (capF t.parts.length c2), .int .i64 j, .bool true] 72)) T.len (by omega) h6 (hRV.at_new hb8))
   have L8 := L.old (.cells #[.int .i64 t.kind, .string t.name, .int .i64 t.n, .int .i64 t.place, .slice A2 t.parts.length (capF t.parts.length c2), .int .i64 j, .bool true] 72)
   by_cases hq : xAt l j = [41]
   ·rw [hq] at HX2
    have HE2 : Hid (gAtom (f + 1) l i = .ok (t, j + 1)) := by
     refine Lib.hid (HE.out.trans ?_)
     show (if xAt l j ≠ [41] then (.error j : GR) else .ok (t, j + 1)) = _
     rw [if_neg (fun h => h hq)]
    clear hq
    have L9 := L.old (.cells #[.int .i64 t.kind, .string t.name, .int .i64 t.n, .int .i64 t.place, .slice A2 t.parts.length (capF t.parts.length c2), .int .i64 ((j : Int) + 1), .bool true] 72)
    have q9 := L9.seven
    have hb9 : Below V.heap.size V (V.alloc (.cells #[.int .i64 t.kind, .string t.name, .int .i64 t.n, .int .i64 t.place, .slice A2 t.parts.length (capF t.parts.length c2), .int .i64 ((j : Int) + 1), .bool true] 72)) := (Below.refl _ V).alloc (Nat.le_refl _) _
    have hT9 := TIn.below t (TIn.wide t (Y := fun g => w.heap.size + 1 ≤ g) hT (fun g hg _ => by simpa using hg)) hb9 (Nat.le_refl _)
    go_wp2_with fail
    refine HX2.out.mono ?_
    rintro e w' ⟨rfl, rfl⟩
    go_wp2_with fail
    exact bodyPost_ret (res_got (p := 4) Tryz.results120 rfl (Lies.all7 L9 _ _ _ _ _ _ _)) rfl (gpost_ok (j := j + 1) HE2.out (hb.trans (hb9.mono hb.size)) hT9)
   ·have HE2 : Hid (gAtom (f + 1) l i = .error j) := by
     refine Lib.hid (HE.out.trans ?_)
     show (if xAt l j ≠ [41] then (.error j : GR) else .ok (t, j + 1)) = _
     rw [if_pos hq]
    obtain ⟨X, hX⟩ : ∃ X, X = xAt l j := ⟨_, rfl⟩
    rw [← hX] at HX2 hq
    clear hX HE
    have b0 : (X == [41]) = false := beq_eq_false_iff_ne.2 hq
    have HN := Lib.hid (gno_lit j (V.alloc (.cells #[.int .i64 t.kind, .string t.name, .int .i64 t.n, .int .i64 t.place, .slice A2 t.parts.length (capF t.parts.length c2), .int .i64 j, .bool true] 72)))
    go_wp2_with fail
    refine HX2.out.mono ?_
    rintro e w' ⟨rfl, rfl⟩
    go_wp2_with fail
    refine HN.out.mono ?_
    rintro e V2 ⟨rfl, hb2⟩
    have L9 := L8.below hb2 L8.lt
    have q9 := L9.seven
    have hb9 := (hb.trans (hb8.mono hb.size)).trans (hb2.mono (by have := hb.size; have := hb8.size; omega))
    go_wp2_with fail
    exact bodyPost_ret (res_got (p := 4) Tryz.results120 rfl (Lies.all7 L9 _ _ _ _ _ _ _)) rfl (gpost_err HE2.out hb9)
 ·obtain ⟨X, hX⟩ : ∃ X, X = xAt l i := ⟨_, rfl⟩
  rw [← hX] at HX
  have b0 : (X == [40]) = false := beq_eq_false_iff_ne.2 (by rw [hX]; exact hp)
  clear hX
  by_cases hk1 : kAt l i = 1
  ·have hlt : i < l.length := kAt_lt (by omega)
   have hlt' : i < n := by rw [T.len]; exact hlt
   have HE : Hid (gAtom (f + 1) l i = .ok (.node 1 (nmAt l i) 0 (plAt l i) [], i + 1)) := by
    refine Lib.hid ?_
    rw [gAtom, if_neg (by simpa using hp), if_pos hk1]
   obtain ⟨g, o, rfl, c0, c1, c2, c3⟩ := hR1.get hlt
   rw [hk1] at HK
   clear hk1 c0
   have HY := Lib.hid (fun V => gyes_at 1 0 (plAt l i) (nmAt l i) none 0 0 (i + 1) ((i : Int) + 1) V (by simp))
   have HLf := Lib.hid (fun V X => T.leaf i 1 0 (plAt l i) V X)
   have HL0 := Lib.hid (fun V X => leaf0 9 (nuAt l i) (plAt l i) V X)
   obtain ⟨NM, hNM⟩ : ∃ NM, NM = nmAt l i := ⟨_, rfl⟩
   obtain ⟨NU, hNU⟩ : ∃ NU, NU = nuAt l i := ⟨_, rfl⟩
   obtain ⟨PL, hPL⟩ : ∃ PL, PL = plAt l i := ⟨_, rfl⟩
   rw [← hNM] at c1 HE HY HLf
   rw [← hNU] at c2
   rw [← hPL] at c3 HE HY HLf HL0
   clear hNM hNU hPL hR1 hR T
   go_enter Tryz.func120, Tryz.ntmps120
   go_wp2_with fail
   refine HX.out.mono ?_
   rintro e w' ⟨rfl, rfl⟩
   go_wp2_with fail
   refine HK.out.mono ?_
   rintro e w' ⟨rfl, rfl⟩
   go_wp2_with fail
   generalize hW : (w.alloc (.cells zero7 72)) = wr at hb0 hL c1 c2 c3 ⊢
   clear hW HX HK
   go_still_tail 13, (by kernel_rfl)
   change wpList _ _ _ _ _ wr.drew
   go_wp2_with fail
   refine (HY.out _).mono ?_
   rintro e V ⟨rfl, hb2⟩
   have hb := (hb0.drew).trans (hb2.mono (by exact hb0.size))
   have L9 := (hL.drew).below hb2 hL.lt
   have q9 := L9.seven
   go_wp2_with fail
   exact bodyPost_ret (res_got (p := 4) Tryz.results120 rfl (Lies.all7 L9 _ _ _ _ _ _ _)) rfl (gpost_leaf HE.out hb (HLf.out _ _))
  by_cases hk2 : kAt l i = 2
  ·have hlt : i < l.length := kAt_lt (by omega)
   have hlt' : i < n := by rw [T.len]; exact hlt
   have HE : Hid (gAtom (f + 1) l i = .ok (.node 6 (nmAt l i) 0 (plAt l i) [], i + 1)) := by
    refine Lib.hid ?_
    rw [gAtom, if_neg (by simpa using hp), if_neg hk1, if_pos hk2]
   obtain ⟨g, o, rfl, c0, c1, c2, c3⟩ := hR1.get hlt
   rw [hk2] at HK
   clear hk2 c0
   have HY := Lib.hid (fun V => gyes_at 6 0 (plAt l i) (nmAt l i) none 0 0 (i + 1) ((i : Int) + 1) V (by simp))
   have HLf := Lib.hid (fun V X => T.leaf i 6 0 (plAt l i) V X)
   have HL0 := Lib.hid (fun V X => leaf0 9 (nuAt l i) (plAt l i) V X)
   obtain ⟨NM, hNM⟩ : ∃ NM, NM = nmAt l i := ⟨_, rfl⟩
   obtain ⟨NU, hNU⟩ : ∃ NU, NU = nuAt l i := ⟨_, rfl⟩
   obtain ⟨PL, hPL⟩ : ∃ PL, PL = plAt l i := ⟨_, rfl⟩
   rw [← hNM] at c1 HE HY HLf
   rw [← hNU] at c2
   rw [← hPL] at c3 HE HY HLf HL0
   clear hNM hNU hPL hR1 hR T
   go_enter Tryz.func120, Tryz.ntmps120
   go_wp2_with fail
   refine HX.out.mono ?_
   rintro e w' ⟨rfl, rfl⟩
   go_wp2_with fail
   refine HK.out.mono ?_
   rintro e w' ⟨rfl, rfl⟩
   go_wp2_with fail
   generalize hW : (w.alloc (.cells zero7 72)) = wr at hb0 hL c1 c2 c3 ⊢
   clear hW HX HK
   go_still_tail 13, (by kernel_rfl)
   change wpList _ _ _ _ _ wr.drew
   go_wp2_with fail
   refine (HY.out _).mono ?_
   rintro e V ⟨rfl, hb2⟩
   have hb := (hb0.drew).trans (hb2.mono (by exact hb0.size))
   have L9 := (hL.drew).below hb2 hL.lt
   have q9 := L9.seven
   go_wp2_with fail
   exact bodyPost_ret (res_got (p := 4) Tryz.results120 rfl (Lies.all7 L9 _ _ _ _ _ _ _)) rfl (gpost_leaf HE.out hb (HLf.out _ _))
  by_cases hk3 : kAt l i = 3
  ·have hlt : i < l.length := kAt_lt (by omega)
   have hlt' : i < n := by rw [T.len]; exact hlt
   have HE : Hid (gAtom (f + 1) l i = .ok (.node 9 ⟨#[]⟩ (nuAt l i) (plAt l i) [], i + 1)) := by
    refine Lib.hid ?_
    rw [gAtom, if_neg (by simpa using hp), if_neg hk1, if_neg hk2, if_pos hk3]
   obtain ⟨g, o, rfl, c0, c1, c2, c3⟩ := hR1.get hlt
   rw [hk3] at HK
   clear hk3 c0
   have HY := Lib.hid (fun V => gyes_at 9 (nuAt l i) (plAt l i) ⟨#[]⟩ none 0 0 (i + 1) ((i : Int) + 1) V (by simp))
   have HLf := Lib.hid (fun V X => T.leaf i 6 0 (plAt l i) V X)
   have HL0 := Lib.hid (fun V X => leaf0 9 (nuAt l i) (plAt l i) V X)
   obtain ⟨NM, hNM⟩ : ∃ NM, NM = nmAt l i := ⟨_, rfl⟩
   obtain ⟨NU, hNU⟩ : ∃ NU, NU = nuAt l i := ⟨_, rfl⟩
   obtain ⟨PL, hPL⟩ : ∃ PL, PL = plAt l i := ⟨_, rfl⟩
   rw [← hNM] at c1
   rw [← hNU] at c2 HE HY HL0
   rw [← hPL] at c3 HE HY HLf HL0
   clear hNM hNU hPL hR1 hR T
   go_enter Tryz.func120, Tryz.ntmps120
   go_wp2_with fail
   refine HX.out.mono ?_
   rintro e w' ⟨rfl, rfl⟩
   go_wp2_with fail
   refine HK.out.mono ?_
   rintro e w' ⟨rfl, rfl⟩
   go_wp2_with fail
   generalize hW : (w.alloc (.cells zero7 72)) = wr at hb0 hL c1 c2 c3 ⊢
   clear hW HX HK
   go_still_tail 13, (by kernel_rfl)
   change wpList _ _ _ _ _ wr.drew
   go_wp2_with fail
   refine (HY.out _).mono ?_
   rintro e V ⟨rfl, hb2⟩
   have hb := (hb0.drew).trans (hb2.mono (by exact hb0.size))
   have L9 := (hL.drew).below hb2 hL.lt
   have q9 := L9.seven
   go_wp2_with fail
   exact bodyPost_ret (res_got (p := 4) Tryz.results120 rfl (Lies.all7 L9 _ _ _ _ _ _ _)) rfl (gpost_leaf HE.out hb (HL0.out _ _))
  have HE : Hid (gAtom (f + 1) l i = .error i) := by
   refine Lib.hid ?_
   rw [gAtom, if_neg (by simpa using hp), if_neg hk1, if_neg hk2, if_neg hk3]
  obtain ⟨k, hk⟩ : ∃ k, k = kAt l i := ⟨_, rfl⟩
  rw [← hk] at HK hk1 hk2 hk3
  have HN := Lib.hid (gno_lit i (w.alloc (.cells zero7 72)))
  clear hk hp
  go_enter Tryz.func120, Tryz.ntmps120
  go_wp2_with fail
  refine HX.out.mono ?_
  rintro e w' ⟨rfl, rfl⟩
  go_wp2_with fail
  refine HK.out.mono ?_
  rintro e w' ⟨rfl, rfl⟩
  go_wp2_with fail
  refine HN.out.mono ?_
  rintro e V2 ⟨rfl, hb2⟩
  have L9 := hL.below hb2 hL.lt
  have q9 := L9.seven
  have hb9 := hb0.trans (hb2.mono hb0.size)
  go_wp2_with fail
  exact bodyPost_ret (res_got (p := 4) Tryz.results120 rfl (Lies.all7 L9 _ _ _ _ _ _ _)) rfl (gpost_err HE.out hb9)
end Lx
end Go.Proofs.YtiocmiikghcoaaaGreatDoor
