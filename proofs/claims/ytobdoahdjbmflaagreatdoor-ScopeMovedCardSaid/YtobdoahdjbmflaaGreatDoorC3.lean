/-
  Texts that lie one behind the other: Scan Toks Rec All Rows4 Tin ScM ScA ScB Te.
-/
import Derived.Test.YtobdoahdjbmflaaGreatDoorC1
import Derived.Test.YtobdoahdjbmflaaGreatDoorC2
import Derived.WalkKit
import Derived.OwnWalk
import Derived.Recover
import Derived.Defers
import Derived.Tactics
import Derived.Calls
import Derived.RegionTactic
import Derived.BigRegion
import Derived.Lib.SmallJoins
import Derived.Laws.StructEq
import Derived.BigQuiet
import Derived.Deep.QuietTactic
import Derived.StringKeys
import Derived.Maps.OwnIn
import Derived.Maps.Views
import Derived.Maps.OwnOps
import Derived.Maps.OwnSet
import Derived.Deep.Cut
import Derived.Deep.DeepCutAuto
namespace Go.Proofs.YtobdoahdjbmflaaGreatDoor
namespace Lx
set_option maxRecDepth 100000
structure Tok where
  kind : Int
  text : List UInt8
  n : Int
  place : Int
deriving DecidableEq
def Tok.cells (t : Tok) : List Value := [.int .i64 t.kind, .string ⟨t.text.toArray⟩, .int .i64 t.n, .int .i64 t.place]
def cellsOf (l : List Tok) : List Value := l.flatMap Tok.cells
theorem cellsOf_length (l : List Tok) : (cellsOf l).length = l.length * 4 := by
  induction l with
  | nil => rfl
  | cons a r ih => simp only [cellsOf, List.flatMap_cons, List.length_append, List.length_cons] at ih ⊢; rw [ih]; simp [Tok.cells]; omega
theorem cellsOf_snoc (l : List Tok) (t : Tok) : cellsOf (l ++ [t]) = cellsOf l ++ t.cells := by
  simp [cellsOf, List.flatMap_append]

/-- The tokens from a place on, the text standing at no blank. -/
def scan : Nat → List UInt8 → Nat → Except (Int × Int) (List Tok)
  | 0, _, _ => .ok []
  | f + 1, l, k =>
    if l = [] then .ok [] else
    match tokK l with
    | .error e => .error (k, e)
    | .ok (kd, n, t) =>
      match scan f ((l.drop t.length).drop (run blkR (l.drop t.length))) (k + t.length + run blkR (l.drop t.length)) with
      | .error e => .error e
      | .ok r => .ok (⟨kd, t, n, k⟩ :: r)
def allK (l : List UInt8) : Except (Int × Int) (List Tok) := scan (l.length + 1) (l.drop (run blkR l)) (run blkR l)
def glue (acc : List Tok) : Except (Int × Int) (List Tok) → Except (Int × Int) (List Tok)
  | .ok r => .ok (acc ++ r)
  | .error e => .error e

theorem scan_end (f k : Nat) : scan f [] k = .ok [] := by
  cases f <;> simp [scan]
theorem scan_bad {f k : Nat} {l : List UInt8} {e : Int} (hl : l ≠ []) (h : tokK l = .error e) : scan (f + 1) l k = .error (k, e) := by
  simp [scan, hl, h]
theorem scan_good {f k : Nat} {l t : List UInt8} {kd n : Int} (acc : List Tok) (hl : l ≠ []) (h : tokK l = .ok (kd, n, t)) :
    glue acc (scan (f + 1) l k) = glue (acc ++ [⟨kd, t, n, k⟩]) (scan f ((l.drop t.length).drop (run blkR (l.drop t.length))) (k + t.length + run blkR (l.drop t.length))) := by
  simp only [scan, hl, if_false, h]
  cases scan f ((l.drop t.length).drop (run blkR (l.drop t.length))) (k + t.length + run blkR (l.drop t.length)) <;> simp [glue]

theorem signs_pos : ∀ g ∈ signsS, 0 < g.length := by decide
/-- A token's text is what stands there, and it is not empty. -/
theorem tok_text {l t : List UInt8} {kd n : Int} (h : tokK l = .ok (kd, n, t)) : 0 < t.length ∧ t.length ≤ l.length ∧ l.take t.length = t := by
  unfold tokK at h
  have hr := run_le ldR l
  split at h
  · rename_i h0
    split at h
    · simp only [Except.ok.injEq, Prod.mk.injEq] at h
      obtain ⟨_, _, rfl⟩ := h
      simp only [List.length_take]
      refine ⟨by omega, by omega, by congr 1; omega⟩
    · cases h
  · split at h
    · rename_i g h1
      simp only [Except.ok.injEq, Prod.mk.injEq] at h
      obtain ⟨_, _, rfl⟩ := h
      have hp := List.find?_some h1
      have hm := signs_pos _ (List.mem_of_find?_eq_some h1)
      have hpre : g <+: l := List.isPrefixOf_iff_prefix.1 hp
      exact ⟨hm, hpre.length_le, (List.prefix_iff_eq_take.1 hpre).symm⟩
    · cases h
theorem scan_step {l : List UInt8} {acc : List Tok} {k f : Nat} {kd n : Int} {t : List UInt8} (hlt : k < l.length) (hf : l.length < k + (f + 1)) (ha : acc.length ≤ k) (h : tokK (l.drop k) = .ok (kd, n, t))
    (hs : allK l = glue acc (scan (f + 1) (l.drop k) k)) :
    k + t.length ≤ l.length ∧ k + t.length + run blkR (l.drop (k + t.length)) ≤ l.length ∧ l.length < k + t.length + run blkR (l.drop (k + t.length)) + f ∧
      (acc ++ [(⟨kd, t, n, k⟩ : Tok)]).length ≤ k + t.length + run blkR (l.drop (k + t.length)) ∧
      allK l = glue (acc ++ [⟨kd, t, n, k⟩]) (scan f (l.drop (k + t.length + run blkR (l.drop (k + t.length)))) (k + t.length + run blkR (l.drop (k + t.length)))) := by
  obtain ⟨h1, h2, _⟩ := tok_text h
  have hr := run_le blkR (l.drop (k + t.length))
  simp only [List.length_drop] at h2 hr
  refine ⟨by omega, by omega, by omega, by simp; omega, ?_⟩
  rw [hs, scan_good acc (by intro e; have := congrArg List.length e; simp at this; omega) h]
  simp only [List.drop_drop, Nat.add_assoc]
end Lx
end Go.Proofs.YtobdoahdjbmflaaGreatDoor
namespace Go.Proofs.YtobdoahdjbmflaaGreatDoor
open Go.RowKit
namespace Lx
set_option maxRecDepth 100000
theorem own_below {w w' : World} {base : Nat} {e : TypeId} {size : Nat} {v : Value} {n : Nat} {xs : List Value} {B : Nat} (h : w.ownsRow base e size v n xs) (hb : Below B w w') (hB : w.heap.size ≤ B) : w'.ownsRow base e size v n xs := by
  obtain ⟨h1, h2⟩ := h
  refine ⟨h1, ?_⟩
  rcases h2 with h2 | ⟨g, cap, cur, hv, hg, hh, r⟩
  · exact .inl h2
  · have hlt : g < w.heap.size := (Array.getElem?_eq_some_iff.1 hh).1
    exact .inr ⟨g, cap, cur, hv, hg, (hb.block g (by omega)).trans hh, r⟩
theorem Lies.grown {w w' : World} {g : Nat} {t : TypeId} {cs : Array Value} {row : Option Nat} (h : Lies w g t cs) (hb : w.grownBy w' row) (hg : some g ≠ row) : Lies w' g t cs := (hb.block g h.lt hg).trans h

theorem new_cells (w : World) (t : TypeId) (cs : List Value) (g : Nat) (hg : g = w.heap.size) : ∀ (j : Nat) (u : Value), cs[j]? = some u → (w.alloc (.cells cs.toArray t)).cell? ((⟨g, 0, none⟩ : Addr).add j) = some u := by
  intro j u hu
  subst hg
  have hadd : (⟨w.heap.size, 0, none⟩ : Addr).add j = ⟨w.heap.size, j, none⟩ := by unfold Addr.add; split <;> simp_all
  rw [hadd, (Lies.new w t cs.toArray).cell j]
  simpa using hu
theorem info33 : (Tryz.prog.info? 71).map (fun i => (i.zero, i.size, i.bytes)) = some (some (.agg #[.int .i64 0, .string ⟨#[]⟩, .int .i64 0, .int .i64 0]), 4, 40) := by kernel_rfl

def TokensPost (B : Nat) (w : World) (r : Except (Int × Int) (List Tok)) (e : Ending) (w' : World) : Prop :=
  (∀ ts, r = .ok ts → ∃ v, e = .returned v ∧ w'.ownsRow B 71 4 v ts.length (cellsOf ts)) ∧
  (∀ p x, r = .error (p, x) → e = .panicked [{ v := noTok p x, recovered := false }]) ∧ Below B w w'

theorem span_blk_from (s : ByteArray) (k : Nat) (w : World) : Calls Tryz.prog 109 #[.string (s.extract k s.size), .func (.func 110) #[] #[]] w fun e w' => e = .returned (.int .i64 (run blkR (s.data.toList.drop k))) ∧ Below w.heap.size w w' := by
  have h := span_blk (s.extract k s.size) w
  rw [Lib.extract_to_end] at h
  exact h

set_option maxHeartbeats 2000000 in
theorem tokens_any (s : ByteArray) (w : World) (hs : s.size ≤ 60000) (hg : Signs w) :
    Calls Tryz.prog 108 #[.string s] w fun e w' => TokensPost w.heap.size w (allK s.data.toList) e w' := by
  have hpos := hg.pos
  have hl0 := Lib.hid (Lib.size_eq s)
  have hr0 := run_le blkR s.data.toList
  rw [← hl0.out] at hr0
  go_enter Tryz.func108, Tryz.ntmps108
  go_wp2_with fail
  refine (span_blk _ _).mono ?_
  rintro e w1 ⟨rfl, hb1⟩
  go_wp2_with fail
  go_loopw [3, 4] (fun v a wr => ∃ (k f : Nat) (acc : List Tok), k ≤ s.size ∧ a = .int .i64 k ∧ s.size < k + f ∧ acc.length ≤ k ∧ wr.ownsRow w.heap.size 71 4 v acc.length (cellsOf acc) ∧ Below w.heap.size w wr ∧ Hid (allK s.data.toList = glue acc (scan f (s.data.toList.drop k) k))) (fun _ a _ => s.size - (intOf a).toNat)
  case atStart =>
    refine ⟨run blkR s.data.toList, s.size + 1, [], hr0, rfl, by omega, by simp, World.ownsRow_nil _ _ _ _, hb1, ?_⟩
    show allK s.data.toList = _
    unfold allK
    rw [← hl0.out]
    cases scan (s.size + 1) (s.data.toList.drop (run blkR s.data.toList)) (run blkR s.data.toList) <;> simp [glue]
  case round =>
    obtain ⟨k, f, acc, hk, rfl, hf, ha, hown, hbw, HS⟩ := hrel
    have hgr : Signs wr := hg.below hbw hpos
    have hbs := hbw.size
    by_cases hlt : k < s.size
    · obtain ⟨f, rfl⟩ : ∃ f', f = f' + 1 := ⟨f - 1, by omega⟩
      cases htk : tokK (s.data.toList.drop k) with
      | error x =>
        have HB := Lib.hid (token_bad s k x wr hk hgr htk)
        have HE := Lib.hid (scan_bad (f := f) (k := k) (by intro e; have := congrArg List.length e; simp at this; omega) htk)
        clear htk
        go_wp2_with fail
        refine HB.out.mono ?_
        rintro e w2 ⟨rfl, hb2⟩
        go_wp2_with fail
        refine ⟨rfl, fun ts h => ?_, fun p y h => ?_, hbw.trans (hb2.mono hbs)⟩
        · rw [HS.out, HE.out] at h; cases h
        · rw [HS.out, HE.out] at h
          simp only [glue, Except.error.injEq, Prod.mk.injEq] at h
          rw [← h.1, ← h.2]
      | ok r =>
        obtain ⟨kd, n, t⟩ := r
        have HB := Lib.hid (token_good s k kd n t wr hk hgr htk)
        have hst := scan_step (l := s.data.toList) (by rw [← hl0.out]; exact hlt) (by rw [← hl0.out]; omega) ha htk HS.out
        rw [← hl0.out] at hst
        obtain ⟨s1, s2, s3, s4, s5⟩ := hst
        have HS5 := Lib.hid s5
        have ht1 := (tok_text htk).1
        clear htk s5 HS
        go_wp2_with fail
        refine HB.out.mono ?_
        rintro e w2 ⟨rfl, hb2⟩
        have hown2 := own_below hown hb2 (Nat.le_refl _)
        have hsz2 := hb2.size
        obtain ⟨i0, hi, hz0, hz1, hz2⟩ := info_parts info33
        clear hb1 hr0 HB
        go_wp2_with (at_builtin; refine wpList_append_own _ rfl _ _ 64 rfl w.heap.size 71 i0 _ 4 40 Tryz.underlying64 hi hz0 hz1 hz2 rfl (by decide) _ _ _ rfl ((hown2.alloc _).alloc _) ⟨w2.heap.size + 1, 0, none⟩ 1 1 [.int .i64 kd, .string ⟨t.toArray⟩, .int .i64 n, .int .i64 k] rfl rfl ?c1 ?c2 ?c3 ?c4 ?c5 ?_)
        case c1 => exact new_cells _ 71 [.int .i64 kd, .string ⟨t.toArray⟩, .int .i64 n, .int .i64 k] _ (by simp)
        case c2 => intro u hu; simp at hu; rcases hu with rfl | rfl | rfl | rfl <;> rfl
        case c3 => simp only [maxLen]; omega
        case c4 => omega
        case c5 => simp; omega
        intro v' w3 hown3 hg3 _
        have hL : Lies w3 w2.heap.size 71 #[.int .i64 kd, .string ⟨t.toArray⟩, .int .i64 n, .int .i64 k] :=
          ((Lies.new w2 71 _).old _).grown hg3 (fun e => by have := hown2.lt _ e.symm; omega)
        have hB3 : Below w.heap.size w w3 := ((((hbw.trans (hb2.mono hbs)).alloc (by omega) _).alloc (by simp; omega) _)).grown hg3 (by simp; omega) (fun q hq => (hown2.lt q hq).1)
        clear hi hz0 hz1 hz2 hg3 hown2
        obtain ⟨⟨_, c1, _, _⟩, _⟩ := hL.four
        go_wp2_with fail
        refine (span_blk_from s (k + t.length) _).mono ?_
        rintro e w4 ⟨rfl, hb4⟩
        go_wp2_with fail
        go_roundw
        case rel =>
          have hown4 := own_below hown3 hb4 (Nat.le_refl _)
          refine ⟨k + t.length + run blkR (s.data.toList.drop (k + t.length)), f, acc ++ [⟨kd, t, n, k⟩], s2, by go_num, s3, s4, ?_, hB3.trans (hb4.mono hB3.size), HS5⟩
          rw [cellsOf_snoc, List.length_append]
          exact hown4
        case measure => simp [intOf]; omega
    · go_wp2_with fail
      go_ret
      have hdr : s.data.toList.drop k = [] := List.drop_eq_nil_of_le (by rw [← hl0.out]; omega)
      have hE := HS.out
      rw [hdr, scan_end] at hE
      simp only [glue, List.append_nil] at hE
      refine ⟨fun ts h => ?_, fun p x h => ?_, hbw⟩
      · rw [hE] at h
        cases h
        exact ⟨_, rfl, hown⟩
      · rw [hE] at h; cases h
end Lx
end Go.Proofs.YtobdoahdjbmflaaGreatDoor
namespace Go.Proofs.YtobdoahdjbmflaaGreatDoor
namespace Lx
set_option maxRecDepth 100000
section
variable {P : Program} {Q : Exit → Act → List Frame → World → Prop} {cs : List Frame}

theorem upon_more {o : Oper} {a : Act} {n1 n2 : Act → World → Prop} {q : Exit → Act → World → Prop} {r : Result Next} (hn : ∀ a w, n1 a w → n2 a w) (h : o.upon P a n1 q r) : o.upon P a n2 q r := by
  unfold Oper.upon at h ⊢
  split at h
  · exact hn _ _ h
  · exact hn _ _ h
  · exact hn _ _ h
  · refine Calls.mono h (fun e w hh => ?_)
    cases e with
    | returned v => exact hn _ _ hh
    | panicked c => exact hh
    | outgrown => exact hh
  · exact Rows.mono h (fun v w hh => hn _ _ hh)
  · exact h
  · exact h

theorem opsS_of_list {ops : Array Oper} (hno : ¬ LetsOut (fun e a w => Q e a cs w)) (l : List Oper) : ∀ (k : Nat) (a : Act) (w : World), (∀ j, l[j]? = ops[k + j]?) → wpList P ops (fun e a w => Q e a cs w) l a w → wpOpsS P ops Q (List.range' k l.length) a cs w := by
  induction l with
  | nil => intro k a w _ h; simpa [wpOpsS, wpList] using h
  | cons o l ih =>
    intro k a w hk h
    have h0 : ops[k]? = some o := by simpa using (hk 0).symm
    have ih' := fun a w => ih (k + 1) a w (fun j => by have := hk (j + 1); simpa [Nat.add_assoc, Nat.add_comm 1 j] using this)
    simp only [List.length_cons, List.range'_succ, wpOpsS, h0]
    unfold wpList at h
    split at h
    · rename_i hw
      rw [if_pos hw]
      rcases h with h | h
      · have h2 := upon_more (n2 := fun a' w' => wpOpsS P ops Q (List.range' (k + 1) l.length) a' cs w') ih' h
        split
        · rename_i w' hr
          rw [hr] at h2
          exact h2.elim
        · exact h2
      · exact absurd h.2 hno
    · rename_i hw
      rw [if_neg hw]
      exact ih' _ _ h

theorem opsS_recover {ops : Array Oper} {i : Nat} {rest : List Nat} {o : Oper} {a : Act} {w w' : World} {v : Value} {cs' : List Frame} (ho : ops[i]? = some o) (hg : o.guard = none)
    (hr : (execOp a.eval o).run P w = .ok .recover w') (hc : recoverD cs = some (v, cs')) (h : wpOpsS P ops Q rest (a.put o.dst v) cs' w') : wpOpsS P ops Q (i :: rest) a cs w := by
  have hw : Region.wanted o (yielded ops a.tmps) = true := by simp [Region.wanted, hg]
  simp only [wpOpsS, ho, hw, if_true, hr, hc]
  exact h
theorem opsS_recover_nil {ops : Array Oper} {i : Nat} {rest : List Nat} {o : Oper} {a : Act} {w w' : World} (ho : ops[i]? = some o) (hg : o.guard = none)
    (hr : (execOp a.eval o).run P w = .ok .recover w') (hc : recoverD cs = none) (h : wpOpsS P ops Q rest (a.put o.dst .nilIface) cs w') : wpOpsS P ops Q (i :: rest) a cs w := by
  have hw : Region.wanted o (yielded ops a.tmps) = true := by simp [Region.wanted, hg]
  simp only [wpOpsS, ho, hw, if_true, hr, hc]
  exact h
theorem region_recover {id : Nat} {ops : Array Oper} {o : Oper} {l : List Oper} {a : Act} {w w' : World} {v : Value} {cs' : List Frame} (hops : ops.toList = o :: l) (hg : o.guard = none)
    (hr : (execOp a.eval o).run P w = .ok .recover w') (hc : recoverD cs = some (v, cs')) (hno : ¬ LetsOut (fun e a w => Q e a cs' w)) (h : wpList P ops (fun e a w => Q e a cs' w) l (a.put o.dst v) w') :
    (Code.region id ops false).wpS P Q a cs w := by
  obtain ⟨L⟩ := ops
  obtain rfl : L = o :: l := hops
  refine wpS_region ?_
  rw [List.range_eq_range', show (o :: l).toArray.size = l.length + 1 from rfl, List.range'_succ]
  refine opsS_recover (by simp) hg hr hc ?_
  exact opsS_of_list hno l 1 _ _ (fun j => by simp [Nat.add_comm]) h
theorem region_recover_nil {id : Nat} {ops : Array Oper} {o : Oper} {l : List Oper} {a : Act} {w w' : World} (hops : ops.toList = o :: l) (hg : o.guard = none)
    (hr : (execOp a.eval o).run P w = .ok .recover w') (hc : recoverD cs = none) (hno : ¬ LetsOut (fun e a w => Q e a cs w)) (h : wpList P ops (fun e a w => Q e a cs w) l (a.put o.dst .nilIface) w') :
    (Code.region id ops false).wpS P Q a cs w := by
  obtain ⟨L⟩ := ops
  obtain rfl : L = o :: l := hops
  refine wpS_region ?_
  rw [List.range_eq_range', show (o :: l).toArray.size = l.length + 1 from rfl, List.range'_succ]
  refine opsS_recover_nil (by simp) hg hr hc ?_
  exact opsS_of_list hno l 1 _ _ (fun j => by simp [Nat.add_comm]) h
end
end Lx
end Go.Proofs.YtobdoahdjbmflaaGreatDoor
namespace Go.Proofs.YtobdoahdjbmflaaGreatDoor
open Go.RowKit
namespace Lx
set_option maxRecDepth 100000
theorem assert_hit (v : Value) (w : World) : (Instr.typeAssert (.iface 134 v) 20 134 true).run Tryz.prog w = .ok (.tuple #[v, .bool true]) w := by kernel_rfl
theorem assert_nil (w : World) : (Instr.typeAssert .nilIface 20 134 true).run Tryz.prog w = .ok (.tuple #[.agg #[.int .i64 0, .int .i64 0], .bool false]) w := by kernel_rfl

theorem catch_tok (b0 b1 b2 : Nat) (p x : Int) (w : World) (d01 : b0 < b1) (d12 : b1 < b2) (h0 : Lies w b0 64 #[.slice none 0 0]) (h1 : Lies w b1 3 #[.int .i64 0]) (h2 : Lies w b2 27 #[.int .i64 0]) :
    CallsD Tryz.prog 107 #[.pointer (some ⟨b0, 0, none⟩), .pointer (some ⟨b1, 0, none⟩), .pointer (some ⟨b2, 0, none⟩)] (.panicking [{ v := noTok p x, recovered := false }]) w fun e u' w' =>
      e = .returned (.tuple #[]) ∧ u' = .panicking [{ v := noTok p x, recovered := true }] ∧ Lies w' b0 64 #[.slice none 0 0] ∧ Lies w' b1 3 #[.int .i64 p] ∧ Lies w' b2 27 #[.int .i64 x] ∧ Below b0 w w' := by
  unfold noTok
  refine callsD_of_wpS Tryz.func107 rfl fun c₀ cs hu => ?_
  apply wpS_seq
  refine region_recover (w' := w) (v := .iface 134 (.agg #[.int .i64 p, .int .i64 x])) rfl rfl rfl (by simp [recoverD, hu]; rfl) ?_ ?_
  · rintro ⟨a, w2, h⟩
    simp [Exit.thenS, bodyPostS] at h
  · have hta := assert_hit (.agg #[.int .i64 p, .int .i64 x])
    show wpList _ _ _ _ { tmps := #[.pointer (some ⟨b0, 0, none⟩), .pointer (some ⟨b1, 0, none⟩), .pointer (some ⟨b2, 0, none⟩), undef, undef, undef, .iface 134 (.agg #[.int .i64 p, .int .i64 x]), undef, undef, undef, undef, undef, undef, undef, undef], defers := [] } w
    go_wp2_with fail
    refine wpS_of_wp ?_
    clear hta
    have g0 := h0.old (.cells #[.int .i64 p, .int .i64 x] 134)
    have g1 := h1.old (.cells #[.int .i64 p, .int .i64 x] 134)
    have g2 := h2.old (.cells #[.int .i64 p, .int .i64 x] 134)
    have gn := Lies.new w 134 #[.int .i64 p, .int .i64 x]
    obtain ⟨W, hW⟩ : ∃ W, W = w.alloc (.cells #[.int .i64 p, .int .i64 x] 134) := ⟨_, rfl⟩
    rw [← hW] at g0 g1 g2 gn ⊢
    have c0 := g0.cell 0
    have c1 := g1.cell 0
    have c2 := g2.cell 0
    have f0 := g0.frozen 0
    have f1 := g1.frozen 0
    have f2 := g2.frozen 0
    have n0 := gn.cell 0
    have n1 := gn.cell 1
    simp at c0 c1 c2 n0 n1
    have HW := Lib.hid hW
    clear hW
    obtain ⟨G, hG⟩ : ∃ G, G = w.heap.size := ⟨_, rfl⟩
    rw [← hG] at n0 n1 gn ⊢
    have l2 := h2.lt
    rw [← hG] at l2
    have HG := Lib.hid hG
    clear hG h0 h1 h2
    have e1 : ¬ b0 = b1 := by omega
    have e2 : ¬ b1 = b0 := by omega
    have e3 : ¬ b0 = b2 := by omega
    have e4 : ¬ b2 = b0 := by omega
    have e5 : ¬ b1 = b2 := by omega
    have e6 : ¬ b2 = b1 := by omega
    have e7 : ¬ b0 = G := by omega
    have e8 : ¬ G = b0 := by omega
    have e9 : ¬ b1 = G := by omega
    have e10 : ¬ G = b1 := by omega
    have e11 : ¬ b2 = G := by omega
    have e12 : ¬ G = b2 := by omega
    have L2 := Lib.hid l2
    clear l2
    go_wp2_with fail
    go_region
    have hb : Below b0 w W := by
      rw [HW.out]
      exact (Below.refl _ w).alloc (by have := L2.out; rw [← HG.out]; omega) _
    refine ⟨rfl, _, rfl, .tuple #[], by simp [results, Tryz.results107], rfl, rfl, ?_, ?_, ?_, ?_⟩
    · exact ((((g0.put 0 (.slice none 0 0)).far (p := ⟨b1, 0, none⟩) e1 _).far (p := ⟨b2, 0, none⟩) e3 _)).drew
    · exact (((g1.far (p := ⟨b0, 0, none⟩) e2 _).put 0 (.int .i64 p)).far (p := ⟨b2, 0, none⟩) e5 _).drew
    · exact (((g2.far (p := ⟨b0, 0, none⟩) e4 _).far (p := ⟨b1, 0, none⟩) e6 _).put 0 (.int .i64 x)).drew
    · exact (((hb.setCell (p := ⟨b0, 0, none⟩) (Nat.le_refl _) _).setCell (p := ⟨b1, 0, none⟩) (Nat.le_of_lt d01) _).setCell (p := ⟨b2, 0, none⟩) (by show b0 ≤ b2; omega) _).drew

theorem catch_idle (b0 b1 b2 : Nat) (w : World) :
    CallsD Tryz.prog 107 #[.pointer (some ⟨b0, 0, none⟩), .pointer (some ⟨b1, 0, none⟩), .pointer (some ⟨b2, 0, none⟩)] .returning w fun e u' w' =>
      e = .returned (.tuple #[]) ∧ u' = .returning ∧ Below w.heap.size w w' := by
  refine callsD_of_wpS Tryz.func107 rfl fun c₀ cs hu => ?_
  apply wpS_seq
  refine region_recover_nil (w' := w) rfl rfl rfl (by simp [recoverD, hu]) ?_ ?_
  · rintro ⟨a, w2, h⟩
    simp [Exit.thenS, bodyPostS] at h
  · have hta := assert_nil
    show wpList _ _ _ _ { tmps := #[.pointer (some ⟨b0, 0, none⟩), .pointer (some ⟨b1, 0, none⟩), .pointer (some ⟨b2, 0, none⟩), undef, undef, undef, .nilIface, undef, undef, undef, undef, undef, undef, undef, undef], defers := [] } w
    go_wp2_with fail
    refine wpS_of_wp ?_
    clear hta
    go_wp2_with fail
    refine ⟨rfl, .returning, ?_, .tuple #[], by simp [results, Tryz.results107], rfl, rfl, ?_⟩
    · cases c₀; simp_all
    · exact (Below.refl _ w).alloc (Nat.le_refl _) _

set_option maxHeartbeats 1000000 in
theorem all_bad (s : ByteArray) (p x : Int) (w : World) (hs : s.size ≤ 60000) (hg : Signs w) (h : allK s.data.toList = .error (p, x)) :
    Calls Tryz.prog 106 #[.string s] w fun e w' => e = .returned (.tuple #[.slice none 0 0, .int .i64 p, .int .i64 x]) ∧ Below w.heap.size w w' := by
  have hmf : ∀ (fn : Fn) (first cap : Array Value) (w : World), (Instr.makeFunc fn first cap).run Tryz.prog w = .ok (.func fn first cap) w := fun _ _ _ _ => rfl
  have HH := Lib.hid h
  clear h
  have hpos := hg.pos
  have hg0 : Signs (((w.alloc (.cells #[.slice none 0 0] 64)).alloc (.cells #[.int .i64 0] 3)).alloc (.cells #[.int .i64 0] 27)) :=
    hg.below ((((Below.refl _ w).alloc (Nat.le_refl _) _).alloc (by simp) _).alloc (by simp; omega) _) hpos
  go_enter_defers Tryz.func106, Tryz.ntmps106
  go_wp2_with fail
  refine (tokens_any s _ hs hg0).mono ?_
  rintro e w1 ⟨_, hbad, hb1⟩
  obtain rfl := hbad p x HH.out
  clear hbad
  have l0 := (((Lies.new w 64 #[.slice none 0 0]).old (.cells #[.int .i64 0] 3)).old (.cells #[.int .i64 0] 27)).below hb1 (by simp; omega)
  have l1 := ((Lies.new (w.alloc (.cells #[.slice none 0 0] 64)) 3 #[.int .i64 0]).old (.cells #[.int .i64 0] 27)).below hb1 (by simp)
  have l2 := (Lies.new ((w.alloc (.cells #[.slice none 0 0] 64)).alloc (.cells #[.int .i64 0] 3)) 27 #[.int .i64 0]).below hb1 (by simp)
  have hB : Below w.heap.size w w1 := ((((Below.refl _ w).alloc (Nat.le_refl _) _).alloc (by simp) _).alloc (by simp; omega) _).trans (hb1.mono (by simp; omega))
  go_wp2_with fail
  refine leaves_cons (f := 107) (args := #[.pointer (some ⟨w.heap.size, 0, none⟩), .pointer (some ⟨w.heap.size + 1, 0, none⟩), .pointer (some ⟨w.heap.size + 1 + 1, 0, none⟩)]) (by simp) (by simp [go_sem]) ?_
  refine (catch_tok w.heap.size (w.heap.size + 1) (w.heap.size + 1 + 1) p x w1 (by omega) (by omega) l0 (by simpa using l1) (by simpa using l2)).mono ?_
  rintro e u' w2 ⟨rfl, rfl, k0, k1, k2, hb2⟩
  have c0 := k0.cell 0
  have c1 := k1.cell 0
  have c2 := k2.cell 0
  simp at c0 c1 c2
  simp [Leaves, settle, results, Tryz.results106, go_sem, c0, c1, c2]
  exact hB.trans hb2

theorem own_slice {w : World} {base : Nat} {e : TypeId} {size : Nat} {v : Value} {n : Nat} {xs : List Value} (h : w.ownsRow base e size v n xs) : ∃ A c, v = .slice A n c := by
  rcases h.2 with ⟨rfl, rfl⟩ | ⟨g, cap, cur, rfl, _⟩
  · exact ⟨_, _, rfl⟩
  · exact ⟨_, _, rfl⟩

/-- What the call owns above three result variables stays owned while these are written. -/
theorem own_stored3 {w : World} {base B : Nat} {e : TypeId} {size : Nat} {v : Value} {n : Nat} {xs : List Value} (h : w.ownsRow B e size v n xs) (_hB : B ≤ w.heap.size) (hb : base + 3 ≤ B) {x y z : Value} :
    (((w.setCell ⟨base, 0, none⟩ x).setCell ⟨base + 1, 0, none⟩ y).setCell ⟨base + 1 + 1, 0, none⟩ z).ownsRow base e size v n xs :=
  Joins.ownsRow_le (ownsRow_setCell_below (ownsRow_setCell_below (ownsRow_setCell_below h (by show base < B; omega) x) (by show base + 1 < B; omega) y) (by show base + 1 + 1 < B; omega) z) (by omega)

set_option maxHeartbeats 1000000 in
theorem all_good (s : ByteArray) (ts : List Tok) (w : World) (hs : s.size ≤ 60000) (hg : Signs w) (h : allK s.data.toList = .ok ts) :
    Calls Tryz.prog 106 #[.string s] w fun e w' => ∃ A c, e = .returned (.tuple #[.slice A ts.length c, .int .i64 0, .int .i64 0]) ∧ w'.ownsRow w.heap.size 71 4 (.slice A ts.length c) ts.length (cellsOf ts) ∧ Below w.heap.size w w' := by
  have hmf : ∀ (fn : Fn) (first cap : Array Value) (w : World), (Instr.makeFunc fn first cap).run Tryz.prog w = .ok (.func fn first cap) w := fun _ _ _ _ => rfl
  have HH := Lib.hid h
  clear h
  have hpos := hg.pos
  have hg0 : Signs (((w.alloc (.cells #[.slice none 0 0] 64)).alloc (.cells #[.int .i64 0] 3)).alloc (.cells #[.int .i64 0] 27)) :=
    hg.below ((((Below.refl _ w).alloc (Nat.le_refl _) _).alloc (by simp) _).alloc (by simp; omega) _) hpos
  go_enter_defers Tryz.func106, Tryz.ntmps106
  go_wp2_with fail
  refine (tokens_any s _ hs hg0).mono ?_
  rintro e w1 ⟨hgood, _, hb1⟩
  obtain ⟨v, rfl, hown⟩ := hgood ts HH.out
  clear hgood
  obtain ⟨A, c, rfl⟩ := own_slice hown
  have l0 := (((Lies.new w 64 #[.slice none 0 0]).old (.cells #[.int .i64 0] 3)).old (.cells #[.int .i64 0] 27)).below hb1 (by simp; omega)
  have l1 : Lies w1 (w.heap.size + 1) 3 #[.int .i64 0] := by simpa using ((Lies.new (w.alloc (.cells #[.slice none 0 0] 64)) 3 #[.int .i64 0]).old (.cells #[.int .i64 0] 27)).below hb1 (by simp)
  have l2 : Lies w1 (w.heap.size + 1 + 1) 27 #[.int .i64 0] := by simpa using (Lies.new ((w.alloc (.cells #[.slice none 0 0] 64)).alloc (.cells #[.int .i64 0] 3)) 27 #[.int .i64 0]).below hb1 (by simp)
  have hB : Below w.heap.size w w1 := ((((Below.refl _ w).alloc (Nat.le_refl _) _).alloc (by simp) _).alloc (by simp; omega) _).trans (hb1.mono (by simp; omega))
  have c0 := l0.cell 0
  have c1 := l1.cell 0
  have c2 := l2.cell 0
  have f0 := l0.frozen 0
  have f1 := l1.frozen 0
  have f2 := l2.frozen 0
  simp at c0 c1 c2
  clear HH hg hg0 hs
  go_wp2_with fail
  refine leaves_cons (f := 107) (args := #[.pointer (some ⟨w.heap.size, 0, none⟩), .pointer (some ⟨w.heap.size + 1, 0, none⟩), .pointer (some ⟨w.heap.size + 1 + 1, 0, none⟩)]) (by simp) (by simp [go_sem]) ?_
  refine (catch_idle w.heap.size (w.heap.size + 1) (w.heap.size + 1 + 1) _).mono ?_
  rintro e u' w2 ⟨rfl, rfl, hb2⟩
  have hlt := l2.lt
  have hown2 := own_below (own_stored3 hown hb1.size (by simp)) hb2 (Nat.le_refl _)
  have k0 := (((l0.put 0 (.slice A ts.length c)).far (p := ⟨w.heap.size + 1, 0, none⟩) (by simp) (.int .i64 0)).far (p := ⟨w.heap.size + 1 + 1, 0, none⟩) (by simp; omega) (.int .i64 0)).below hb2 (by simp; omega)
  have k1 := (((l1.far (p := ⟨w.heap.size, 0, none⟩) (by simp) (.slice A ts.length c)).put 0 (.int .i64 0)).far (p := ⟨w.heap.size + 1 + 1, 0, none⟩) (by simp) (.int .i64 0)).below hb2 (by simp; omega)
  have k2 := (((l2.far (p := ⟨w.heap.size, 0, none⟩) (by simp; omega) (.slice A ts.length c)).far (p := ⟨w.heap.size + 1, 0, none⟩) (by simp) (.int .i64 0)).put 0 (.int .i64 0)).below hb2 (by simp; omega)
  have c0 := k0.cell 0
  have c1 := k1.cell 0
  have c2 := k2.cell 0
  simp at c0 c1 c2
  simp [Leaves, settle, results, Tryz.results106, go_sem, c0, c1, c2]
  exact ⟨A, c, ⟨rfl, rfl⟩, hown2, (((hB.setCell (p := ⟨w.heap.size, 0, none⟩) (Nat.le_refl _) _).setCell (p := ⟨w.heap.size + 1, 0, none⟩) (by simp) _).setCell (p := ⟨w.heap.size + 1 + 1, 0, none⟩) (by show w.heap.size ≤ w.heap.size + 1 + 1; omega) _).trans (hb2.mono (by simp; omega))⟩
end Lx
end Go.Proofs.YtobdoahdjbmflaaGreatDoor
namespace Go.Proofs.YtobdoahdjbmflaaGreatDoor
open Go.RowKit
namespace Lx
set_option maxRecDepth 100000
/-- The slice with the address A reads as the tokens of l. -/
def Row (w : World) (A : Option Addr) (l : List Tok) : Prop :=
  l ≠ [] → ∃ g o, A = some ⟨g, o, none⟩ ∧ ∀ n u, (cellsOf l)[n]? = some u → w.cell? ⟨g, o + n, none⟩ = some u

theorem cell_lt {w : World} {g o : Nat} {u : Value} (h : w.cell? ⟨g, o, none⟩ = some u) : g < w.heap.size := by
  by_cases hlt : g < w.heap.size
  · exact hlt
  · simp [World.cell?, Array.getElem?_eq_none (Nat.le_of_not_lt hlt)] at h

theorem cellsOf_pos {l : List Tok} (h : l ≠ []) : 0 < (cellsOf l).length := by
  rw [cellsOf_length]
  have := List.length_pos_iff.2 h
  omega
theorem Row.below {w w' : World} {A : Option Addr} {l : List Tok} {B : Nat} (h : Row w A l) (hb : Below B w w') (hB : w.heap.size ≤ B) : Row w' A l := by
  intro hl
  obtain ⟨g, o, rfl, hc⟩ := h hl
  refine ⟨g, o, rfl, fun n u hu => ?_⟩
  have h1 := hc n u hu
  have := cell_lt h1
  rw [hb.cell (p := ⟨g, o + n, none⟩) (by show g < B; omega)]
  exact h1
theorem Row.of_own {w : World} {base : Nat} {A : Option Addr} {n c : Nat} {l : List Tok} (h : w.ownsRow base 71 4 (.slice A n c) n (cellsOf l)) : Row w A l := by
  intro hl
  have hp := cellsOf_pos hl
  have hn : 0 < n := by
    have := h.1
    omega
  obtain ⟨g, cap, hv⟩ := Joins.ownsRow_form h hn
  have hA : A = some ⟨g, 0, none⟩ := by injection hv
  subst hA
  refine ⟨g, 0, rfl, fun j u hu => ?_⟩
  have h1 := h.cells (g := g) rfl j u hu
  have hadd : (⟨g, 0, none⟩ : Addr).add j = ⟨g, 0 + j, none⟩ := by unfold Addr.add; split <;> simp_all
  rw [hadd] at h1
  exact h1

theorem cellsOf_at (l : List Tok) (i : Nat) (h : i < l.length) (j : Nat) (hj : j < 4) : (cellsOf l)[i * 4 + j]? = (l[i]'h).cells[j]? := by
  induction l generalizing i with
  | nil => simp at h
  | cons a r ih =>
    have hc : cellsOf (a :: r) = a.cells ++ cellsOf r := by simp [cellsOf]
    have ha : a.cells.length = 4 := rfl
    cases i with
    | zero =>
      rw [hc, List.getElem?_append_left (by omega)]
      simp
    | succ i =>
      rw [hc, List.getElem?_append_right (by omega), ha]
      have := ih i (by simpa using h)
      rw [show (i + 1) * 4 + j - 4 = i * 4 + j from by omega, this]
      simp

/-- The four cells of token i. -/
theorem Row.at_ {w : World} {A : Option Addr} {l : List Tok} (h : Row w A l) {i : Nat} (hi : i < l.length) :
    ∃ g o, A = some ⟨g, o, none⟩ ∧ w.cell? ⟨g, o + i * 4, none⟩ = some (.int .i64 (l[i]'hi).kind) ∧ w.cell? ⟨g, o + i * 4 + 1, none⟩ = some (.string ⟨(l[i]'hi).text.toArray⟩) ∧
      w.cell? ⟨g, o + i * 4 + 2, none⟩ = some (.int .i64 (l[i]'hi).n) ∧ w.cell? ⟨g, o + i * 4 + 3, none⟩ = some (.int .i64 (l[i]'hi).place) := by
  obtain ⟨g, o, rfl, hc⟩ := h (by intro e; subst e; simp at hi)
  refine ⟨g, o, rfl, hc _ _ ?_, ?_, ?_, ?_⟩
  · have := cellsOf_at l i hi 0 (by omega); simpa [Tok.cells] using this
  · have := hc (i * 4 + 1) _ ((cellsOf_at l i hi 1 (by omega)).trans rfl); simpa [Nat.add_assoc] using this
  · have := hc (i * 4 + 2) _ ((cellsOf_at l i hi 2 (by omega)).trans rfl); simpa [Nat.add_assoc] using this
  · have := hc (i * 4 + 3) _ ((cellsOf_at l i hi 3 (by omega)).trans rfl); simpa [Nat.add_assoc] using this

theorem neq_tok (t u : Tok) (w : World) : (binOp .neq 71 (.agg #[.int .i64 t.kind, .string ⟨t.text.toArray⟩, .int .i64 t.n, .int .i64 t.place]) (.agg #[.int .i64 u.kind, .string ⟨u.text.toArray⟩, .int .i64 u.n, .int .i64 u.place])).run Tryz.prog w = .ok (.bool (decide (t ≠ u))) w := by
  obtain ⟨k1, x1, n1, p1⟩ := t
  obtain ⟨k2, x2, n2, p2⟩ := u
  simp [go_sem]
  by_cases h1 : k1 = k2 <;> by_cases h2 : x1 = x2 <;> by_cases h3 : n1 = n2 <;> by_cases h4 : p1 = p2 <;> simp [h1, h2, h3, h4]

end Lx
end Go.Proofs.YtobdoahdjbmflaaGreatDoor
namespace Go.Proofs.YtobdoahdjbmflaaGreatDoor
open Go.RowKit
namespace Lx
set_option maxRecDepth 100000
/-- A capacity is no less than the length. -/
def capF (n c : Nat) : Nat := max n c
theorem le_capF (n c : Nat) : n ≤ capF n c := Nat.le_max_left n c
theorem capF_of {n c : Nat} (h : n ≤ c) : capF n c = c := Nat.max_eq_right h
theorem own_sliceF {w : World} {base : Nat} {e : TypeId} {size : Nat} {v : Value} {n : Nat} {xs : List Value} (h : w.ownsRow base e size v n xs) : ∃ A c, v = .slice A n (capF n c) := by
  rcases h.2 with ⟨rfl, rfl⟩ | ⟨g, cap, cur, rfl, _, _, hle, _⟩
  · exact ⟨_, 0, rfl⟩
  · exact ⟨_, cap, by rw [capF_of hle]⟩
/-- Whatever block. -/
def Any : Nat → Prop := fun _ => True
mutual
/-- The parts of a tree lie from A on, in blocks of which X holds. -/
def TIn (w : World) (X : Nat → Prop) : Tr → Option Addr → Prop
  | .node _ s _ _ l, A => s.size ≤ 140737488351232 ∧ l.length ≤ 140737488351232 ∧ LIn w X l A 0
def LIn (w : World) (X : Nat → Prop) : List Tr → Option Addr → Nat → Prop
  | [], _, _ => True
  | t :: r, A, i => (∃ g o A' c, (A = some ⟨g, o, none⟩ ∧ X g) ∧ w.cell? ⟨g, o + i * 5, none⟩ = some (.int .i64 t.kind) ∧ w.cell? ⟨g, o + i * 5 + 1, none⟩ = some (.string t.name) ∧
      w.cell? ⟨g, o + i * 5 + 2, none⟩ = some (.int .i64 t.n) ∧ w.cell? ⟨g, o + i * 5 + 3, none⟩ = some (.int .i64 t.place) ∧
      w.cell? ⟨g, o + i * 5 + 4, none⟩ = some (.slice A' t.parts.length (capF t.parts.length c)) ∧ TIn w X t A') ∧ LIn w X r A (i + 1)
end
/-- A tree as a value. -/
def tv (t : Tr) (A : Option Addr) (c : Nat) : Value := .agg #[.int .i64 t.kind, .string t.name, .int .i64 t.n, .int .i64 t.place, .slice A t.parts.length (capF t.parts.length c)]

mutual
theorem TIn.keep : ∀ (t : Tr) {w w' : World} {X Y : Nat → Prop} {A : Option Addr}, TIn w X t A → (∀ g j, X g → g < w.heap.size → w'.cell? ⟨g, j, none⟩ = w.cell? ⟨g, j, none⟩ ∧ Y g) → TIn w' Y t A
  | .node k s n a l, w, w', X, Y, A, h, hk => by
    rw [TIn] at h ⊢
    exact ⟨h.1, h.2.1, LIn.keep l h.2.2 hk⟩
theorem LIn.keep : ∀ (l : List Tr) {w w' : World} {X Y : Nat → Prop} {A : Option Addr} {i : Nat}, LIn w X l A i → (∀ g j, X g → g < w.heap.size → w'.cell? ⟨g, j, none⟩ = w.cell? ⟨g, j, none⟩ ∧ Y g) → LIn w' Y l A i
  | [], w, w', X, Y, A, i, _, _ => by rw [LIn]; trivial
  | t :: r, w, w', X, Y, A, i, h, hk => by
    rw [LIn] at h ⊢
    obtain ⟨⟨g, o, A', c, ⟨e, hX⟩, h0, h1, h2, h3, h4, ht⟩, hr⟩ := h
    have hlt := cell_lt h0
    have hc : ∀ j, w'.cell? ⟨g, j, none⟩ = w.cell? ⟨g, j, none⟩ := fun j => (hk g j hX hlt).1
    exact ⟨⟨g, o, A', c, ⟨e, (hk g 0 hX hlt).2⟩, by rw [hc]; exact h0, by rw [hc]; exact h1, by rw [hc]; exact h2, by rw [hc]; exact h3, by rw [hc]; exact h4, TIn.keep t ht hk⟩, LIn.keep r hr hk⟩
end
theorem TIn.below (t : Tr) {w w' : World} {X : Nat → Prop} {A : Option Addr} {B : Nat} (h : TIn w X t A) (hb : Below B w w') (hB : w.heap.size ≤ B) : TIn w' X t A :=
  TIn.keep t h fun g j hX hlt => ⟨hb.cell (p := ⟨g, j, none⟩) (by show g < B; omega), hX⟩
theorem TIn.wide (t : Tr) {w : World} {X Y : Nat → Prop} {A : Option Addr} (h : TIn w X t A) (hXY : ∀ g, X g → g < w.heap.size → Y g) : TIn w Y t A :=
  TIn.keep t h fun g _ hX hlt => ⟨rfl, hXY g hX hlt⟩
theorem TIn.any (t : Tr) {w : World} {X : Nat → Prop} {A : Option Addr} (h : TIn w X t A) : TIn w Any t A := TIn.wide t h fun _ _ _ => trivial
theorem TIn.setCell (t : Tr) {w : World} {X : Nat → Prop} {A : Option Addr} (h : TIn w X t A) (p : Addr) (u : Value) (hp : ¬ X p.block) : TIn (w.setCell p u) X t A :=
  TIn.keep t h fun g j hX _ => ⟨World.cell?_setCell_other w p ⟨g, j, none⟩ u (fun e => by subst e; exact hp hX), hX⟩
theorem TIn.grown (t : Tr) {w w' : World} {X : Nat → Prop} {A : Option Addr} {row : Option Nat} (h : TIn w X t A) (hg : w.grownBy w' row) (hp : ∀ g, row = some g → ¬ X g) : TIn w' X t A :=
  TIn.keep t h fun g _ hX hlt => ⟨World.cell?_of_block (hg.block g hlt (fun e => hp g e.symm hX)), hX⟩

theorem LIn.at_ : ∀ (l : List Tr) {w : World} {X : Nat → Prop} {A : Option Addr} {j : Nat}, LIn w X l A j → ∀ (i : Nat) (hi : i < l.length),
    ∃ g o A' c, (A = some ⟨g, o, none⟩ ∧ X g) ∧ w.cell? ⟨g, o + (j + i) * 5, none⟩ = some (.int .i64 (l[i]'hi).kind) ∧ w.cell? ⟨g, o + (j + i) * 5 + 1, none⟩ = some (.string (l[i]'hi).name) ∧
      w.cell? ⟨g, o + (j + i) * 5 + 2, none⟩ = some (.int .i64 (l[i]'hi).n) ∧ w.cell? ⟨g, o + (j + i) * 5 + 3, none⟩ = some (.int .i64 (l[i]'hi).place) ∧
      w.cell? ⟨g, o + (j + i) * 5 + 4, none⟩ = some (.slice A' (l[i]'hi).parts.length (capF (l[i]'hi).parts.length c)) ∧ TIn w X (l[i]'hi) A'
  | [], w, X, A, j, _, i, hi => by simp at hi
  | t :: r, w, X, A, j, h, 0, hi => by
    rw [LIn] at h
    simpa using h.1
  | t :: r, w, X, A, j, h, i + 1, hi => by
    rw [LIn] at h
    have := LIn.at_ r h.2 i (by simpa using hi)
    rw [show j + 1 + i = j + (i + 1) from by omega] at this
    simpa using this
theorem LIn.mk : ∀ (l : List Tr) {w : World} {X : Nat → Prop} {A : Option Addr} (j : Nat), (∀ (i : Nat) (hi : i < l.length),
    ∃ g o A' c, (A = some ⟨g, o, none⟩ ∧ X g) ∧ w.cell? ⟨g, o + (j + i) * 5, none⟩ = some (.int .i64 (l[i]'hi).kind) ∧ w.cell? ⟨g, o + (j + i) * 5 + 1, none⟩ = some (.string (l[i]'hi).name) ∧
      w.cell? ⟨g, o + (j + i) * 5 + 2, none⟩ = some (.int .i64 (l[i]'hi).n) ∧ w.cell? ⟨g, o + (j + i) * 5 + 3, none⟩ = some (.int .i64 (l[i]'hi).place) ∧
      w.cell? ⟨g, o + (j + i) * 5 + 4, none⟩ = some (.slice A' (l[i]'hi).parts.length (capF (l[i]'hi).parts.length c)) ∧ TIn w X (l[i]'hi) A') → LIn w X l A j
  | [], w, X, A, j, _ => by rw [LIn]; trivial
  | t :: r, w, X, A, j, h => by
    rw [LIn]
    refine ⟨(by have := h 0 (by simp); rw [Nat.add_zero] at this; exact this), LIn.mk r (j + 1) fun i hi => ?_⟩
    have := h (i + 1) (by simpa using hi)
    rw [show j + 1 + i = j + (i + 1) from by omega]
    simpa using this
/-- The five cells of part i, and its own parts. -/
theorem TIn.part {t : Tr} {w : World} {X : Nat → Prop} {A : Option Addr} (h : TIn w X t A) (i : Nat) (hi : i < t.parts.length) :
    ∃ g o A' c, (A = some ⟨g, o, none⟩ ∧ X g) ∧ w.cell? ⟨g, o + i * 5, none⟩ = some (.int .i64 (t.parts[i]'hi).kind) ∧ w.cell? ⟨g, o + i * 5 + 1, none⟩ = some (.string (t.parts[i]'hi).name) ∧
      w.cell? ⟨g, o + i * 5 + 2, none⟩ = some (.int .i64 (t.parts[i]'hi).n) ∧ w.cell? ⟨g, o + i * 5 + 3, none⟩ = some (.int .i64 (t.parts[i]'hi).place) ∧
      w.cell? ⟨g, o + i * 5 + 4, none⟩ = some (.slice A' (t.parts[i]'hi).parts.length (capF (t.parts[i]'hi).parts.length c)) ∧ TIn w X (t.parts[i]'hi) A' := by
  obtain ⟨k, s, n, a, l⟩ := t
  rw [TIn] at h
  have := LIn.at_ l h.2.2 i hi
  rw [Nat.zero_add] at this
  exact this
end Lx
end Go.Proofs.YtobdoahdjbmflaaGreatDoor
namespace Go.Proofs.YtobdoahdjbmflaaGreatDoor
open Go Go.RowKit
namespace Lx
set_option maxRecDepth 100000
def MapS (w : World) (bm N : Nat) (C : ByteArray → Int) : Prop :=
  ∃ (n : Nat) (D : DataW Unit), w.ownsMap Tryz.prog 9 (plainElem Tryz.prog 3) bm n D ∧ n ≤ N ∧ ∀ x : ByteArray, D.atKey (.string x.data.toList) (.lit (.int .i64 0)) = .lit (.int .i64 (C x))
theorem MapS.heap {w w' : World} {bm N : Nat} {C : ByteArray → Int} (h : MapS w bm N C) (hb : w'.heap[bm]? = w.heap[bm]?) : MapS w' bm N C := by
  obtain ⟨n, D, ⟨es, clock, hw, F, hs, hD⟩, hn, hC⟩ := h
  exact ⟨n, D, ⟨es, clock, hb.trans hw, F, hs, hD⟩, hn, hC⟩
theorem MapS.lt {w : World} {bm N : Nat} {C : ByteArray → Int} (h : MapS w bm N C) : bm < w.heap.size := by obtain ⟨n, D, hw, _⟩ := h; exact hw.lt
theorem MapS.below {w w' : World} {bm N B : Nat} {C : ByteArray → Int} (h : MapS w bm N C) (hb : Below B w w') (hB : bm < B) : MapS w' bm N C := h.heap (hb.block bm hB)
theorem MapS.made (w : World) : MapS (w.alloc (.map #[] 0)) w.heap.size 0 fun _ => 0 :=
  ⟨0, .map [], World.ownsMap_made w _ _ _, Nat.le_refl _, fun _ => rfl⟩
theorem MapS.mono {W : World} {bm N N' : Nat} {C : ByteArray → Int} (h : MapS W bm N C) (hN : N ≤ N') : MapS W bm N' C := by
  obtain ⟨n, D, hw, hn, hC⟩ := h
  exact ⟨n, D, hw, by omega, hC⟩
theorem MapS.eq {W : World} {bm N : Nat} {C C' : ByteArray → Int} (h : MapS W bm N C) (e : ∀ v, C v = C' v) : MapS W bm N C' := by
  obtain ⟨n, D, hw, hn, hC⟩ := h
  exact ⟨n, D, hw, hn, fun x => by rw [hC, e]⟩
theorem MapS.put {w' : World} {bm n N : Nat} {D : DataW Unit} {C : ByteArray → Int} {x : ByteArray} {y : Int} (h : w'.ownsMap Tryz.prog 9 (plainElem Tryz.prog 3) bm (n + 1) (D.put (.string x.data.toList) (.lit (.int .i64 y)))) (hn : n ≤ N) (hD : Maps.IsMap D)
    (hC : ∀ x : ByteArray, D.atKey (.string x.data.toList) (.lit (.int .i64 0)) = .lit (.int .i64 (C x))) : MapS w' bm (N + 1) (fun v => if v = x then y else C v) := by
  refine ⟨n + 1, _, h, by omega, fun v => ?_⟩
  by_cases hv : v = x
  · subst hv
    simp only [if_pos]
    exact Maps.atKey_put_same hD (k := .string v.data.toList) (by unfold WideAt.IsKeyLit; trivial) _ _
  · simp only [if_neg hv]
    rw [Maps.atKey_put_other (fun e => hv (by
      injection e with e
      obtain ⟨⟨a⟩⟩ := v
      obtain ⟨⟨b⟩⟩ := x
      simp at e
      rw [e]))]
    exact hC v
theorem int_wf {x : Int} (h0 : -9223372036854775808 ≤ x) (h1 : x ≤ 9223372036854775807) : (Lit.int .i64 x).wf = true := by simp [Lit.wf, IntKind.min, IntKind.max, IntKind.signed, IntKind.bits]; omega
theorem countN_snoc (b : List ByteArray) (s : ByteArray) (v : ByteArray) : countN (b ++ [s]) v = if v = s then countN b s + 1 else countN b v := by
  rw [countN_app, countN, countN]
  by_cases h : v = s
  · subst h; simp
  · simp [h]
end Lx
end Go.Proofs.YtobdoahdjbmflaaGreatDoor
namespace Go.Proofs.YtobdoahdjbmflaaGreatDoor
open Go Go.RowKit
namespace Lx
set_option maxRecDepth 100000
/-- A place as a value. -/
def sv (x : Spot) (A : Option Addr) (c : Nat) : Value := .agg #[.int .i64 x.t.kind, .string x.t.name, .int .i64 x.t.n, .int .i64 x.t.place, .slice A x.t.parts.length (capF x.t.parts.length c), .bool x.free, .bool x.twin]
structure AsksS (l : Nat) (X : Nat → Prop) (full : List Spot) (J Jx : List Spot → (Nat → Prop) → World → Prop) : Prop where
  frame : ∀ pre Z A B, J pre Z A → A.heap.size ≤ B.heap.size → (∀ k, Z k → B.heap[k]? = A.heap[k]?) → J pre Z B
  frameX : ∀ pre Z A B, Jx pre Z A → A.heap.size ≤ B.heap.size → (∀ k, Z k → B.heap[k]? = A.heap[k]?) → Jx pre Z B
  lt : ∀ pre Z A, J pre Z A → ∀ k, Z k → k < A.heap.size
  ltX : ∀ pre Z A, Jx pre Z A → ∀ k, Z k → k < A.heap.size
  round : ∀ pre x A0 c0 Z A, J pre Z A → TIn A X x.t A0 → pre ++ [x] <+: full → YieldAt Fence.wide 0 Tryz.prog l #[sv x A0 c0] A fun e B => ∃ (r : Bool) (Z' : Nat → Prop), e = .returned (.bool r) ∧ Gz (fun _ => False) Z A Z' B ∧
    (r = true → J (pre ++ [x]) Z' B) ∧ (r = false → Jx (pre ++ [x]) Z' B)
theorem AsksS.own {l : Nat} {X : Nat → Prop} {full : List Spot} {J Jx : List Spot → (Nat → Prop) → World → Prop} (h : AsksS l X full J Jx) {pre : List Spot} {Z E : Nat → Prop} {A B : World} (hJ : J pre Z A) (hG : Gz E (fun _ => False) A (fun _ => False) B) (hE : ∀ k, Z k → ¬ E k) : J pre Z B :=
  h.frame pre Z A B hJ hG.size fun k hk => hG.same k (h.lt pre Z A hJ k hk) (fun h => h) (hE k hk)
theorem AsksS.ownX {l : Nat} {X : Nat → Prop} {full : List Spot} {J Jx : List Spot → (Nat → Prop) → World → Prop} (h : AsksS l X full J Jx) {pre : List Spot} {Z E : Nat → Prop} {A B : World} (hJ : Jx pre Z A) (hG : Gz E (fun _ => False) A (fun _ => False) B) (hE : ∀ k, Z k → ¬ E k) : Jx pre Z B :=
  h.frameX pre Z A B hJ hG.size fun k hk => hG.same k (h.ltX pre Z A hJ k hk) (fun h => h) (hE k hk)
theorem Gz.any {E Z : Nat → Prop} {A B : World} (h : Gz E (fun _ => False) A (fun _ => False) B) : Gz E Z A Z B :=
  ⟨h.os, h.tape, h.output, h.size, fun k hk _ he => h.same k hk (fun h => h) he, fun _ hz => .inl hz⟩
abbrev No : Nat → Prop := fun _ => False
theorem Gz.cell {E Z Z' : Nat → Prop} {A B : World} (h : Gz E Z A Z' B) {k i : Nat} {v : Value} (hc : A.cell? ⟨k, i, none⟩ = some v) (hz : ¬ Z k) (he : ¬ E k) : B.cell? ⟨k, i, none⟩ = some v :=
  (World.cell?_of_block (h.same k (World.block_lt_of_cell? A ⟨k, i, none⟩ hc) hz he)).trans hc
theorem TIn.gz {X E Z Z' : Nat → Prop} {A B : World} (t : Tr) {a : Option Addr} (h : TIn A X t a) (hG : Gz E Z A Z' B) (hX : ∀ g, X g → ¬ Z g ∧ ¬ E g) : TIn B X t a :=
  TIn.keep t h fun g _j hg hlt => ⟨World.cell?_of_block (hG.same g hlt (hX g hg).1 (hX g hg).2), hg⟩
theorem LIn.gz {X E Z Z' : Nat → Prop} {A B : World} (t : List Tr) {a : Option Addr} {i : Nat} (h : LIn A X t a i) (hG : Gz E Z A Z' B) (hX : ∀ g, X g → ¬ Z g ∧ ¬ E g) : LIn B X t a i :=
  LIn.keep t h fun g _j hg hlt => ⟨World.cell?_of_block (hG.same g hlt (hX g hg).1 (hX g hg).2), hg⟩
theorem Gz.grown {E Z Z' : Nat → Prop} {A B C : World} {row : Option Nat} (h : Gz E Z A Z' B) (hg : B.grownBy C row) (hr : ∀ k, row = some k → A.heap.size ≤ k ∨ E k) : Gz E Z A Z' C :=
  ⟨hg.os.trans h.os, hg.tape.trans h.tape, hg.output.trans h.output, Nat.le_trans h.size hg.size,
    fun k hk hz he => (hg.block k (by have := h.size; omega) (fun e => (hr k e.symm).elim (fun h' => by omega) he)).trans (h.same k hk hz he), h.ext⟩
theorem Gz.setCell {E Z Z' : Nat → Prop} {A B : World} (h : Gz E Z A Z' B) (p : Addr) (v : Value) (hp : A.heap.size ≤ p.block ∨ E p.block) : Gz E Z A Z' (B.setCell p v) :=
  ⟨h.os, h.tape, h.output, by rw [show (B.setCell p v).heap.size = B.heap.size from by simp [World.setCell]]; exact h.size,
    fun k hk hz he => (Below.heap_setCell B p v k (fun e => by subst e; exact hp.elim (fun h' => by omega) he)).trans (h.same k hk hz he), h.ext⟩
theorem load_boolS {W : World} {g : Nat} {r : Bool} (hc : W.cell? ⟨g, 0, none⟩ = some (.bool r)) : (loadVar 4 ⟨g, 0, none⟩).run Tryz.prog W = .ok (.bool r) W := by
  have := Tryz.underlying4
  go_simp
theorem results_boolS {fn : Func} {p : Tmp} (h : fn.results = #[.cell p 4]) (tmps : Array Value) {W : World} {g : Nat} {r : Bool} (hp : tmps.getD p undef = .pointer (some ⟨g, 0, none⟩)) (hc : W.cell? ⟨g, 0, none⟩ = some (.bool r)) :
    (results fn tmps).run Tryz.prog W = .ok (.bool r) W := by
  have hp' : tmps[p]?.getD undef = .pointer (some ⟨g, 0, none⟩) := by simpa using hp
  simp [results, h, hp', asAddr, load_boolS hc]
end Lx
end Go.Proofs.YtobdoahdjbmflaaGreatDoor
namespace Go.Proofs.YtobdoahdjbmflaaGreatDoor
open Go Go.RowKit
attribute [local go_sem] Oper.semAt_some
namespace Lx
set_option maxRecDepth 100000
abbrev twinF (B : Nat) : Value := .func (.func 49) #[] #[.pointer (some ⟨B, 0, none⟩)]
theorem twins_any (w : World) : Calls Tryz.prog 30 #[] w fun e w' => ∃ (B bm : Nat), e = .returned (twinF B) ∧ w'.cell? ⟨B, 0, none⟩ = some (.map (some bm)) ∧ MapS w' bm 0 (countN []) ∧ w.heap.size ≤ bm ∧ w.heap.size ≤ B ∧ B ≠ bm ∧ B < w'.heap.size ∧ Below w.heap.size w w' := by
  have hmm := @run_makeMap Tryz.prog
  go_enter Tryz.func30, Tryz.ntmps30
  go_upto_region 2 with fail
  obtain ⟨V, hV⟩ : ∃ V, V = (w.alloc (.map #[] 0)).alloc (.cells #[.map (some w.heap.size)] 49) := ⟨_, rfl⟩
  have hb : Below w.heap.size w V := by rw [hV]; exact ((Below.refl _ w).alloc (Nat.le_refl _) _).alloc (by simp) _
  have L : Lies V (w.heap.size + 1) 49 #[.map (some w.heap.size)] := by rw [hV]; simpa using Lies.new (w.alloc (.map #[] 0)) 49 #[.map (some w.heap.size)]
  have hM : MapS V w.heap.size 0 (countN []) := by
    have h := (MapS.made w).heap (w' := V) (by rw [hV]; exact Below.heap_alloc _ _ _ (by simp))
    exact h.eq fun v => rfl
  rw [← hV]
  clear hV
  go_wp2_with fail
  go_ret
  exact ⟨w.heap.size + 1, w.heap.size, by simp, L.cell 0, hM, Nat.le_refl _, by omega, by omega, L.lt, hb⟩
set_option maxHeartbeats 4000000 in
/-- A name is told once more. -/
theorem twins1_any (B bm N : Nat) (C : ByteArray → Int) (s : ByteArray) (w : World) (hB : w.cell? ⟨B, 0, none⟩ = some (.map (some bm))) (hne : B ≠ bm) (hM : MapS w bm N C) (hN : N ≤ 1000000000000) (hs : s.size ≤ 140737488351232) (hC : 0 ≤ C s ∧ C s ≤ 1000000000000) :
    Calls Tryz.prog 49 #[.string s, .pointer (some ⟨B, 0, none⟩)] w fun e w' => e = .returned (.bool (decide (1 < C s + 1))) ∧ MapS w' bm (N + 1) (fun v => if v = s then C s + 1 else C v) ∧ w.grownBy w' (some bm) := by
  obtain ⟨q, D, hown, hq, hD⟩ := hM
  have hmap : Maps.IsMap D := by obtain ⟨es, clock, _, _, _, hD⟩ := hown; exact ⟨_, hD⟩
  have hkey : keyOf Tryz.prog 9 (.string s) = some (.string s.data.toList) := Go.WideMaps.keyOf_string_mk Tryz.underlying9 (by unfold maxLen; omega)
  obtain ⟨x, hx⟩ : ∃ x, x = C s := ⟨_, rfl⟩
  have hP : ∀ w', w'.ownsMap Tryz.prog 9 (plainElem Tryz.prog 3) bm (q + 1) (D.put (.string s.data.toList) (.lit (.int .i64 (x + 1)))) → MapS w' bm (N + 1) (fun v => if v = s then x + 1 else C v) := fun w' h => MapS.put h hq hmap hD
  have hat1 : (D.put (.string s.data.toList) (.lit (.int .i64 (x + 1)))).atKey (.string s.data.toList) (.lit (.int .i64 0)) = .lit (.int .i64 (x + 1)) := Maps.atKey_put_same hmap (k := .string s.data.toList) (by unfold WideAt.IsKeyLit; trivial) _ _
  have hDs := hD s
  rw [← hx] at hDs hC ⊢
  have HP := Lib.hid hP
  have HA0 := Lib.hid hDs
  have HA1 := Lib.hid hat1
  have hBl : B < w.heap.size := World.block_lt_of_cell? w _ hB
  have HG : Hid (∀ w', w.grownBy w' (some bm) → w'.cell? ⟨B, 0, none⟩ = some (.map (some bm))) := Lib.hid fun w' hg => (World.cell?_of_block (hg.block B hBl (fun e => hne (by injection e with e)))).trans hB
  clear hP hD hDs hat1 hx
  go_enter Tryz.func49, Tryz.ntmps49
  go_wp2_with (first
    | (at_lookup; refine wpList_lookup_own_int _ rfl _ _ 49 rfl 9 3 .i64 (Maps.string_keyed Tryz.underlying9) Tryz.underlying49 Tryz.underlying3 (Tryz.zeroValue3 _) bm q D rfl hown _ _ rfl hkey ?_; intro cc hat hwc; have e9 : x = cc := (by rw [HA0.out] at hat; injection hat with hat; injection hat with _ hat); subst e9)
    | (at_lookup; refine wpList_lookup_own_int _ rfl _ _ 49 rfl 9 3 .i64 (Maps.string_keyed Tryz.underlying9) Tryz.underlying49 Tryz.underlying3 (Tryz.zeroValue3 _) bm (q + 1) _ rfl hown1 _ _ rfl hkey ?_; intro cc hat hwc; have e8 : x + 1 = cc := (by rw [HA1.out] at hat; injection hat with hat; injection hat with _ hat); subst e8)
    | (at_mapUpdate; refine wpList_mapUpdate_own _ rfl _ _ _ 49 rfl 9 3 (Maps.string_keyed Tryz.underlying9) Tryz.underlying49 _ bm q D rfl hown (by simp only [maxLen]; omega) _ _ _ rfl rfl hkey _ [] (plainElem_int Tryz.underlying3 (int_wf (by omega) (by omega))) ?_; intro w1 hown1 hgrow1; have hB1 := HG.out w1 hgrow1))
  go_ret
  exact ⟨rfl, HP.out _ hown1, hgrow1⟩
end Lx
end Go.Proofs.YtobdoahdjbmflaaGreatDoor
namespace Go.Proofs.YtobdoahdjbmflaaGreatDoor
namespace Lx
set_option maxRecDepth 100000

inductive Te where
  | node (kind : Int) (n : Int) (name : ByteArray) (l : List Te)

def Te.kind : Te → Int | .node k _ _ _ => k
def Te.n : Te → Int | .node _ n _ _ => n
def Te.name : Te → ByteArray | .node _ _ s _ => s
def Te.parts : Te → List Te | .node _ _ _ l => l

mutual
def depthE : Te → Nat
  | .node _ _ _ l => depthEL l + 1
def depthEL : List Te → Nat
  | [] => 0
  | t :: r => max (depthE t) (depthEL r)
end
mutual
def sizeE : Te → Nat
  | .node _ _ _ l => sizeEL l + 1
def sizeEL : List Te → Nat
  | [] => 0
  | t :: r => sizeE t + sizeEL r
end
mutual
/-- How many of so many parts are left; -1: there are more, or they lie deeper. -/
def fewE : Te → Int → Int → Int
  | .node _ _ _ l, left, deep => if left < 1 ∨ deep < 1 then -1 else fewEL l (left - 1) (deep - 1)
def fewEL : List Te → Int → Int → Int
  | [], left, _ => left
  | t :: r, left, deep => if fewE t left deep < 0 then -1 else fewEL r (fewE t left deep) deep
end
mutual
/-- All is the same. -/
def sameE : Te → Te → Bool
  | .node k n s l, .node k' n' s' l' => decide (k = k') && (decide (n = n') && (decide (s = s') && sameEL l l'))
def sameEL : List Te → List Te → Bool
  | [], [] => true
  | t :: r, t' :: r' => sameE t t' && sameEL r r'
  | _, _ => false
end

/-- Which part of a term may be of which kind: alternatives in a case alone, behind its first part. -/
def standsE (k : Int) (i : Nat) (p : Int) : Bool := decide (k = 5 ∧ 0 < i) == decide (p = 6)
/-- How many variables more the parts have. -/
def moreE (k n : Int) : Int := if k = 2 then 1 else if k = 6 then n else 0
/-- Kind, N, Name and the number of parts, of so many free variables and so many bound. -/
def headE (k n : Int) (s : List UInt8) (m : Nat) (free bound : Int) : Bool :=
  if k = 1 then s == [] && (decide (0 ≤ n) && (decide (n - bound < free) && decide (m = 0)))
  else if k = 2 then s == [] && (decide (n = 0) && decide (m = 1))
  else if k = 3 then s == [] && (decide (n = 0) && decide (m = 2))
  else if k = 4 then conV s && (decide (n = 0) && decide (m ≤ 8))
  else if k = 5 then s == [] && (decide (n = 0) && (decide (2 ≤ m) && decide (m ≤ 9)))
  else if k = 6 then conV s && (decide (0 ≤ n) && (decide (n ≤ 8) && decide (m = 1)))
  else if k = 7 then s == [] && decide (m = 0)
  else if k = 8 then opV s && (decide (n = 0) && decide (m = 2))
  else if k = 9 then s == [] && (decide (n = 0) && decide (m = 0))
  else false
/-- No two of these have one name, nor one that was met. -/
def unlikeF : List Te → List Te → Bool
  | _, [] => true
  | met, t :: r => !(met.any fun u => decide (t.name = u.name)) && unlikeF (met ++ [t]) r
def unlikeE (l : List Te) : Bool := unlikeF [] l
mutual
def mayE : Te → Int → Int → Bool
  | .node k n s l, free, bound => headE k n s.data.toList l.length free bound && (mayEL k 0 l free (bound + moreE k n) && (!(decide (k = 5)) || unlikeE (l.drop 1)))
def mayEL (k : Int) : Nat → List Te → Int → Int → Bool
  | _, [], _, _ => true
  | i, t :: r, free, bound => standsE k i t.kind && (mayE t free bound && mayEL k (i + 1) r free bound)
end
/-- May a term be, as a whole one, of so many free variables? -/
def mayV6 (t : Te) (free : Int) : Bool := decide (0 ≤ free) && (decide (t.kind ≠ 6) && mayE t free 0)

theorem depthEL_snoc (l : List Te) (t : Te) : depthEL (l ++ [t]) = max (depthEL l) (depthE t) := by
  induction l with
  | nil => simp [depthEL]
  | cons a r ih => simp only [List.cons_append, depthEL, ih]; omega
theorem sizeEL_snoc (l : List Te) (t : Te) : sizeEL (l ++ [t]) = sizeEL l + sizeE t := by
  induction l with
  | nil => simp [sizeEL]
  | cons a r ih => simp only [List.cons_append, sizeEL, ih]; omega
theorem depthE_pos (t : Te) : 0 < depthE t := by cases t; simp [depthE]
theorem sizeE_pos (t : Te) : 0 < sizeE t := by cases t; simp [sizeE]
theorem depthEL_mem : ∀ (l : List Te) (t : Te), t ∈ l → depthE t ≤ depthEL l
  | [], t, h => by simp at h
  | a :: r, t, h => by
    rw [depthEL]
    rcases List.mem_cons.1 h with rfl | h
    · omega
    · have := depthEL_mem r t h; omega
theorem sizeEL_mem : ∀ (l : List Te) (t : Te), t ∈ l → sizeE t ≤ sizeEL l
  | [], t, h => by simp at h
  | a :: r, t, h => by
    rw [sizeEL]
    rcases List.mem_cons.1 h with rfl | h
    · omega
    · have := sizeEL_mem r t h; omega
theorem sizeEL_len : ∀ l : List Te, l.length ≤ sizeEL l
  | [] => by simp [sizeEL]
  | a :: r => by
    have := sizeEL_len r
    have := sizeE_pos a
    simp only [List.length_cons, sizeEL]; omega
mutual
theorem depthE_le_size : ∀ t : Te, depthE t ≤ sizeE t
  | .node _ _ _ l => by rw [depthE, sizeE]; have := depthEL_le_size l; omega
theorem depthEL_le_size : ∀ l : List Te, depthEL l ≤ sizeEL l
  | [] => by simp [depthEL]
  | t :: r => by rw [depthEL, sizeEL]; have := depthE_le_size t; have := depthEL_le_size r; omega
end
theorem depthEL_take (l : List Te) (i : Nat) : depthEL (l.take i) ≤ depthEL l := by
  induction l generalizing i with
  | nil => simp
  | cons a r ih =>
    cases i with
    | zero => simp [depthEL]
    | succ i => simp only [List.take_succ_cons, depthEL]; have := ih i; omega
theorem sizeEL_take (l : List Te) (i : Nat) : sizeEL (l.take i) ≤ sizeEL l := by
  induction l generalizing i with
  | nil => simp
  | cons a r ih =>
    cases i with
    | zero => simp [sizeEL]
    | succ i => simp only [List.take_succ_cons, sizeEL]; have := ih i; omega
theorem sameEL_len : ∀ l l' : List Te, sameEL l l' = true → l.length = l'.length
  | [], [], _ => rfl
  | [], _ :: _, h => by simp [sameEL] at h
  | _ :: _, [], h => by simp [sameEL] at h
  | a :: r, a' :: r', h => by
    rw [sameEL, Bool.and_eq_true] at h
    simp [sameEL_len r r' h.2]
mutual
theorem fewE_size : ∀ (t : Te) (a d : Int), 0 ≤ fewE t a d → (sizeE t : Int) + fewE t a d = a ∧ (depthE t : Int) ≤ d
  | .node _ _ _ l, a, d, h => by
    rw [fewE] at h ⊢
    split at h
    · omega
    · rename_i h1
      rw [if_neg h1]
      have h2 := fewE_sizeL l (a - 1) (d - 1) h
      rw [sizeE, depthE]
      rcases h2.2 with h4 | rfl
      · omega
      · simp only [depthEL, sizeEL] at h2 ⊢
        omega
theorem fewE_sizeL : ∀ (l : List Te) (a d : Int), 0 ≤ fewEL l a d → (sizeEL l : Int) + fewEL l a d = a ∧ ((depthEL l : Int) ≤ d ∨ l = [])
  | [], a, d, h => by simp [fewEL, sizeEL]
  | t :: r, a, d, h => by
    rw [fewEL] at h ⊢
    split at h
    · omega
    · rename_i h1
      rw [if_neg h1]
      have h2 := fewE_size t a d (by omega)
      have h3 := fewE_sizeL r (fewE t a d) d h
      rw [sizeEL, depthEL]
      refine ⟨by omega, .inl ?_⟩
      rcases h3.2 with h4 | rfl
      · omega
      · simp [depthEL]; omega
end
mutual
/-- What is the same is one. -/
theorem sameE_eq : ∀ t u : Te, sameE t u = true → t = u
  | .node k n s l, .node k' n' s' l', h => by
    rw [sameE] at h
    simp only [Bool.and_eq_true, decide_eq_true_eq] at h
    obtain ⟨rfl, rfl, rfl, hl⟩ := h
    rw [sameEL_eq l l' hl]
theorem sameEL_eq : ∀ l m : List Te, sameEL l m = true → l = m
  | [], [], _ => rfl
  | [], _ :: _, h => by simp [sameEL] at h
  | _ :: _, [], h => by simp [sameEL] at h
  | t :: r, u :: q, h => by
    rw [sameEL, Bool.and_eq_true] at h
    rw [sameE_eq t u h.1, sameEL_eq r q h.2]
end
mutual
theorem sameE_refl : ∀ t : Te, sameE t t = true
  | .node k n s l => by rw [sameE]; simp [sameEL_refl l]
theorem sameEL_refl : ∀ l : List Te, sameEL l l = true
  | [] => by rw [sameEL]
  | t :: r => by rw [sameEL, sameE_refl t, sameEL_refl r]; rfl
end
theorem sameE_iff (t u : Te) : sameE t u = true ↔ t = u := ⟨sameE_eq t u, fun h => h ▸ sameE_refl t⟩
theorem sameE_comm (t u : Te) : sameE t u = sameE u t := by
  rw [Bool.eq_iff_iff, sameE_iff, sameE_iff]; exact eq_comm
end Lx
end Go.Proofs.YtobdoahdjbmflaaGreatDoor
