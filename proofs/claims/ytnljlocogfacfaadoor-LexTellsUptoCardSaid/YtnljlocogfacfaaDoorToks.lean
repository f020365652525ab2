/-
  Walks of lex.tokens and lex.All.
-/
import Derived.Test.YtnljlocogfacfaaDoorSign
import Derived.Test.YtnljlocogfacfaaDoorScan
import Derived.OwnWalk
import Derived.Recover
import Derived.Defers
namespace Go.Proofs.YtnljlocogfacfaaDoor
open Go.RowKit
namespace Lx
set_option maxRecDepth 100000
theorem own_below {w w' : World} {base : Nat} {e : TypeId} {size : Nat} {v : Value} {n : Nat} {xs : List Value} {B : Nat} (h : w.ownsRow base e size v n xs) (hb : Below B w w') (hB : w.heap.size ≤ B) : w'.ownsRow base e size v n xs := by
  obtain ⟨h1, h2⟩ := h
  refine ⟨h1, ?_⟩
  rcases h2 with h2 | ⟨g, cap, cur, hv, hg, hh, r⟩
  · exact .inl h2
  · have hlt : g < w.heap.size := (Array.getElem?_eq_some_iff.1 hh).1
    exact .inr ⟨g, cap, cur, hv, hg, (hb.block g (by omega)).trans hh, r⟩
theorem Lies.grown {w w' : World} {g : Nat} {t : TypeId} {cs : Array Value} {row : Option Nat} (h : Lies w g t cs) (hb : w.grownBy w' row) (hg : some g ≠ row) : Lies w' g t cs := (hb.block g h.lt hg).trans h

theorem new_cells (w : World) (t : TypeId) (cs : List Value) (g : Nat) (hg : g = w.heap.size) : ∀ (j : Nat) (u : Value), cs[j]? = some u → (w.alloc (.cells cs.toArray t)).cell? ((⟨g, 0, none⟩ : Addr).add j) = some u := by
  intro j u hu
  subst hg
  have hadd : (⟨w.heap.size, 0, none⟩ : Addr).add j = ⟨w.heap.size, j, none⟩ := by unfold Addr.add; split <;> simp_all
  rw [hadd, (Lies.new w t cs.toArray).cell j]
  simpa using hu
theorem info33 : (Tryd.prog.info? 48).map (fun i => (i.zero, i.size, i.bytes)) = some (some (.agg #[.int .i64 0, .string ⟨#[]⟩, .int .i64 0, .int .i64 0]), 4, 40) := by kernel_rfl

def TokensPost (B : Nat) (w : World) (r : Except (Int × Int) (List Tok)) (e : Ending) (w' : World) : Prop :=
  (∀ ts, r = .ok ts → ∃ v, e = .returned v ∧ w'.ownsRow B 48 4 v ts.length (cellsOf ts)) ∧
  (∀ p x, r = .error (p, x) → e = .panicked [{ v := noTok p x, recovered := false }]) ∧ Below B w w'

theorem span_blk_from (s : ByteArray) (k : Nat) (w : World) : Calls Tryd.prog 48 #[.string (s.extract k s.size), .func (.func 49) #[] #[]] w fun e w' => e = .returned (.int .i64 (run blkR (s.data.toList.drop k))) ∧ Below w.heap.size w w' := by
  have h := span_blk (s.extract k s.size) w
  rw [Lib.extract_to_end] at h
  exact h

set_option maxHeartbeats 2000000 in
theorem tokens_any (s : ByteArray) (w : World) (hs : s.size ≤ 60000) (hg : Signs w) :
    Calls Tryd.prog 35 #[.string s] w fun e w' => TokensPost w.heap.size w (allK s.data.toList) e w' := by
  have hpos := hg.pos
  have hl0 := Lib.hid (Lib.size_eq s)
  have hr0 := run_le blkR s.data.toList
  rw [← hl0.out] at hr0
  go_enter Tryd.func35, Tryd.ntmps35
  go_wp2_with fail
  refine (span_blk _ _).mono ?_
  rintro e w1 ⟨rfl, hb1⟩
  go_wp2_with fail
  go_loopw [3, 4] (fun v a wr => ∃ (k f : Nat) (acc : List Tok), k ≤ s.size ∧ a = .int .i64 k ∧ s.size < k + f ∧ acc.length ≤ k ∧ wr.ownsRow w.heap.size 48 4 v acc.length (cellsOf acc) ∧ Below w.heap.size w wr ∧ Hid (allK s.data.toList = glue acc (scan f (s.data.toList.drop k) k))) (fun _ a _ => s.size - (intOf a).toNat)
  case atStart =>
    refine ⟨run blkR s.data.toList, s.size + 1, [], hr0, rfl, by omega, by simp, World.ownsRow_nil _ _ _ _, hb1, ?_⟩
    show allK s.data.toList = _
    unfold allK
    rw [← hl0.out]
    cases scan (s.size + 1) (s.data.toList.drop (run blkR s.data.toList)) (run blkR s.data.toList) <;> simp [glue]
  case round =>
    obtain ⟨k, f, acc, hk, rfl, hf, ha, hown, hbw, HS⟩ := hrel
    have hgr : Signs wr := hg.below hbw hpos
    have hbs := hbw.size
    by_cases hlt : k < s.size
    · obtain ⟨f, rfl⟩ : ∃ f', f = f' + 1 := ⟨f - 1, by omega⟩
      cases htk : tokK (s.data.toList.drop k) with
      | error x =>
        have HB := Lib.hid (token_bad s k x wr hk hgr htk)
        have HE := Lib.hid (scan_bad (f := f) (k := k) (by intro e; have := congrArg List.length e; simp at this; omega) htk)
        clear htk
        go_wp2_with fail
        refine HB.out.mono ?_
        rintro e w2 ⟨rfl, hb2⟩
        go_wp2_with fail
        refine ⟨rfl, fun ts h => ?_, fun p y h => ?_, hbw.trans (hb2.mono hbs)⟩
        · rw [HS.out, HE.out] at h; cases h
        · rw [HS.out, HE.out] at h
          simp only [glue, Except.error.injEq, Prod.mk.injEq] at h
          rw [← h.1, ← h.2]
      | ok r =>
        obtain ⟨kd, n, t⟩ := r
        have HB := Lib.hid (token_good s k kd n t wr hk hgr htk)
        have hst := scan_step (l := s.data.toList) (by rw [← hl0.out]; exact hlt) (by rw [← hl0.out]; omega) ha htk HS.out
        rw [← hl0.out] at hst
        obtain ⟨s1, s2, s3, s4, s5⟩ := hst
        have HS5 := Lib.hid s5
        have ht1 := (tok_text htk).1
        clear htk s5 HS
        go_wp2_with fail
        refine HB.out.mono ?_
        rintro e w2 ⟨rfl, hb2⟩
        have hown2 := own_below hown hb2 (Nat.le_refl _)
        have hsz2 := hb2.size
        obtain ⟨i0, hi, hz0, hz1, hz2⟩ := info_parts info33
        clear hb1 hr0 HB
        go_wp2_with (at_builtin; refine wpList_append_own _ rfl _ _ 22 rfl w.heap.size 48 i0 _ 4 40 Tryd.underlying22 hi hz0 hz1 hz2 rfl (by decide) _ _ _ rfl ((hown2.alloc _).alloc _) ⟨w2.heap.size + 1, 0, none⟩ 1 1 [.int .i64 kd, .string ⟨t.toArray⟩, .int .i64 n, .int .i64 k] rfl rfl ?c1 ?c2 ?c3 ?c4 ?c5 ?_)
        case c1 => exact new_cells _ 48 [.int .i64 kd, .string ⟨t.toArray⟩, .int .i64 n, .int .i64 k] _ (by simp)
        case c2 => intro u hu; simp at hu; rcases hu with rfl | rfl | rfl | rfl <;> rfl
        case c3 => simp only [maxLen]; omega
        case c4 => omega
        case c5 => simp; omega
        intro v' w3 hown3 hg3 _
        have hL : Lies w3 w2.heap.size 48 #[.int .i64 kd, .string ⟨t.toArray⟩, .int .i64 n, .int .i64 k] :=
          ((Lies.new w2 48 _).old _).grown hg3 (fun e => by have := hown2.lt _ e.symm; omega)
        have hB3 : Below w.heap.size w w3 := ((((hbw.trans (hb2.mono hbs)).alloc (by omega) _).alloc (by simp; omega) _)).grown hg3 (by simp; omega) (fun q hq => (hown2.lt q hq).1)
        clear hi hz0 hz1 hz2 hg3 hown2
        obtain ⟨⟨_, c1, _, _⟩, _⟩ := hL.four
        go_wp2_with fail
        refine (span_blk_from s (k + t.length) _).mono ?_
        rintro e w4 ⟨rfl, hb4⟩
        go_wp2_with fail
        go_roundw
        case rel =>
          have hown4 := own_below hown3 hb4 (Nat.le_refl _)
          refine ⟨k + t.length + run blkR (s.data.toList.drop (k + t.length)), f, acc ++ [⟨kd, t, n, k⟩], s2, by go_num, s3, s4, ?_, hB3.trans (hb4.mono hB3.size), HS5⟩
          rw [cellsOf_snoc, List.length_append]
          exact hown4
        case measure => simp [intOf]; omega
    · go_wp2_with fail
      go_ret
      have hdr : s.data.toList.drop k = [] := List.drop_eq_nil_of_le (by rw [← hl0.out]; omega)
      have hE := HS.out
      rw [hdr, scan_end] at hE
      simp only [glue, List.append_nil] at hE
      refine ⟨fun ts h => ?_, fun p x h => ?_, hbw⟩
      · rw [hE] at h
        cases h
        exact ⟨_, rfl, hown⟩
      · rw [hE] at h; cases h
end Lx
end Go.Proofs.YtnljlocogfacfaaDoor
