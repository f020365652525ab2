/-
  The law's vars.
-/
import Derived.Test.YtcefopaphaeejaaUsPc
namespace Go.Proofs.Ytcefopaphaeejaa
open Go Go.RowKit
namespace Lx
set_option maxRecDepth 100000
theorem varsEL_take (l : List Te) (i : Nat) (h : i < l.length) : varsEL (l.take (i + 1)) = varsEL (l.take i) + varsE (l[i]'h) := by
  rw [List.take_succ_eq_append_getElem h]
  generalize l.take i = r
  induction r with
  | nil => simp [varsEL]
  | cons t r ih => simp only [List.cons_append, varsEL, ih]; omega
set_option maxHeartbeats 4000000 in
theorem vars_any (d : Nat) : ∀ (t : Te) (A : Option Addr) (c : Nat) (w : World), depthE t ≤ d → sizeE t ≤ 1000000 → EIn w Any t A →
    Calls Try.prog 24 #[ev t A c] w fun e w' => e = .returned (.int .i64 (varsE t)) ∧ Below w.heap.size w w' := by
  induction d with
  | zero => intro t A c w h; have := depthE_pos t; omega
  | succ d ih =>
    intro t A c w hd hs hI
    obtain ⟨k, n, s, l⟩ := t
    have hdL : depthEL l ≤ d := by rw [depthE] at hd; omega
    have hsL : sizeEL l ≤ 1000000 := by rw [sizeE] at hs; omega
    have hlen := sizeEL_len l
    have HI := Lib.hid hI
    obtain ⟨q, hq⟩ : ∃ q : Int, q = if k = 1 then 1 else 0 := ⟨_, rfl⟩
    have HE : Hid (varsE (.node k n s l) = q + varsEL l) := by rw [varsE, hq]; exact rfl
    have hq1 : 0 ≤ q ∧ q ≤ 1 := by rw [hq]; split <;> omega
    clear hI hd hs
    show Calls Try.prog 24 #[.agg #[.int .i64 k, .int .i64 n, .string s, .slice A l.length (capF l.length c)]] w _
    generalize capF l.length c = c
    obtain ⟨m, hm⟩ : ∃ m, m = l.length := ⟨_, rfl⟩
    rw [← hm]
    have hm1 : m ≤ l.length := by omega
    have hm2 : l.length ≤ m := by omega
    clear hm
    have l0 := Lies.new w 24 #[.int .i64 k, .int .i64 n, .string s, .slice A m c]
    by_cases hk : k = 1
    · have hk1 : (k == 1) = true := by simp [hk]
      have hqv : q = 1 := by rw [hq, if_pos hk]
      clear hq hk
      subst hqv
      go_enter Try.func24, Try.ntmps24
      go_wp2_with fail
      go_loopw [3, 4] (fun v x wr => ∃ i : Nat, i ≤ m ∧ x = .int .i64 i ∧ v = .int .i64 ((1 : Int) + varsEL (l.take i)) ∧ Lies wr w.heap.size 24 #[.int .i64 k, .int .i64 n, .string s, .slice A m c] ∧ Below w.heap.size w wr) (fun _ x _ => m - (intOf x).toNat)
      case atStart => exact ⟨0, by omega, rfl, by simp [varsEL], l0, (Below.refl _ w).alloc (Nat.le_refl _) _⟩
      case round =>
        obtain ⟨i, hi, rfl, rfl, l2, hbw⟩ := hrel
        have c3 := l2.cell 3
        simp at c3
        have hbs := hbw.size
        by_cases hlt : i < m
        · have hia : i < l.length := by omega
          obtain ⟨g, o, A', c', ⟨hA, _⟩, d0, d1, d2, d3, hIn⟩ := EIn.part (EIn.below _ HI.out hbw (Nat.le_refl _)) i hia
          subst hA
          have hm3 := depthEL_mem l (l[i]'hia) (List.getElem_mem hia)
          have hm4 := sizeEL_take_add l i hia
          have HS : Hid ((1 : Int) + varsEL (l.take (i + 1)) = (1 : Int) + varsEL (l.take i) + varsE (l[i]'hia)) := Lib.hid (by rw [varsEL_take l i hia]; omega)
          have hv1 := varsEL_le (l.take i)
          have hv2 := varsE_le (l[i]'hia)
          simp only [Te.parts] at d0 d1 d2 d3 hIn
          obtain ⟨tr, hu⟩ : ∃ tr, tr = l[i]'hia := ⟨_, rfl⟩
          rw [← hu] at d0 d1 d2 d3 hIn hm3 hm4 HS hv2
          clear hu
          obtain ⟨tk, tn, ts, tl⟩ := tr
          simp only [Te.kind, Te.n, Te.name] at d0 d1 d2 d3
          obtain ⟨q1, hq1'⟩ : ∃ x, x = (1 : Int) + varsEL (l.take i) := ⟨_, rfl⟩
          obtain ⟨q2, hq2⟩ : ∃ x, x = varsE (.node tk tn ts tl) := ⟨_, rfl⟩
          have hq0 : 0 ≤ q1 ∧ q1 ≤ 1000001 := by omega
          rw [← hq1', ← hq2] at HS
          rw [← hq1']
          rw [← hq2] at hv2
          have HIH : Hid (Calls Try.prog 24 #[.agg #[.int .i64 tk, .int .i64 tn, .string ts, .slice A' tl.length (capF tl.length c')]] wr fun e w' => e = .returned (.int .i64 q2) ∧ Below wr.heap.size wr w') := Lib.hid (by rw [hq2]; exact ih (.node tk tn ts tl) A' c' wr (by omega) (by omega) hIn)
          have L2 := Lib.hid l2
          clear l2 hIn hq1' hq2 hv1
          go_wp2_with fail
          refine HIH.out.mono ?_
          rintro e w2 ⟨rfl, hb2⟩
          go_wp2_with fail
          go_roundw
          case rel => exact ⟨i + 1, by omega, by go_num, by rw [HS.out], L2.out.below hb2 L2.out.lt, hbw.trans (hb2.mono hbs)⟩
          case measure => simp [intOf]; omega
        · go_wp2_with fail
          go_ret
          have hi9 : i = l.length := by omega
          refine ⟨?_, hbw⟩
          rw [hi9, List.take_length, HE.out]
          exact rfl
    · have hk1 : (k == 1) = false := by simp [hk]
      have hqv : q = 0 := by rw [hq, if_neg hk]
      clear hq hk
      subst hqv
      go_enter Try.func24, Try.ntmps24
      go_wp2_with fail
      go_loopw [3, 4] (fun v x wr => ∃ i : Nat, i ≤ m ∧ x = .int .i64 i ∧ v = .int .i64 ((0 : Int) + varsEL (l.take i)) ∧ Lies wr w.heap.size 24 #[.int .i64 k, .int .i64 n, .string s, .slice A m c] ∧ Below w.heap.size w wr) (fun _ x _ => m - (intOf x).toNat)
      case atStart => exact ⟨0, by omega, rfl, by simp [varsEL], l0, (Below.refl _ w).alloc (Nat.le_refl _) _⟩
      case round =>
        obtain ⟨i, hi, rfl, rfl, l2, hbw⟩ := hrel
        have c3 := l2.cell 3
        simp at c3
        have hbs := hbw.size
        by_cases hlt : i < m
        · have hia : i < l.length := by omega
          obtain ⟨g, o, A', c', ⟨hA, _⟩, d0, d1, d2, d3, hIn⟩ := EIn.part (EIn.below _ HI.out hbw (Nat.le_refl _)) i hia
          subst hA
          have hm3 := depthEL_mem l (l[i]'hia) (List.getElem_mem hia)
          have hm4 := sizeEL_take_add l i hia
          have HS : Hid ((0 : Int) + varsEL (l.take (i + 1)) = (0 : Int) + varsEL (l.take i) + varsE (l[i]'hia)) := Lib.hid (by rw [varsEL_take l i hia]; omega)
          have hv1 := varsEL_le (l.take i)
          have hv2 := varsE_le (l[i]'hia)
          simp only [Te.parts] at d0 d1 d2 d3 hIn
          obtain ⟨tr, hu⟩ : ∃ tr, tr = l[i]'hia := ⟨_, rfl⟩
          rw [← hu] at d0 d1 d2 d3 hIn hm3 hm4 HS hv2
          clear hu
          obtain ⟨tk, tn, ts, tl⟩ := tr
          simp only [Te.kind, Te.n, Te.name] at d0 d1 d2 d3
          obtain ⟨q1, hq1'⟩ : ∃ x, x = (0 : Int) + varsEL (l.take i) := ⟨_, rfl⟩
          obtain ⟨q2, hq2⟩ : ∃ x, x = varsE (.node tk tn ts tl) := ⟨_, rfl⟩
          have hq0 : 0 ≤ q1 ∧ q1 ≤ 1000001 := by omega
          rw [← hq1', ← hq2] at HS
          rw [← hq1']
          rw [← hq2] at hv2
          have HIH : Hid (Calls Try.prog 24 #[.agg #[.int .i64 tk, .int .i64 tn, .string ts, .slice A' tl.length (capF tl.length c')]] wr fun e w' => e = .returned (.int .i64 q2) ∧ Below wr.heap.size wr w') := Lib.hid (by rw [hq2]; exact ih (.node tk tn ts tl) A' c' wr (by omega) (by omega) hIn)
          have L2 := Lib.hid l2
          clear l2 hIn hq1' hq2 hv1
          go_wp2_with fail
          refine HIH.out.mono ?_
          rintro e w2 ⟨rfl, hb2⟩
          go_wp2_with fail
          go_roundw
          case rel => exact ⟨i + 1, by omega, by go_num, by rw [HS.out], L2.out.below hb2 L2.out.lt, hbw.trans (hb2.mono hbs)⟩
          case measure => simp [intOf]; omega
        · go_wp2_with fail
          go_ret
          have hi9 : i = l.length := by omega
          refine ⟨?_, hbw⟩
          rw [hi9, List.take_length, HE.out]
          exact rfl
end Lx
end Go.Proofs.Ytcefopaphaeejaa
