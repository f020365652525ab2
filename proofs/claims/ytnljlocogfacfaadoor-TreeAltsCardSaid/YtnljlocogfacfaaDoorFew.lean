/-
  Walks of few and Small: is a tree small?
-/
import Derived.Test.YtnljlocogfacfaaDoorDepth
namespace Go.Proofs.YtnljlocogfacfaaDoor
open Go.RowKit
namespace Lx
set_option maxRecDepth 100000
set_option maxHeartbeats 1000000 in
theorem few_stop (k n a L D : Int) (s : ByteArray) (A : Option Addr) (m c : Nat) (w : World) (h : L < 1 ∨ D < 1) :
    Calls Tryd.prog 42 #[.agg #[.int .i64 k, .string s, .int .i64 n, .int .i64 a, .slice A m c], .int .i64 L, .int .i64 D] w fun e w' => e = .returned (.int .i64 (-1)) ∧ Below w.heap.size w w' := by
  have hb : Below w.heap.size w (w.alloc (.cells #[.int .i64 k, .string s, .int .i64 n, .int .i64 a, .slice A m c] 33)) := (Below.refl _ w).alloc (Nat.le_refl _) _
  by_cases h1 : L < 1
  · clear h
    go_enter Tryd.func42, Tryd.ntmps42
    go_wp2_with fail
    go_ret
    exact ⟨rfl, hb⟩
  · have h2 : D < 1 := h.resolve_left h1
    clear h
    go_enter Tryd.func42, Tryd.ntmps42
    go_wp2_with fail
    go_ret
    exact ⟨rfl, hb⟩

set_option maxHeartbeats 1000000 in
theorem few_any (d : Nat) : ∀ (t : Tr) (A : Option Addr) (c : Nat) (L D : Int) (w : World), depthT t ≤ d → TIn w Any t A → -1000 ≤ L → L ≤ 100000 → -1000 ≤ D → D ≤ 1000 →
    Calls Tryd.prog 42 #[tv t A c, .int .i64 L, .int .i64 D] w fun e w' => e = .returned (.int .i64 (fewT t L D)) ∧ Below w.heap.size w w' := by
  induction d with
  | zero => intro t A c _ _ w h; have := depth_pos t; omega
  | succ d ih =>
    intro t A c L D w hd hI hL1 hL2 hD1 hD2
    obtain ⟨k, s, n, a, l⟩ := t
    have hdL : depthL l ≤ d := by rw [depthT] at hd; omega
    have hlen : l.length ≤ 140737488351232 := by rw [TIn] at hI; exact hI.2.1
    have HI := Lib.hid hI
    clear hI hd
    show Calls Tryd.prog 42 #[.agg #[.int .i64 k, .string s, .int .i64 n, .int .i64 a, .slice A l.length c], .int .i64 L, .int .i64 D] w _
    by_cases hst : L < 1 ∨ D < 1
    · refine (few_stop k n a L D s A _ c w hst).mono ?_
      rintro e w' ⟨rfl, hb⟩
      exact ⟨ret_int (by rw [fewT, if_pos hst]), hb⟩
    · have hL3 : ¬ L < 1 := fun h => hst (.inl h)
      have hD3 : ¬ D < 1 := fun h => hst (.inr h)
      have HE : Hid (fewT (.node k s n a l) L D = fewL l (L - 1) (D - 1)) := by
        show _ = _
        rw [fewT, if_neg hst]
      clear hst
      obtain ⟨m, hm⟩ : ∃ m, m = l.length := ⟨_, rfl⟩
      rw [← hm] at hlen ⊢
      have hm1 : m ≤ l.length := by omega
      have hm2 : l.length ≤ m := by omega
      clear hm
      go_enter Tryd.func42, Tryd.ntmps42
      go_wp2_with fail
      go_loopw [1, 7] (fun v x wr => ∃ (i : Nat) (F : Int), i ≤ m ∧ x = .int .i64 i ∧ v = .int .i64 F ∧ 0 ≤ F ∧ F ≤ 100000 ∧ Hid (fewL l (L - 1) (D - 1) = fewL (l.drop i) F (D - 1)) ∧ Below (w.heap.size + 1) (w.alloc (.cells #[.int .i64 k, .string s, .int .i64 n, .int .i64 a, .slice A m c] 33)) wr) (fun _ x _ => m - (intOf x).toNat)
      case atStart => exact ⟨0, L - 1, by omega, rfl, rfl, by omega, by omega, by exact rfl, Below.refl _ _⟩
      case round =>
        obtain ⟨i, F, hi, rfl, rfl, hF1, hF2, HQ, hbx⟩ := hrel
        have hbw : Below w.heap.size w wr := below_ac (by simpa using hbx)
        have c4 := ((Lies.new w 33 #[.int .i64 k, .string s, .int .i64 n, .int .i64 a, .slice A m c]).below hbx (by omega)).cell 4
        have hbxs := hbx.size
        simp at c4 hbxs
        by_cases hlt : i < m
        · have hia : i < l.length := by omega
          obtain ⟨g, o, A', c', ⟨hA, _⟩, d0, d1, d2, d3, d4, hIn⟩ := TIn.part (TIn.below _ HI.out hbw (Nat.le_refl _)) i hia
          subst hA
          have hm3 := depthL_mem l (l[i]'hia) (List.getElem_mem hia)
          have HS : Hid (fewL (l.drop i) F (D - 1) = if fewT (l[i]'hia) F (D - 1) < 0 then -1 else fewL (l.drop (i + 1)) (fewT (l[i]'hia) F (D - 1)) (D - 1)) := by
            show _ = _
            rw [List.drop_eq_getElem_cons hia, fewL]
          have hfs := few_size (l[i]'hia) F (D - 1)
          simp only [Tr.parts] at d0 d1 d2 d3 d4 hIn
          obtain ⟨tr, hu⟩ : ∃ tr, tr = l[i]'hia := ⟨_, rfl⟩
          rw [← hu] at d0 d1 d2 d3 d4 hIn hm3 HS hfs
          clear hu
          obtain ⟨tk, ts, tn, ta, tl⟩ := tr
          simp only [Tr.kind, Tr.name, Tr.n, Tr.place] at d0 d1 d2 d3 d4
          obtain ⟨G, hG⟩ : ∃ G, G = fewT (.node tk ts tn ta tl) F (D - 1) := ⟨_, rfl⟩
          rw [← hG] at HS hfs
          have hih := ih (.node tk ts tn ta tl) A' c' F (D - 1) wr (by omega) hIn (by omega) (by omega) (by omega) (by omega)
          rw [← hG] at hih
          have HG := Lib.hid hG
          have HIH := Lib.hid hih
          have HFS := Lib.hid hfs
          clear hG hih hfs
          by_cases hneg : G < 0
          · go_wp2_with fail
            refine HIH.out.mono ?_
            rintro e w2 ⟨rfl, hb2⟩
            go_wp2_with fail
            go_ret
            refine ⟨ret_int ?_, hbw.trans (hb2.mono (by omega))⟩
            rw [HE.out, HQ.out, HS.out, if_pos hneg]
          · go_wp2_with fail
            refine HIH.out.mono ?_
            rintro e w2 ⟨rfl, hb2⟩
            go_wp2_with fail
            go_roundw
            case rel =>
              have h1 := HFS.out (by omega)
              refine ⟨i + 1, G, by omega, by go_num, rfl, by omega, by omega, ?_, hbx.trans (hb2.mono (by omega))⟩
              show _ = _
              rw [HQ.out, HS.out, if_neg (by omega)]
            case measure => simp [intOf]; omega
        · go_wp2_with fail
          go_ret
          obtain rfl : i = m := by omega
          refine ⟨ret_int ?_, hbw⟩
          rw [HE.out, HQ.out, List.drop_eq_nil_of_le (by omega), fewL]

theorem tsmall_any (t : Tr) (A : Option Addr) (c : Nat) (L : Int) (w : World) (hI : TIn w Any t A) (hL1 : 0 ≤ L) (hL2 : L ≤ 100000) :
    Calls Tryd.prog 20 #[tv t A c, .int .i64 L] w fun e w' => e = .returned (.bool (decide (0 ≤ fewT t L 200))) ∧ Below w.heap.size w w' := by
  obtain ⟨k, s, n, a, l⟩ := t
  have hF := few_any (depthT (.node k s n a l)) (.node k s n a l) A c L 200 (w.alloc (.cells #[.int .i64 k, .string s, .int .i64 n, .int .i64 a, .slice A l.length c] 33)) (Nat.le_refl _)
    (TIn.below _ hI ((Below.refl _ w).alloc (Nat.le_refl _) _) (Nat.le_refl _)) (by omega) hL2 (by omega) (by omega)
  have HF := Lib.hid hF
  clear hF hI
  show Calls Tryd.prog 20 #[.agg #[.int .i64 k, .string s, .int .i64 n, .int .i64 a, .slice A l.length c], .int .i64 L] w _
  go_enter Tryd.func20, Tryd.ntmps20
  go_wp2_with fail
  refine HF.out.mono ?_
  rintro e w2 ⟨rfl, hb2⟩
  go_wp2_with fail
  go_ret
  exact ⟨rfl, below_ac hb2⟩
end Lx
end Go.Proofs.YtnljlocogfacfaaDoor
