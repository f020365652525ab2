/-
  Texts that lie one behind the other: RSame.
-/
import Derived.Test.YteabbkhlgnoliaaGreatDoorK8
import Derived.StillTailTactics
namespace Go.Proofs.YteabbkhlgnoliaaGreatDoor
open Go.RowKit
namespace Lx
set_option maxRecDepth 100000
set_option maxHeartbeats 1000000 in
theorem rsame_far (k k' n n' a a' : Int) (s s' : ByteArray) (A A' : Option Addr) (m m' c c' : Nat) (w : World) (h : k ≠ k' ∨ s ≠ s' ∨ n ≠ n' ∨ m ≠ m') :
    Calls Tryz.prog 15 #[.agg #[.int .i64 k, .string s, .int .i64 n, .int .i64 a, .slice A m c], .agg #[.int .i64 k', .string s', .int .i64 n', .int .i64 a', .slice A' m' c']] w fun e w' => e = .returned (.bool false) ∧ Below w.heap.size w w' := by
  have hb : Below w.heap.size w ((w.alloc (.cells #[.int .i64 k, .string s, .int .i64 n, .int .i64 a, .slice A m c] 24)).alloc (.cells #[.int .i64 k', .string s', .int .i64 n', .int .i64 a', .slice A' m' c'] 24)) :=
    ((Below.refl _ w).alloc (Nat.le_refl _) _).alloc (by simp) _
  by_cases hk : k = k'
  · by_cases hs : s = s'
    · by_cases hn : n = n'
      · have hm0 : m ≠ m' := by
          rcases h with h | h | h | h
          · exact absurd hk h
          · exact absurd hs h
          · exact absurd hn h
          · exact h
        have hm : ((m : Int) != (m' : Int)) = true := by simp; omega
        clear hm0
        subst hk hs hn
        clear h
        go_enter Tryz.func15, Tryz.ntmps15
        go_wp2_with fail
        go_ret
        exact ⟨rfl, hb⟩
      · subst hk hs
        clear h
        go_enter Tryz.func15, Tryz.ntmps15
        go_wp2_with fail
        go_ret
        exact ⟨rfl, hb⟩
    · have hs' := str_ne hs
      subst hk
      clear h hs
      go_enter Tryz.func15, Tryz.ntmps15
      go_wp2_with fail
      go_ret
      exact ⟨rfl, hb⟩
  · clear h
    go_enter Tryz.func15, Tryz.ntmps15
    go_wp2_with fail
    go_ret
    exact ⟨rfl, hb⟩

set_option maxHeartbeats 1000000 in
theorem rsame_tree (d : Nat) : ∀ (t t' : Tr) (A A' : Option Addr) (c c' : Nat) (w : World), depthT t ≤ d → TIn w Any t A → TIn w Any t' A' →
    Calls Tryz.prog 15 #[tv t A c, tv t' A' c'] w fun e w' => e = .returned (.bool (sameT t t')) ∧ Below w.heap.size w w' := by
  induction d with
  | zero => intro t _ A _ c _ w h; have := depth_pos t; omega
  | succ d ih =>
    intro t t' A A' c c' w hd hI hI'
    obtain ⟨k, s, n, a, l⟩ := t
    obtain ⟨k', s', n', a', l'⟩ := t'
    have hdL : depthL l ≤ d := by rw [depthT] at hd; omega
    have hlen : l.length ≤ 140737488351232 := by rw [TIn] at hI; exact hI.2.1
    have HI := Lib.hid hI
    have HI' := Lib.hid hI'
    clear hI hI' hd
    show Calls Tryz.prog 15 #[.agg #[.int .i64 k, .string s, .int .i64 n, .int .i64 a, .slice A l.length (capF l.length c)], .agg #[.int .i64 k', .string s', .int .i64 n', .int .i64 a', .slice A' l'.length (capF l'.length c')]] w _
    generalize capF l.length c = c
    generalize capF l'.length c' = c'
    by_cases hne : k ≠ k' ∨ s ≠ s' ∨ n ≠ n' ∨ l.length ≠ l'.length
    · refine (rsame_far k k' n n' a a' s s' A A' _ _ c c' w hne).mono ?_
      rintro e w' ⟨rfl, hb⟩
      refine ⟨ret_bool ?_, hb⟩
      rw [sameT]
      by_cases hk : k = k'
      · by_cases hs : s = s'
        · by_cases hn : n = n'
          · have hl : l.length ≠ l'.length := by
              rcases hne with h | h | h | h
              · exact absurd hk h
              · exact absurd hs h
              · exact absurd hn h
              · exact h
            have := sameL_len l l'
            cases hq : sameL l l'
            · simp
            · exact absurd (this hq) hl
          · simp [hn]
        · simp [hs]
      · simp [hk]
    · have hk : k = k' := Classical.byContradiction fun h => hne (.inl h)
      have hs : s = s' := Classical.byContradiction fun h => hne (.inr (.inl h))
      have hn : n = n' := Classical.byContradiction fun h => hne (.inr (.inr (.inl h)))
      have hl : l.length = l'.length := Classical.byContradiction fun h => hne (.inr (.inr (.inr h)))
      clear hne
      subst hk hs hn
      have HE : Hid (sameT (.node k s n a l) (.node k s n a' l') = sameL l l') := by
        show _ = _
        rw [sameT]; simp
      rw [← hl]
      obtain ⟨m, hm⟩ : ∃ m, m = l.length := ⟨_, rfl⟩
      rw [← hm] at hlen ⊢
      have hm1 : m ≤ l.length := by omega
      have hm2 : l.length ≤ m := by omega
      have hm3 : m ≤ l'.length := by omega
      have hm4 : l'.length ≤ m := by omega
      clear hm hl
      go_enter Tryz.func15, Tryz.ntmps15
      go_wp2_with fail
      go_loopw [5] (fun x wr => ∃ i : Nat, i ≤ m ∧ x = .int .i64 i ∧ Hid (sameL l l' = sameL (l.drop i) (l'.drop i)) ∧ Below (w.heap.size + 2) ((w.alloc (.cells #[.int .i64 k, .string s, .int .i64 n, .int .i64 a, .slice A m c] 24)).alloc (.cells #[.int .i64 k, .string s, .int .i64 n, .int .i64 a', .slice A' m c'] 24)) wr) (fun x _ => m - (intOf x).toNat)
      case atStart => exact ⟨0, by omega, rfl, by exact rfl, Below.refl _ _⟩
      case round =>
        obtain ⟨i, hi, rfl, HQ, hbx⟩ := hrel
        have hbxs := hbx.size
        simp at hbxs
        have hbw : Below w.heap.size w wr := ((((Below.refl _ w).alloc (Nat.le_refl _) _).alloc (by simp) _).trans (hbx.mono (by omega)))
        have c4 := ((Lies.new (w.alloc (.cells #[.int .i64 k, .string s, .int .i64 n, .int .i64 a, .slice A m c] 24)) 24 #[.int .i64 k, .string s, .int .i64 n, .int .i64 a', .slice A' m c']).below hbx (by simp)).cell 4
        simp at c4
        have e4 := (((Lies.new w 24 #[.int .i64 k, .string s, .int .i64 n, .int .i64 a, .slice A m c]).old (.cells #[.int .i64 k, .string s, .int .i64 n, .int .i64 a', .slice A' m c'] 24)).below hbx (by omega)).cell 4
        simp at e4
        by_cases hlt : i < m
        · have hia : i < l.length := by omega
          have hib : i < l'.length := by omega
          obtain ⟨g, o, B, b, ⟨hA, _⟩, d0, d1, d2, d3, d4, hIn⟩ := TIn.part (TIn.below _ HI.out hbw (Nat.le_refl _)) i hia
          obtain ⟨g', o', B', b', ⟨hA', _⟩, f0, f1, f2, f3, f4, hIn'⟩ := TIn.part (TIn.below _ HI'.out hbw (Nat.le_refl _)) i hib
          subst hA hA'
          have hm5 := depthL_mem l (l[i]'hia) (List.getElem_mem hia)
          have HS : Hid (sameL (l.drop i) (l'.drop i) = (sameT (l[i]'hia) (l'[i]'hib) && sameL (l.drop (i + 1)) (l'.drop (i + 1)))) := by
            show _ = _
            rw [List.drop_eq_getElem_cons hia, List.drop_eq_getElem_cons hib, sameL]
          simp only [Tr.parts] at d0 d1 d2 d3 d4 hIn f0 f1 f2 f3 f4 hIn'
          obtain ⟨tr, hu⟩ : ∃ tr, tr = l[i]'hia := ⟨_, rfl⟩
          obtain ⟨tr', hu'⟩ : ∃ tr, tr = l'[i]'hib := ⟨_, rfl⟩
          rw [← hu] at d0 d1 d2 d3 d4 hIn hm5 HS
          rw [← hu'] at f0 f1 f2 f3 f4 hIn' HS
          clear hu hu'
          obtain ⟨tk, ts, tn, ta, tl⟩ := tr
          obtain ⟨tk', ts', tn', ta', tl'⟩ := tr'
          simp only [Tr.kind, Tr.name, Tr.n, Tr.place] at d0 d1 d2 d3 d4 f0 f1 f2 f3 f4
          go_wp2_with fail
          go_still_tail 10, (by kernel_rfl)
          change wpList _ _ _ _ _ wr.drew
          go_wp2_with fail
          refine (ih (.node tk ts tn ta tl) (.node tk' ts' tn' ta' tl') _ _ _ _ _ (by omega) (TIn.below _ hIn ((Below.refl _ wr).drew) (Nat.le_refl _)) (TIn.below _ hIn' ((Below.refl _ wr).drew) (Nat.le_refl _))).mono ?_
          rintro e w2 ⟨rfl, hb2⟩
          have hb3 := hbx.drew.trans (hb2.mono (by simp; omega))
          cases hq : sameT (.node tk ts tn ta tl) (.node tk' ts' tn' ta' tl')
          · have HQ2 := Lib.hid hq
            clear hq
            go_wp2_with fail
            go_ret
            refine ⟨ret_bool ?_, (((Below.refl _ w).alloc (Nat.le_refl _) _).alloc (by simp) _).trans (hb3.mono (by omega))⟩
            rw [HE.out, HQ.out, HS.out, HQ2.out, Bool.false_and]
          · have HQ2 := Lib.hid hq
            clear hq
            go_wp2_with fail
            go_roundw
            case rel =>
              refine ⟨i + 1, by omega, by go_num, ?_, hb3⟩
              show _ = _
              rw [HQ.out, HS.out, HQ2.out, Bool.true_and]
            case measure => simp [intOf]; omega
        · go_wp2_with fail
          go_ret
          obtain rfl : i = m := by omega
          refine ⟨ret_bool ?_, hbw⟩
          rw [HE.out, HQ.out, List.drop_eq_nil_of_le (by omega), List.drop_eq_nil_of_le (by omega), sameL]
end Lx
end Go.Proofs.YteabbkhlgnoliaaGreatDoor
