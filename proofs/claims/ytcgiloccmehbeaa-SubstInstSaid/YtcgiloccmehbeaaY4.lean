/-
  Texts that lie one behind the other: SuR6 SuTx.
-/
import Derived.Test.YtcgiloccmehbeaaY3
import Derived.Laws.IdiomStrings
import Derived.Deep.Cut
namespace Go.Proofs.Ytcgiloccmehbeaa
open Go.RowKit
namespace Lx
set_option maxRecDepth 100000
theorem sameFL_len : ∀ l l' : List Te, l.length ≠ l'.length → sameEL l l' = false := fun l l' h => by
  cases hq : sameEL l l'
  · rfl
  · exact absurd (sameEL_len l l' hq) h
theorem strE_ne {s t : ByteArray} (h : s ≠ t) : ¬ s.toList = t.toList := by
  intro e
  rw [data_list, data_list] at e
  apply h
  obtain ⟨⟨a⟩⟩ := s
  obtain ⟨⟨b⟩⟩ := t
  simp at e
  rw [e]
set_option maxHeartbeats 2000000 in
theorem rsize6_any (d : Nat) : ∀ (t : Te) (A : Option Addr) (c : Nat) (w : World), depthE t ≤ d → sizeE t ≤ 1000000000000 → EIn w Any t A →
    Calls Try.prog 22 #[ev t A c] w fun e w' => e = .returned (.int .i64 (sizeE t)) ∧ Below w.heap.size w w' := by
  induction d with
  | zero => intro t A c w h; have := depthE_pos t; omega
  | succ d ih =>
    intro t A c w hd hs hI
    obtain ⟨k, n, s, l⟩ := t
    have hdL : depthEL l ≤ d := by rw [depthE] at hd; omega
    have hsL : sizeEL l + 1 ≤ 1000000000000 := by rw [sizeE] at hs; omega
    have hlen := sizeEL_len l
    have HI := Lib.hid hI
    have HE : Hid (sizeE (.node k n s l) = sizeEL l + 1) := by rw [sizeE]; exact rfl
    clear hI hd hs
    show Calls Try.prog 22 #[.agg #[.int .i64 k, .int .i64 n, .string s, .slice A l.length (capF l.length c)]] w _
    generalize capF l.length c = c
    obtain ⟨m, hm⟩ : ∃ m, m = l.length := ⟨_, rfl⟩
    rw [← hm]
    have hm1 : m ≤ l.length := by omega
    have hm2 : l.length ≤ m := by omega
    clear hm
    have l0 := Lies.new w 24 #[.int .i64 k, .int .i64 n, .string s, .slice A m c]
    have hb0 : Below w.heap.size w (w.alloc (.cells #[.int .i64 k, .int .i64 n, .string s, .slice A m c] 24)) := (Below.refl _ w).alloc (Nat.le_refl _) _
    go_enter Try.func22, Try.ntmps22
    go_wp2_with fail
    go_loopw [3, 4] (fun v x wr => ∃ i : Nat, i ≤ m ∧ x = .int .i64 i ∧ v = .int .i64 (sizeEL (l.take i) + 1) ∧ Lies wr w.heap.size 24 #[.int .i64 k, .int .i64 n, .string s, .slice A m c] ∧ Below w.heap.size w wr) (fun _ x _ => m - (intOf x).toNat)
    case atStart => exact ⟨0, by omega, rfl, by simp [sizeEL], l0, hb0⟩
    case round =>
      obtain ⟨i, hi, rfl, rfl, l2, hbw⟩ := hrel
      have hbs := hbw.size
      have c3 := l2.cell 3
      simp at c3
      have hdt := sizeEL_take l i
      have hdt2 := sizeEL_take l (i + 1)
      by_cases hlt : i < m
      · have hia : i < l.length := by omega
        obtain ⟨g, o, A', c', ⟨hA, _⟩, d0, d1, d2, d3, hIn⟩ := EIn.part (EIn.below _ HI.out hbw (Nat.le_refl _)) i hia
        subst hA
        have hm3 := depthEL_mem l (l[i]'hia) (List.getElem_mem hia)
        have hm4 := sizeEL_mem l (l[i]'hia) (List.getElem_mem hia)
        have HS : Hid (sizeEL (l.take (i + 1)) = sizeEL (l.take i) + sizeE (l[i]'hia)) := by
          rw [List.take_succ_eq_append_getElem hia]; exact sizeEL_snoc _ _
        have hq := HS.out
        rw [hq] at hdt2
        simp only [Te.parts] at d0 d1 d2 d3 hIn
        obtain ⟨tr, hu⟩ : ∃ tr, tr = l[i]'hia := ⟨_, rfl⟩
        rw [← hu] at d0 d1 d2 d3 hIn hm3 hm4 HS hdt2
        clear hu hq
        obtain ⟨tk, tn, ts, tl⟩ := tr
        simp only [Te.kind, Te.n, Te.name] at d0 d1 d2 d3
        have HIH := Lib.hid (ih (.node tk tn ts tl) A' c' wr (by omega) (by omega) hIn)
        have L2 := Lib.hid l2
        clear l2 hIn
        go_wp2_with fail
        refine HIH.out.mono ?_
        rintro e w2 ⟨rfl, hb2⟩
        go_wp2_with fail
        go_roundw
        case rel => exact ⟨i + 1, by omega, by go_num, by rw [HS.out]; exact congrArg (Value.int .i64) (by omega), L2.out.below hb2 L2.out.lt, hbw.trans (hb2.mono hbs)⟩
        case measure => simp [intOf]; omega
      · go_wp2_with fail
        go_ret
        obtain rfl : i = m := by omega
        refine ⟨?_, hbw⟩
        rw [List.take_of_length_le (by omega)]
        rw [HE.out]
        exact ret_int (by omega)
set_option maxHeartbeats 4000000 in
theorem rsame6_any (d : Nat) : ∀ (t t' : Te) (A A' : Option Addr) (c c' : Nat) (w : World), depthE t ≤ d → EIn w Any t A → EIn w Any t' A' →
    Calls Try.prog 12 #[ev t A c, ev t' A' c'] w fun e w' => e = .returned (.bool (sameE t t')) ∧ Below w.heap.size w w' := by
  induction d with
  | zero => intro t _ A _ c _ w h; have := depthE_pos t; omega
  | succ d ih =>
    intro t t' A A' c c' w hd hI hI'
    obtain ⟨k, n, s, l⟩ := t
    obtain ⟨k', n', s', l'⟩ := t'
    have hdL : depthEL l ≤ d := by rw [depthE] at hd; omega
    have hml : l.length ≤ 140737488351232 := by rw [EIn] at hI; exact hI.2.1
    have hml' : l'.length ≤ 140737488351232 := by rw [EIn] at hI'; exact hI'.2.1
    show Calls Try.prog 12 #[.agg #[.int .i64 k, .int .i64 n, .string s, .slice A l.length (capF l.length c)], .agg #[.int .i64 k', .int .i64 n', .string s', .slice A' l'.length (capF l'.length c')]] w _
    generalize capF l.length c = c
    generalize capF l'.length c' = c'
    have HE : Hid (sameE (.node k n s l) (.node k' n' s' l') = (decide (k = k') && (decide (n = n') && (decide (s = s') && sameEL l l')))) := by
      show _ = _
      rw [sameE]
    have HB : Hid (∀ o o' : Obj, Below w.heap.size w ((w.alloc o).alloc o')) := Lib.hid fun o o' => below2_new o o'
    obtain ⟨U, hU⟩ : ∃ U, U = sameE (.node k n s l) (.node k' n' s' l') := ⟨_, rfl⟩
    rw [← hU] at HE ⊢
    clear hU
    have HI := Lib.hid hI
    have HI' := Lib.hid hI'
    clear hI hI' hd
    obtain ⟨m, hm⟩ : ∃ m, m = l.length := ⟨_, rfl⟩
    obtain ⟨m', hm'⟩ : ∃ m, m = l'.length := ⟨_, rfl⟩
    rw [← hm] at hml ⊢
    rw [← hm'] at hml' ⊢
    have hm1 : m ≤ l.length := by omega
    have hm2 : l.length ≤ m := by omega
    have hm3 : m' ≤ l'.length := by omega
    have hm4 : l'.length ≤ m' := by omega
    clear hm hm'
    by_cases hk : k = k'
    · by_cases hs : s = s'
      · by_cases hn : n = n'
        · by_cases hmm : m = m'
          · subst hk hn hs hmm
            simp only [decide_true, Bool.true_and] at HE
            have l20 : Lies ((w.alloc (.cells #[.int .i64 k, .int .i64 n, .string s, .slice A m c] 24)).alloc (.cells #[.int .i64 k, .int .i64 n, .string s, .slice A' m c'] 24)) w.heap.size 24 #[.int .i64 k, .int .i64 n, .string s, .slice A m c] := (Lies.new w _ _).old _
            have l30 : Lies ((w.alloc (.cells #[.int .i64 k, .int .i64 n, .string s, .slice A m c] 24)).alloc (.cells #[.int .i64 k, .int .i64 n, .string s, .slice A' m c'] 24)) (w.heap.size + 1) 24 #[.int .i64 k, .int .i64 n, .string s, .slice A' m c'] := lies_next _ _ _ _ (by simp)
            have hb0 := HB.out (.cells #[.int .i64 k, .int .i64 n, .string s, .slice A m c] 24) (.cells #[.int .i64 k, .int .i64 n, .string s, .slice A' m c'] 24)
            go_enter Try.func12, Try.ntmps12
            go_wp2_with fail
            go_loopw [5] (fun x wr => ∃ i : Nat, i ≤ m ∧ x = .int .i64 i ∧ Hid (sameEL l l' = sameEL (l.drop i) (l'.drop i)) ∧ Lies wr w.heap.size 24 #[.int .i64 k, .int .i64 n, .string s, .slice A m c] ∧ Lies wr (w.heap.size + 1) 24 #[.int .i64 k, .int .i64 n, .string s, .slice A' m c'] ∧ Below w.heap.size w wr) (fun x _ => m - (intOf x).toNat)
            case atStart => exact ⟨0, by omega, rfl, by exact rfl, l20, l30, hb0⟩
            case round =>
              obtain ⟨i, hi, rfl, HQ, l2, l3, hbw⟩ := hrel
              have hbs := hbw.size
              have c3 := l2.cell 3
              simp at c3
              have c3' := l3.cell 3
              simp at c3'
              by_cases hlt : i < m
              · have hia : i < l.length := by omega
                have hib : i < l'.length := by omega
                obtain ⟨g, o, B, b, ⟨hA, _⟩, d0, d1, d2, d3, hIn⟩ := EIn.part (EIn.below _ HI.out hbw (Nat.le_refl _)) i hia
                obtain ⟨g', o', B', b', ⟨hA', _⟩, f0, f1, f2, f3, hIn'⟩ := EIn.part (EIn.below _ HI'.out hbw (Nat.le_refl _)) i hib
                subst hA hA'
                simp only [Te.parts] at d0 d1 d2 d3 hIn f0 f1 f2 f3 hIn'
                have hm5 := depthEL_mem l (l[i]'hia) (List.getElem_mem hia)
                have HS : Hid (sameEL (l.drop i) (l'.drop i) = (sameE (l[i]'hia) (l'[i]'hib) && sameEL (l.drop (i + 1)) (l'.drop (i + 1)))) := by
                  show _ = _
                  rw [List.drop_eq_getElem_cons hia, List.drop_eq_getElem_cons hib, sameEL]
                obtain ⟨tr, hu⟩ : ∃ tr, tr = l[i]'hia := ⟨_, rfl⟩
                obtain ⟨tr', hu'⟩ : ∃ tr, tr = l'[i]'hib := ⟨_, rfl⟩
                rw [← hu] at d0 d1 d2 d3 hIn HS hm5
                rw [← hu'] at f0 f1 f2 f3 hIn' HS
                clear hu hu'
                obtain ⟨tk, tn, ts, tl⟩ := tr
                obtain ⟨tk', tn', ts', tl'⟩ := tr'
                simp only [Te.kind, Te.n, Te.name] at d0 d1 d2 d3 f0 f1 f2 f3
                have HC : Hid (∀ X, Below wr.heap.size wr X → Calls Try.prog 12 #[.agg #[.int .i64 tk, .int .i64 tn, .string ts, .slice B tl.length (capF tl.length b)], .agg #[.int .i64 tk', .int .i64 tn', .string ts', .slice B' tl'.length (capF tl'.length b')]] X fun e w' => e = .returned (.bool (sameE (.node tk tn ts tl) (.node tk' tn' ts' tl'))) ∧ Below X.heap.size X w') := Lib.hid fun X hX =>
                  ih (.node tk tn ts tl) (.node tk' tn' ts' tl') B B' b b' X (by omega) (EIn.below _ hIn hX (Nat.le_refl _)) (EIn.below _ hIn' hX (Nat.le_refl _))
                have hgl := cell_lt d0
                have hgl' := cell_lt f0
                have HSS : Hid (∀ V', Below wr.heap.size wr V' → (fun V' : World => (V'.cell? ⟨w.heap.size, 3, none⟩ = some (.slice (some ⟨g, o, none⟩) m c) ∧ V'.cell? ⟨w.heap.size + 1, 3, none⟩ = some (.slice (some ⟨g', o', none⟩) m c') ∧ V'.cell? ⟨g, o + i * 4, none⟩ = some (.int .i64 tk) ∧ V'.cell? ⟨g, o + i * 4 + 1, none⟩ = some (.int .i64 tn) ∧ V'.cell? ⟨g, o + i * 4 + 2, none⟩ = some (.string ts) ∧ V'.cell? ⟨g, o + i * 4 + 3, none⟩ = some (.slice B tl.length (capF tl.length b)) ∧ V'.cell? ⟨g', o' + i * 4, none⟩ = some (.int .i64 tk') ∧ V'.cell? ⟨g', o' + i * 4 + 1, none⟩ = some (.int .i64 tn') ∧ V'.cell? ⟨g', o' + i * 4 + 2, none⟩ = some (.string ts') ∧ V'.cell? ⟨g', o' + i * 4 + 3, none⟩ = some (.slice B' tl'.length (capF tl'.length b')))) V') := Lib.hid fun V' h =>
                  ⟨(h.cell (p := ⟨w.heap.size, 3, none⟩) l2.lt).trans c3, (h.cell (p := ⟨w.heap.size + 1, 3, none⟩) l3.lt).trans c3', (h.cell (p := ⟨g, _, none⟩) hgl).trans d0, (h.cell (p := ⟨g, _, none⟩) hgl).trans d1, (h.cell (p := ⟨g, _, none⟩) hgl).trans d2, (h.cell (p := ⟨g, _, none⟩) hgl).trans d3, (h.cell (p := ⟨g', _, none⟩) hgl').trans f0, (h.cell (p := ⟨g', _, none⟩) hgl').trans f1, (h.cell (p := ⟨g', _, none⟩) hgl').trans f2, (h.cell (p := ⟨g', _, none⟩) hgl').trans f3⟩
                have L2 := Lib.hid l2
                have L3 := Lib.hid l3
                clear l2 l3 hIn hIn' l20 l30 hb0
                cases hq : sameE (.node tk tn ts tl) (.node tk' tn' ts' tl')
                · rw [hq] at HC HS
                  clear hq
                  go_upto_region 6 with fail
                  clear c3 c3' d0 d1 d2 d3 f0 f1 f2 f3
                  have hb_1 : Below wr.heap.size wr wr := Below.refl _ _
                  refine wp_region_held_drew (S := (fun V' : World => (V'.cell? ⟨w.heap.size, 3, none⟩ = some (.slice (some ⟨g, o, none⟩) m c) ∧ V'.cell? ⟨w.heap.size + 1, 3, none⟩ = some (.slice (some ⟨g', o', none⟩) m c') ∧ V'.cell? ⟨g, o + i * 4, none⟩ = some (.int .i64 tk) ∧ V'.cell? ⟨g, o + i * 4 + 1, none⟩ = some (.int .i64 tn) ∧ V'.cell? ⟨g, o + i * 4 + 2, none⟩ = some (.string ts) ∧ V'.cell? ⟨g, o + i * 4 + 3, none⟩ = some (.slice B tl.length (capF tl.length b)) ∧ V'.cell? ⟨g', o' + i * 4, none⟩ = some (.int .i64 tk') ∧ V'.cell? ⟨g', o' + i * 4 + 1, none⟩ = some (.int .i64 tn') ∧ V'.cell? ⟨g', o' + i * 4 + 2, none⟩ = some (.string ts') ∧ V'.cell? ⟨g', o' + i * 4 + 3, none⟩ = some (.slice B' tl'.length (capF tl'.length b'))))) rfl (HSS.out _ hb_1.drew) (fun hSs => ?_)
                  change wpAnyH _ _ _ _ _ 12 (Array.replicate 12 false) _ _
                  refine wpAnyH_take (i := 0) (oi := ⟨some 41, _, _, _, _, _⟩) (v := .pointer (some ⟨w.heap.size, 3, none⟩)) rfl (by kernel_rfl) (by kernel_rfl) (by kernel_rfl) (fun _ _ _ h => h) (.inl ⟨by kernel_rfl, fun W hW => by first | (obtain ⟨z0, z1, z2, z3, z4, z5, z6, z7, z8, z9⟩ := hW; go_simp; done) | (obtain ⟨z0, z1, z2, z3, z4, z5, z6, z7, z8, z9⟩ := hW; go_simp; omega) | (obtain ⟨z0, z1, z2, z3, z4, z5, z6, z7, z8, z9⟩ := hW; go_simp; exact IntWalk.i64_in _ (by omega)) | (obtain ⟨z0, z1, z2, z3, z4, z5, z6, z7, z8, z9⟩ := hW; go_simp; simp [*]; done)⟩) hSs ?_
                  try simp only [Act.put, List.setIfInBounds_toArray, List.set_cons_zero, List.set_cons_succ]
                  refine wpAnyH_take (i := 1) (oi := ⟨some 42, _, _, _, _, _⟩) (v := .slice (some ⟨g, o, none⟩) m c) rfl (by kernel_rfl) (by kernel_rfl) (by kernel_rfl) (fun _ _ _ h => h) (.inl ⟨by kernel_rfl, fun W hW => by first | (obtain ⟨z0, z1, z2, z3, z4, z5, z6, z7, z8, z9⟩ := hW; go_simp; done) | (obtain ⟨z0, z1, z2, z3, z4, z5, z6, z7, z8, z9⟩ := hW; go_simp; omega) | (obtain ⟨z0, z1, z2, z3, z4, z5, z6, z7, z8, z9⟩ := hW; go_simp; exact IntWalk.i64_in _ (by omega)) | (obtain ⟨z0, z1, z2, z3, z4, z5, z6, z7, z8, z9⟩ := hW; go_simp; simp [*]; done)⟩) hSs ?_
                  try simp only [Act.put, List.setIfInBounds_toArray, List.set_cons_zero, List.set_cons_succ]
                  refine wpAnyH_take (i := 2) (oi := ⟨some 43, _, _, _, _, _⟩) (v := .int .i64 (i : Int)) rfl (by kernel_rfl) (by kernel_rfl) (by kernel_rfl) (fun _ _ _ h => h) (.inl ⟨by kernel_rfl, fun W hW => by kernel_rfl⟩) hSs ?_
                  try simp only [Act.put, List.setIfInBounds_toArray, List.set_cons_zero, List.set_cons_succ]
                  refine wpAnyH_take (i := 3) (oi := ⟨some 44, _, _, _, _, _⟩) (v := .pointer (some ⟨g, o + i * 4, none⟩)) rfl (by kernel_rfl) (by kernel_rfl) (by kernel_rfl) (fun _ _ _ h => h) (.inl ⟨by kernel_rfl, fun W hW => by first | (obtain ⟨z0, z1, z2, z3, z4, z5, z6, z7, z8, z9⟩ := hW; go_simp; done) | (obtain ⟨z0, z1, z2, z3, z4, z5, z6, z7, z8, z9⟩ := hW; go_simp; omega) | (obtain ⟨z0, z1, z2, z3, z4, z5, z6, z7, z8, z9⟩ := hW; go_simp; exact IntWalk.i64_in _ (by omega)) | (obtain ⟨z0, z1, z2, z3, z4, z5, z6, z7, z8, z9⟩ := hW; go_simp; simp [*]; done)⟩) hSs ?_
                  try simp only [Act.put, List.setIfInBounds_toArray, List.set_cons_zero, List.set_cons_succ]
                  refine wpAnyH_take (i := 4) (oi := ⟨some 45, _, _, _, _, _⟩) (v := .agg #[.int .i64 tk, .int .i64 tn, .string ts, .slice B tl.length (capF tl.length b)]) rfl (by kernel_rfl) (by kernel_rfl) (by kernel_rfl) (fun _ _ _ h => h) (.inl ⟨by kernel_rfl, fun W hW => by first | (obtain ⟨z0, z1, z2, z3, z4, z5, z6, z7, z8, z9⟩ := hW; go_simp; done) | (obtain ⟨z0, z1, z2, z3, z4, z5, z6, z7, z8, z9⟩ := hW; go_simp; omega) | (obtain ⟨z0, z1, z2, z3, z4, z5, z6, z7, z8, z9⟩ := hW; go_simp; exact IntWalk.i64_in _ (by omega)) | (obtain ⟨z0, z1, z2, z3, z4, z5, z6, z7, z8, z9⟩ := hW; go_simp; simp [*]; done)⟩) hSs ?_
                  try simp only [Act.put, List.setIfInBounds_toArray, List.set_cons_zero, List.set_cons_succ]
                  refine wpAnyH_take (i := 5) (oi := ⟨some 46, _, _, _, _, _⟩) (v := .pointer (some ⟨w.heap.size + 1, 3, none⟩)) rfl (by kernel_rfl) (by kernel_rfl) (by kernel_rfl) (fun _ _ _ h => h) (.inl ⟨by kernel_rfl, fun W hW => by first | (obtain ⟨z0, z1, z2, z3, z4, z5, z6, z7, z8, z9⟩ := hW; go_simp; done) | (obtain ⟨z0, z1, z2, z3, z4, z5, z6, z7, z8, z9⟩ := hW; go_simp; omega) | (obtain ⟨z0, z1, z2, z3, z4, z5, z6, z7, z8, z9⟩ := hW; go_simp; exact IntWalk.i64_in _ (by omega)) | (obtain ⟨z0, z1, z2, z3, z4, z5, z6, z7, z8, z9⟩ := hW; go_simp; simp [*]; done)⟩) hSs ?_
                  try simp only [Act.put, List.setIfInBounds_toArray, List.set_cons_zero, List.set_cons_succ]
                  refine wpAnyH_take (i := 6) (oi := ⟨some 47, _, _, _, _, _⟩) (v := .slice (some ⟨g', o', none⟩) m c') rfl (by kernel_rfl) (by kernel_rfl) (by kernel_rfl) (fun _ _ _ h => h) (.inl ⟨by kernel_rfl, fun W hW => by first | (obtain ⟨z0, z1, z2, z3, z4, z5, z6, z7, z8, z9⟩ := hW; go_simp; done) | (obtain ⟨z0, z1, z2, z3, z4, z5, z6, z7, z8, z9⟩ := hW; go_simp; omega) | (obtain ⟨z0, z1, z2, z3, z4, z5, z6, z7, z8, z9⟩ := hW; go_simp; exact IntWalk.i64_in _ (by omega)) | (obtain ⟨z0, z1, z2, z3, z4, z5, z6, z7, z8, z9⟩ := hW; go_simp; simp [*]; done)⟩) hSs ?_
                  try simp only [Act.put, List.setIfInBounds_toArray, List.set_cons_zero, List.set_cons_succ]
                  refine wpAnyH_take (i := 7) (oi := ⟨some 48, _, _, _, _, _⟩) (v := .int .i64 (i : Int)) rfl (by kernel_rfl) (by kernel_rfl) (by kernel_rfl) (fun _ _ _ h => h) (.inl ⟨by kernel_rfl, fun W hW => by kernel_rfl⟩) hSs ?_
                  try simp only [Act.put, List.setIfInBounds_toArray, List.set_cons_zero, List.set_cons_succ]
                  refine wpAnyH_take (i := 8) (oi := ⟨some 49, _, _, _, _, _⟩) (v := .pointer (some ⟨g', o' + i * 4, none⟩)) rfl (by kernel_rfl) (by kernel_rfl) (by kernel_rfl) (fun _ _ _ h => h) (.inl ⟨by kernel_rfl, fun W hW => by first | (obtain ⟨z0, z1, z2, z3, z4, z5, z6, z7, z8, z9⟩ := hW; go_simp; done) | (obtain ⟨z0, z1, z2, z3, z4, z5, z6, z7, z8, z9⟩ := hW; go_simp; omega) | (obtain ⟨z0, z1, z2, z3, z4, z5, z6, z7, z8, z9⟩ := hW; go_simp; exact IntWalk.i64_in _ (by omega)) | (obtain ⟨z0, z1, z2, z3, z4, z5, z6, z7, z8, z9⟩ := hW; go_simp; simp [*]; done)⟩) hSs ?_
                  try simp only [Act.put, List.setIfInBounds_toArray, List.set_cons_zero, List.set_cons_succ]
                  refine wpAnyH_take (i := 9) (oi := ⟨some 50, _, _, _, _, _⟩) (v := .agg #[.int .i64 tk', .int .i64 tn', .string ts', .slice B' tl'.length (capF tl'.length b')]) rfl (by kernel_rfl) (by kernel_rfl) (by kernel_rfl) (fun _ _ _ h => h) (.inl ⟨by kernel_rfl, fun W hW => by first | (obtain ⟨z0, z1, z2, z3, z4, z5, z6, z7, z8, z9⟩ := hW; go_simp; done) | (obtain ⟨z0, z1, z2, z3, z4, z5, z6, z7, z8, z9⟩ := hW; go_simp; omega) | (obtain ⟨z0, z1, z2, z3, z4, z5, z6, z7, z8, z9⟩ := hW; go_simp; exact IntWalk.i64_in _ (by omega)) | (obtain ⟨z0, z1, z2, z3, z4, z5, z6, z7, z8, z9⟩ := hW; go_simp; simp [*]; done)⟩) hSs ?_
                  try simp only [Act.put, List.setIfInBounds_toArray, List.set_cons_zero, List.set_cons_succ]
                  refine wpAnyH_ready (rs := [10]) (by kernel_rfl) (by simp) (AllReadyH.cons rfl (fun K hK => ?_) AllReadyH.nil)
                  go_simp
                  refine (HC.out _ (hb_1.drew) ).mono ?_
                  rintro e u_2 ⟨rfl, hq_2⟩
                  have hb_2 := (hb_1.drew).trans (hq_2.mono (hb_1.drew).size)
                  refine hK.out _ _ (HSS.out _ hb_2) (fun hS_2 => ?_)
                  clear hK K
                  try simp only [Act.put, List.setIfInBounds_toArray, List.set_cons_zero, List.set_cons_succ]
                  refine wpAnyH_take (i := 11) (oi := ⟨some 52, _, _, _, _, _⟩) (v := .bool true) rfl (by kernel_rfl) (by kernel_rfl) (by kernel_rfl) (fun _ _ _ h => h) (.inl ⟨by kernel_rfl, fun W hW => by kernel_rfl⟩) hS_2 ?_
                  try simp only [Act.put, List.setIfInBounds_toArray, List.set_cons_zero, List.set_cons_succ]
                  refine wpAnyH_done (by kernel_rfl) ?_ _
                  have hbx := hb_2
                  go_wp2_with fail
                  go_ret
                  exact ⟨ret_bool (by rw [HE.out, HQ.out, HS.out]; rfl), hbw.trans (hbx.mono hbs)⟩
                · rw [hq] at HC HS
                  clear hq
                  go_upto_region 6 with fail
                  clear c3 c3' d0 d1 d2 d3 f0 f1 f2 f3
                  have hb_1 : Below wr.heap.size wr wr := Below.refl _ _
                  refine wp_region_held_drew (S := (fun V' : World => (V'.cell? ⟨w.heap.size, 3, none⟩ = some (.slice (some ⟨g, o, none⟩) m c) ∧ V'.cell? ⟨w.heap.size + 1, 3, none⟩ = some (.slice (some ⟨g', o', none⟩) m c') ∧ V'.cell? ⟨g, o + i * 4, none⟩ = some (.int .i64 tk) ∧ V'.cell? ⟨g, o + i * 4 + 1, none⟩ = some (.int .i64 tn) ∧ V'.cell? ⟨g, o + i * 4 + 2, none⟩ = some (.string ts) ∧ V'.cell? ⟨g, o + i * 4 + 3, none⟩ = some (.slice B tl.length (capF tl.length b)) ∧ V'.cell? ⟨g', o' + i * 4, none⟩ = some (.int .i64 tk') ∧ V'.cell? ⟨g', o' + i * 4 + 1, none⟩ = some (.int .i64 tn') ∧ V'.cell? ⟨g', o' + i * 4 + 2, none⟩ = some (.string ts') ∧ V'.cell? ⟨g', o' + i * 4 + 3, none⟩ = some (.slice B' tl'.length (capF tl'.length b'))))) rfl (HSS.out _ hb_1.drew) (fun hSs => ?_)
                  change wpAnyH _ _ _ _ _ 12 (Array.replicate 12 false) _ _
                  refine wpAnyH_take (i := 0) (oi := ⟨some 41, _, _, _, _, _⟩) (v := .pointer (some ⟨w.heap.size, 3, none⟩)) rfl (by kernel_rfl) (by kernel_rfl) (by kernel_rfl) (fun _ _ _ h => h) (.inl ⟨by kernel_rfl, fun W hW => by first | (obtain ⟨z0, z1, z2, z3, z4, z5, z6, z7, z8, z9⟩ := hW; go_simp; done) | (obtain ⟨z0, z1, z2, z3, z4, z5, z6, z7, z8, z9⟩ := hW; go_simp; omega) | (obtain ⟨z0, z1, z2, z3, z4, z5, z6, z7, z8, z9⟩ := hW; go_simp; exact IntWalk.i64_in _ (by omega)) | (obtain ⟨z0, z1, z2, z3, z4, z5, z6, z7, z8, z9⟩ := hW; go_simp; simp [*]; done)⟩) hSs ?_
                  try simp only [Act.put, List.setIfInBounds_toArray, List.set_cons_zero, List.set_cons_succ]
                  refine wpAnyH_take (i := 1) (oi := ⟨some 42, _, _, _, _, _⟩) (v := .slice (some ⟨g, o, none⟩) m c) rfl (by kernel_rfl) (by kernel_rfl) (by kernel_rfl) (fun _ _ _ h => h) (.inl ⟨by kernel_rfl, fun W hW => by first | (obtain ⟨z0, z1, z2, z3, z4, z5, z6, z7, z8, z9⟩ := hW; go_simp; done) | (obtain ⟨z0, z1, z2, z3, z4, z5, z6, z7, z8, z9⟩ := hW; go_simp; omega) | (obtain ⟨z0, z1, z2, z3, z4, z5, z6, z7, z8, z9⟩ := hW; go_simp; exact IntWalk.i64_in _ (by omega)) | (obtain ⟨z0, z1, z2, z3, z4, z5, z6, z7, z8, z9⟩ := hW; go_simp; simp [*]; done)⟩) hSs ?_
                  try simp only [Act.put, List.setIfInBounds_toArray, List.set_cons_zero, List.set_cons_succ]
                  refine wpAnyH_take (i := 2) (oi := ⟨some 43, _, _, _, _, _⟩) (v := .int .i64 (i : Int)) rfl (by kernel_rfl) (by kernel_rfl) (by kernel_rfl) (fun _ _ _ h => h) (.inl ⟨by kernel_rfl, fun W hW => by kernel_rfl⟩) hSs ?_
                  try simp only [Act.put, List.setIfInBounds_toArray, List.set_cons_zero, List.set_cons_succ]
                  refine wpAnyH_take (i := 3) (oi := ⟨some 44, _, _, _, _, _⟩) (v := .pointer (some ⟨g, o + i * 4, none⟩)) rfl (by kernel_rfl) (by kernel_rfl) (by kernel_rfl) (fun _ _ _ h => h) (.inl ⟨by kernel_rfl, fun W hW => by first | (obtain ⟨z0, z1, z2, z3, z4, z5, z6, z7, z8, z9⟩ := hW; go_simp; done) | (obtain ⟨z0, z1, z2, z3, z4, z5, z6, z7, z8, z9⟩ := hW; go_simp; omega) | (obtain ⟨z0, z1, z2, z3, z4, z5, z6, z7, z8, z9⟩ := hW; go_simp; exact IntWalk.i64_in _ (by omega)) | (obtain ⟨z0, z1, z2, z3, z4, z5, z6, z7, z8, z9⟩ := hW; go_simp; simp [*]; done)⟩) hSs ?_
                  try simp only [Act.put, List.setIfInBounds_toArray, List.set_cons_zero, List.set_cons_succ]
                  refine wpAnyH_take (i := 4) (oi := ⟨some 45, _, _, _, _, _⟩) (v := .agg #[.int .i64 tk, .int .i64 tn, .string ts, .slice B tl.length (capF tl.length b)]) rfl (by kernel_rfl) (by kernel_rfl) (by kernel_rfl) (fun _ _ _ h => h) (.inl ⟨by kernel_rfl, fun W hW => by first | (obtain ⟨z0, z1, z2, z3, z4, z5, z6, z7, z8, z9⟩ := hW; go_simp; done) | (obtain ⟨z0, z1, z2, z3, z4, z5, z6, z7, z8, z9⟩ := hW; go_simp; omega) | (obtain ⟨z0, z1, z2, z3, z4, z5, z6, z7, z8, z9⟩ := hW; go_simp; exact IntWalk.i64_in _ (by omega)) | (obtain ⟨z0, z1, z2, z3, z4, z5, z6, z7, z8, z9⟩ := hW; go_simp; simp [*]; done)⟩) hSs ?_
                  try simp only [Act.put, List.setIfInBounds_toArray, List.set_cons_zero, List.set_cons_succ]
                  refine wpAnyH_take (i := 5) (oi := ⟨some 46, _, _, _, _, _⟩) (v := .pointer (some ⟨w.heap.size + 1, 3, none⟩)) rfl (by kernel_rfl) (by kernel_rfl) (by kernel_rfl) (fun _ _ _ h => h) (.inl ⟨by kernel_rfl, fun W hW => by first | (obtain ⟨z0, z1, z2, z3, z4, z5, z6, z7, z8, z9⟩ := hW; go_simp; done) | (obtain ⟨z0, z1, z2, z3, z4, z5, z6, z7, z8, z9⟩ := hW; go_simp; omega) | (obtain ⟨z0, z1, z2, z3, z4, z5, z6, z7, z8, z9⟩ := hW; go_simp; exact IntWalk.i64_in _ (by omega)) | (obtain ⟨z0, z1, z2, z3, z4, z5, z6, z7, z8, z9⟩ := hW; go_simp; simp [*]; done)⟩) hSs ?_
                  try simp only [Act.put, List.setIfInBounds_toArray, List.set_cons_zero, List.set_cons_succ]
                  refine wpAnyH_take (i := 6) (oi := ⟨some 47, _, _, _, _, _⟩) (v := .slice (some ⟨g', o', none⟩) m c') rfl (by kernel_rfl) (by kernel_rfl) (by kernel_rfl) (fun _ _ _ h => h) (.inl ⟨by kernel_rfl, fun W hW => by first | (obtain ⟨z0, z1, z2, z3, z4, z5, z6, z7, z8, z9⟩ := hW; go_simp; done) | (obtain ⟨z0, z1, z2, z3, z4, z5, z6, z7, z8, z9⟩ := hW; go_simp; omega) | (obtain ⟨z0, z1, z2, z3, z4, z5, z6, z7, z8, z9⟩ := hW; go_simp; exact IntWalk.i64_in _ (by omega)) | (obtain ⟨z0, z1, z2, z3, z4, z5, z6, z7, z8, z9⟩ := hW; go_simp; simp [*]; done)⟩) hSs ?_
                  try simp only [Act.put, List.setIfInBounds_toArray, List.set_cons_zero, List.set_cons_succ]
                  refine wpAnyH_take (i := 7) (oi := ⟨some 48, _, _, _, _, _⟩) (v := .int .i64 (i : Int)) rfl (by kernel_rfl) (by kernel_rfl) (by kernel_rfl) (fun _ _ _ h => h) (.inl ⟨by kernel_rfl, fun W hW => by kernel_rfl⟩) hSs ?_
                  try simp only [Act.put, List.setIfInBounds_toArray, List.set_cons_zero, List.set_cons_succ]
                  refine wpAnyH_take (i := 8) (oi := ⟨some 49, _, _, _, _, _⟩) (v := .pointer (some ⟨g', o' + i * 4, none⟩)) rfl (by kernel_rfl) (by kernel_rfl) (by kernel_rfl) (fun _ _ _ h => h) (.inl ⟨by kernel_rfl, fun W hW => by first | (obtain ⟨z0, z1, z2, z3, z4, z5, z6, z7, z8, z9⟩ := hW; go_simp; done) | (obtain ⟨z0, z1, z2, z3, z4, z5, z6, z7, z8, z9⟩ := hW; go_simp; omega) | (obtain ⟨z0, z1, z2, z3, z4, z5, z6, z7, z8, z9⟩ := hW; go_simp; exact IntWalk.i64_in _ (by omega)) | (obtain ⟨z0, z1, z2, z3, z4, z5, z6, z7, z8, z9⟩ := hW; go_simp; simp [*]; done)⟩) hSs ?_
                  try simp only [Act.put, List.setIfInBounds_toArray, List.set_cons_zero, List.set_cons_succ]
                  refine wpAnyH_take (i := 9) (oi := ⟨some 50, _, _, _, _, _⟩) (v := .agg #[.int .i64 tk', .int .i64 tn', .string ts', .slice B' tl'.length (capF tl'.length b')]) rfl (by kernel_rfl) (by kernel_rfl) (by kernel_rfl) (fun _ _ _ h => h) (.inl ⟨by kernel_rfl, fun W hW => by first | (obtain ⟨z0, z1, z2, z3, z4, z5, z6, z7, z8, z9⟩ := hW; go_simp; done) | (obtain ⟨z0, z1, z2, z3, z4, z5, z6, z7, z8, z9⟩ := hW; go_simp; omega) | (obtain ⟨z0, z1, z2, z3, z4, z5, z6, z7, z8, z9⟩ := hW; go_simp; exact IntWalk.i64_in _ (by omega)) | (obtain ⟨z0, z1, z2, z3, z4, z5, z6, z7, z8, z9⟩ := hW; go_simp; simp [*]; done)⟩) hSs ?_
                  try simp only [Act.put, List.setIfInBounds_toArray, List.set_cons_zero, List.set_cons_succ]
                  refine wpAnyH_ready (rs := [10]) (by kernel_rfl) (by simp) (AllReadyH.cons rfl (fun K hK => ?_) AllReadyH.nil)
                  go_simp
                  refine (HC.out _ (hb_1.drew) ).mono ?_
                  rintro e u_2 ⟨rfl, hq_2⟩
                  have hb_2 := (hb_1.drew).trans (hq_2.mono (hb_1.drew).size)
                  refine hK.out _ _ (HSS.out _ hb_2) (fun hS_2 => ?_)
                  clear hK K
                  try simp only [Act.put, List.setIfInBounds_toArray, List.set_cons_zero, List.set_cons_succ]
                  refine wpAnyH_take (i := 11) (oi := ⟨some 52, _, _, _, _, _⟩) (v := .bool false) rfl (by kernel_rfl) (by kernel_rfl) (by kernel_rfl) (fun _ _ _ h => h) (.inl ⟨by kernel_rfl, fun W hW => by kernel_rfl⟩) hS_2 ?_
                  try simp only [Act.put, List.setIfInBounds_toArray, List.set_cons_zero, List.set_cons_succ]
                  refine wpAnyH_done (by kernel_rfl) ?_ _
                  have hbx := hb_2
                  go_wp2_with fail
                  go_roundw
                  case rel =>
                    refine ⟨i + 1, by omega, by go_num, ?_, L2.out.below hbx L2.out.lt, L3.out.below hbx L3.out.lt, hbw.trans (hbx.mono hbs)⟩
                    show _ = _
                    rw [HQ.out, HS.out]; rfl
                  case measure => simp [intOf]; omega
              · go_wp2_with fail
                go_ret
                exact ⟨ret_bool (by rw [HE.out, HQ.out, List.drop_eq_nil_of_le (by omega), List.drop_eq_nil_of_le (by omega), sameEL]), hbw⟩
          · have HF : Hid (U = false) := by
              show _ = _
              rw [HE.out, sameFL_len l l' (by omega)]; simp
            have hn1 : ((m : Int) != (m' : Int)) = true := by simp; omega
            subst hk hn hs
            clear HE HI HI' hmm ih
            go_enter Try.func12, Try.ntmps12
            go_wp2_with fail
            go_ret
            exact ⟨ret_bool HF.out.symm, HB.out _ _⟩
        · have HF : Hid (U = false) := by
            show _ = _
            rw [HE.out]; simp [hn]
          subst hk hs
          clear HE HI HI' ih
          go_enter Try.func12, Try.ntmps12
          go_wp2_with fail
          go_ret
          exact ⟨ret_bool HF.out.symm, HB.out _ _⟩
      · have hs' := strE_ne hs
        have HF : Hid (U = false) := by
          show _ = _
          rw [HE.out]; simp [hs]
        subst hk
        clear hs HE HI HI' ih
        go_enter Try.func12, Try.ntmps12
        go_wp2_with fail
        go_ret
        exact ⟨ret_bool HF.out.symm, HB.out _ _⟩
    · have HF : Hid (U = false) := by
        show _ = _
        rw [HE.out]; simp [hk]
      clear HE HI HI' ih
      go_enter Try.func12, Try.ntmps12
      go_wp2_with fail
      go_ret
      exact ⟨ret_bool HF.out.symm, HB.out _ _⟩
set_option maxHeartbeats 4000000 in
theorem rtame_any (d : Nat) : ∀ (t : Te) (A : Option Addr) (c : Nat) (w : World), depthE t ≤ d → EIn w Any t A →
    Calls Try.prog 10 #[ev t A c] w fun e w' => e = .returned (.bool (tameB t)) ∧ Below w.heap.size w w' := by
  induction d with
  | zero => intro t A c w h; have := depthE_pos t; omega
  | succ d ih =>
    intro t A c w hd hI
    obtain ⟨k, n, s, l⟩ := t
    have hdL : depthEL l ≤ d := by rw [depthE] at hd; omega
    have hml : l.length ≤ 140737488351232 := by rw [EIn] at hI; exact hI.2.1
    show Calls Try.prog 10 #[.agg #[.int .i64 k, .int .i64 n, .string s, .slice A l.length (capF l.length c)]] w _
    generalize capF l.length c = c
    have HE : Hid (tameB (.node k n s l) = (!((decide (k ≠ 7) && (decide (1099511627776 < n) || decide (n < -1099511627776))) || (decide (k = 1) && decide (0 < l.length))) && tameBL l)) := by
      show _ = _
      rw [tameB]
    obtain ⟨U, hU⟩ : ∃ U, U = tameB (.node k n s l) := ⟨_, rfl⟩
    rw [← hU] at HE ⊢
    have HI := Lib.hid hI
    clear hU hI hd
    obtain ⟨m, hm⟩ : ∃ m, m = l.length := ⟨_, rfl⟩
    rw [← hm] at hml HE ⊢
    have hm1 : m ≤ l.length := by omega
    have hm2 : l.length ≤ m := by omega
    have HB : Hid (Below w.heap.size w (w.alloc (.cells #[.int .i64 k, .int .i64 n, .string s, .slice A m c] 24))) := Lib.hid ((Below.refl _ w).alloc (Nat.le_refl _) _)
    clear hm
    by_cases h7 : k = 7
    · subst h7
      have HF : Hid (U = tameBL l) := Lib.hid (by rw [HE.out]; simp)
      clear HE
      go_enter Try.func10, Try.ntmps10
      go_wp2_with fail
      go_loopw [3] (fun x wr => ∃ i : Nat, i ≤ m ∧ x = .int .i64 i ∧ Hid (tameBL l = tameBL (l.drop i)) ∧ Lies wr w.heap.size 24 #[.int .i64 7, .int .i64 n, .string s, .slice A m c] ∧ Below w.heap.size w wr) (fun x _ => m - (intOf x).toNat)
      case atStart => exact ⟨0, by omega, rfl, by exact rfl, Lies.new w _ _, HB.out⟩
      case round =>
        obtain ⟨i, hi, rfl, HQ, l2, hbw⟩ := hrel
        have hbs := hbw.size
        have c3 := l2.cell 3
        simp at c3
        by_cases hlt : i < m
        · have hia : i < l.length := by omega
          obtain ⟨g, o, B, b, ⟨hA, _⟩, d0, d1, d2, d3, hIn⟩ := EIn.part (EIn.below _ HI.out hbw (Nat.le_refl _)) i hia
          subst hA
          simp only [Te.parts] at d0 d1 d2 d3 hIn
          have hm5 := depthEL_mem l (l[i]'hia) (List.getElem_mem hia)
          have HS : Hid (tameBL (l.drop i) = (tameB (l[i]'hia) && tameBL (l.drop (i + 1)))) := by
            show _ = _
            rw [List.drop_eq_getElem_cons hia, tameBL]
          obtain ⟨tr, hu⟩ : ∃ tr, tr = l[i]'hia := ⟨_, rfl⟩
          rw [← hu] at d0 d1 d2 d3 hIn HS hm5
          clear hu
          obtain ⟨tk, tn, ts, tl⟩ := tr
          simp only [Te.kind, Te.n, Te.name] at d0 d1 d2 d3
          have HC := Lib.hid (ih (.node tk tn ts tl) B b wr (by omega) hIn)
          have L2 := Lib.hid l2
          clear l2 hIn
          cases hq : tameB (.node tk tn ts tl)
          · rw [hq] at HC HS
            clear hq
            go_wp2_with fail
            refine HC.out.mono ?_
            rintro e w2 ⟨rfl, hb2⟩
            go_wp2_with fail
            go_ret
            exact ⟨ret_bool (by rw [HF.out, HQ.out, HS.out]; rfl), hbw.trans (hb2.mono hbs)⟩
          · rw [hq] at HC HS
            clear hq
            go_wp2_with fail
            refine HC.out.mono ?_
            rintro e w2 ⟨rfl, hb2⟩
            go_wp2_with fail
            go_roundw
            case rel =>
              refine ⟨i + 1, by omega, by go_num, ?_, L2.out.below hb2 L2.out.lt, hbw.trans (hb2.mono hbs)⟩
              show _ = _
              rw [HQ.out, HS.out]; rfl
            case measure => simp [intOf]; omega
        · go_wp2_with fail
          go_ret
          exact ⟨ret_bool (by rw [HF.out, HQ.out, List.drop_eq_nil_of_le (by omega), tameBL]), hbw⟩
    · have h7b : (k != 7) = true := by simpa using h7
      by_cases hg : 1099511627776 < n
      · have HF : Hid (U = false) := Lib.hid (by rw [HE.out]; simp [h7, hg])
        clear HE h7
        clear HI ih
        go_enter Try.func10, Try.ntmps10
        go_wp2_with fail
        go_ret
        exact ⟨ret_bool HF.out.symm, HB.out⟩
      · by_cases hl : n < -1099511627776
        · have HF : Hid (U = false) := Lib.hid (by rw [HE.out]; simp [h7, hl])
          clear HE h7
          clear HI ih
          go_enter Try.func10, Try.ntmps10
          go_wp2_with fail
          go_ret
          exact ⟨ret_bool HF.out.symm, HB.out⟩
        · by_cases h1 : k = 1
          · subst h1
            by_cases hm0 : 0 < m
            · have HF : Hid (U = false) := Lib.hid (by rw [HE.out]; simp [hm0])
              have hm0' : (0 : Int) < (m : Int) := by omega
              clear HE
              clear HI ih
              go_enter Try.func10, Try.ntmps10
              go_wp2_with fail
              go_ret
              exact ⟨ret_bool HF.out.symm, HB.out⟩
            · have HF : Hid (U = tameBL l) := Lib.hid (by rw [HE.out]; simp [hg, hl, hm0])
              have hm0' : ¬ (0 : Int) < (m : Int) := by omega
              clear HE
              go_enter Try.func10, Try.ntmps10
              go_wp2_with fail
              go_loopw [3] (fun x wr => ∃ i : Nat, i ≤ m ∧ x = .int .i64 i ∧ Hid (tameBL l = tameBL (l.drop i)) ∧ Lies wr w.heap.size 24 #[.int .i64 1, .int .i64 n, .string s, .slice A m c] ∧ Below w.heap.size w wr) (fun x _ => m - (intOf x).toNat)
              case atStart => exact ⟨0, by omega, rfl, by exact rfl, Lies.new w _ _, HB.out⟩
              case round =>
                obtain ⟨i, hi, rfl, HQ, l2, hbw⟩ := hrel
                have hbs := hbw.size
                have c3 := l2.cell 3
                simp at c3
                by_cases hlt : i < m
                · exact absurd hlt (by omega)
                · go_wp2_with fail
                  go_ret
                  exact ⟨ret_bool (by rw [HF.out, HQ.out, List.drop_eq_nil_of_le (by omega), tameBL]), hbw⟩
          · have h1b : (k == 1) = false := by simpa using h1
            have HF : Hid (U = tameBL l) := Lib.hid (by rw [HE.out]; simp [hg, hl, h1])
            clear HE h7
            go_enter Try.func10, Try.ntmps10
            go_wp2_with fail
            go_loopw [3] (fun x wr => ∃ i : Nat, i ≤ m ∧ x = .int .i64 i ∧ Hid (tameBL l = tameBL (l.drop i)) ∧ Lies wr w.heap.size 24 #[.int .i64 k, .int .i64 n, .string s, .slice A m c] ∧ Below w.heap.size w wr) (fun x _ => m - (intOf x).toNat)
            case atStart => exact ⟨0, by omega, rfl, by exact rfl, Lies.new w _ _, HB.out⟩
            case round =>
              obtain ⟨i, hi, rfl, HQ, l2, hbw⟩ := hrel
              have hbs := hbw.size
              have c3 := l2.cell 3
              simp at c3
              by_cases hlt : i < m
              · have hia : i < l.length := by omega
                obtain ⟨g, o, B, b, ⟨hA, _⟩, d0, d1, d2, d3, hIn⟩ := EIn.part (EIn.below _ HI.out hbw (Nat.le_refl _)) i hia
                subst hA
                simp only [Te.parts] at d0 d1 d2 d3 hIn
                have hm5 := depthEL_mem l (l[i]'hia) (List.getElem_mem hia)
                have HS : Hid (tameBL (l.drop i) = (tameB (l[i]'hia) && tameBL (l.drop (i + 1)))) := by
                  show _ = _
                  rw [List.drop_eq_getElem_cons hia, tameBL]
                obtain ⟨tr, hu⟩ : ∃ tr, tr = l[i]'hia := ⟨_, rfl⟩
                rw [← hu] at d0 d1 d2 d3 hIn HS hm5
                clear hu
                obtain ⟨tk, tn, ts, tl⟩ := tr
                simp only [Te.kind, Te.n, Te.name] at d0 d1 d2 d3
                have HC := Lib.hid (ih (.node tk tn ts tl) B b wr (by omega) hIn)
                have L2 := Lib.hid l2
                clear l2 hIn
                cases hq : tameB (.node tk tn ts tl)
                · rw [hq] at HC HS
                  clear hq
                  go_wp2_with fail
                  refine HC.out.mono ?_
                  rintro e w2 ⟨rfl, hb2⟩
                  go_wp2_with fail
                  go_ret
                  exact ⟨ret_bool (by rw [HF.out, HQ.out, HS.out]; rfl), hbw.trans (hb2.mono hbs)⟩
                · rw [hq] at HC HS
                  clear hq
                  go_wp2_with fail
                  refine HC.out.mono ?_
                  rintro e w2 ⟨rfl, hb2⟩
                  go_wp2_with fail
                  go_roundw
                  case rel =>
                    refine ⟨i + 1, by omega, by go_num, ?_, L2.out.below hb2 L2.out.lt, hbw.trans (hb2.mono hbs)⟩
                    show _ = _
                    rw [HQ.out, HS.out]; rfl
                  case measure => simp [intOf]; omega
              · go_wp2_with fail
                go_ret
                exact ⟨ret_bool (by rw [HF.out, HQ.out, List.drop_eq_nil_of_le (by omega), tameBL]), hbw⟩
end Lx
end Go.Proofs.Ytcgiloccmehbeaa
namespace Go.Proofs.Ytcgiloccmehbeaa
open Go.RowKit
namespace Lx
set_option maxRecDepth 100000
mutual
/-- The text of a small plain term. -/
def txE : Te → List UInt8
  | .node k n s l => if k = 1 then [35, UInt8.ofNat (48 + n).toNat] else if k = 7 then [UInt8.ofNat (48 + n).toNat] else
    [40] ++ ((if k = 2 then [92] else if k = 3 then [64] else s.data.toList ++ [58, UInt8.ofNat (48 + n).toNat]) ++ txEL l) ++ [41]
def txEL : List Te → List UInt8
  | [] => []
  | t :: r => [32] ++ txE t ++ txEL r
end
mutual
def simpE : Te → Prop
  | .node k n s l => ((k = 1 ∨ k = 7) ∧ 0 ≤ n ∧ n ≤ 9) ∨ ((k = 2 ∨ k = 3) ∧ simpEL l) ∨ (k = 6 ∧ 0 ≤ n ∧ n ≤ 9 ∧ s.size ≤ 10 ∧ simpEL l)
def simpEL : List Te → Prop
  | [] => True
  | t :: r => simpE t ∧ simpEL r
end
theorem simpEL_mem : ∀ (l : List Te) (t : Te), t ∈ l → simpEL l → simpE t
  | [], t, h, _ => by simp at h
  | a :: r, t, h, ht => by
    rw [simpEL] at ht
    rcases List.mem_cons.1 h with rfl | h
    · exact ht.1
    · exact simpEL_mem r t h ht.2
theorem txEL_snoc (l : List Te) (t : Te) : txEL (l ++ [t]) = txEL l ++ ([32] ++ txE t) := by
  induction l with
  | nil => simp [txEL]
  | cons a r ih => simp only [List.cons_append, txEL, ih, List.append_assoc]
theorem txEL_take (l : List Te) (i : Nat) (h : i < l.length) : txEL (l.take (i + 1)) = txEL (l.take i) ++ ([32] ++ txE (l[i]'h)) := by
  rw [List.take_succ_eq_append_getElem h, txEL_snoc]
theorem txEL_take_le (l : List Te) (i : Nat) : (txEL (l.take i)).length ≤ (txEL l).length := by
  induction l generalizing i with
  | nil => simp
  | cons a r ih =>
    cases i with
    | zero => simp [txEL]
    | succ i => simp only [List.take_succ_cons, txEL, List.length_append]; have := ih i; omega
mutual
theorem txE_len : ∀ t : Te, simpE t → (txE t).length + 1 ≤ 16 * sizeE t
  | .node k n s l, h => by
    rw [simpE] at h
    rw [txE, sizeE]
    rcases h with ⟨rfl | rfl, _⟩ | ⟨hk, hl⟩ | ⟨rfl, _, _, hs, hl⟩
    · simp; omega
    · simp; omega
    · have := txEL_len l hl
      rcases hk with rfl | rfl <;> simp <;> omega
    · have := txEL_len l hl
      have e : s.data.toList.length = s.size := by simp
      simp; omega
theorem txEL_len : ∀ l : List Te, simpEL l → (txEL l).length ≤ 16 * sizeEL l
  | [], _ => by simp [txEL]
  | t :: r, h => by
    rw [simpEL] at h
    rw [txEL, sizeEL]
    have := txE_len t h.1
    have := txEL_len r h.2
    simp; omega
end
theorem str_is (T : List UInt8) : ∃ S : ByteArray, S.data.toList = T ∧ S.size = T.length ∧ ByteArray.mk T.toArray = S := ⟨_, by simp, by show T.toArray.size = _; simp, rfl⟩
set_option maxHeartbeats 2000000 in
theorem rdig6_any (n : Int) (h0 : 0 ≤ n) (h1 : n ≤ 9) (w : World) : Calls Try.prog 37 #[.int .i64 n] w fun e w' => e = .returned (.string ⟨#[UInt8.ofNat (48 + n).toNat]⟩) ∧ Below w.heap.size w w' := by
  have hb : Below w.heap.size w (w.alloc (.cells #[.int .u8 (48 + n)] 5)) := (Below.refl _ w).alloc (Nat.le_refl _) _
  have HC : (convert 56 9 (.slice (some ⟨w.heap.size, 0, none⟩) 1 1)).run Try.prog (w.alloc (.cells #[.int .u8 (48 + n)] 5)) = .ok (.string ⟨[UInt8.ofNat (48 + n).toNat].toArray⟩) (w.alloc (.cells #[.int .u8 (48 + n)] 5)) := by
    refine run_convert_bytes_back _ _ _ 5 ⟨w.heap.size, 0, none⟩ 1 [UInt8.ofNat (48 + n).toNat] (by kernel_rfl) (by kernel_rfl) (by kernel_rfl) ?_
    intro j hj
    have : j = 0 := by simp at hj; omega
    subst this
    have e : ((UInt8.ofNat (48 + n).toNat).toNat : Int) = 48 + n := by
      rw [UInt8.toNat_ofNat']
      omega
    simpa [Addr.add] using e.symm
  have j1 : ¬ 10 ≤ n := by omega
  have hm : n % 10 = n := by omega
  obtain ⟨d, hd⟩ : ∃ d : List UInt8, d = [UInt8.ofNat (48 + n).toNat] := ⟨_, rfl⟩
  have HD := Lib.hid hd
  rw [← hd] at HC
  clear hd
  go_enter Try.func37, Try.ntmps37
  go_wp2_with fail
  go_ret
  exact ⟨by rw [HD.out]; rfl, hb⟩
set_option maxHeartbeats 4000000 in
theorem rtext6_any (d : Nat) : ∀ (t : Te) (A : Option Addr) (c : Nat) (w : World), depthE t ≤ d → sizeE t ≤ 100 → simpE t → EIn w Any t A →
    Calls Try.prog 27 #[ev t A c] w fun e w' => e = .returned (.string ⟨(txE t).toArray⟩) ∧ Below w.heap.size w w' := by
  induction d with
  | zero => intro t A c w h; have := depthE_pos t; omega
  | succ d ih =>
    intro t A c w hd hsz hsp hI
    obtain ⟨k, n, s, l⟩ := t
    have hdL : depthEL l ≤ d := by rw [depthE] at hd; omega
    have hsL : sizeEL l ≤ 100 := by rw [sizeE] at hsz; omega
    have hlen := sizeEL_len l
    have htx := txE_len (.node k n s l) hsp
    rw [simpE] at hsp
    show Calls Try.prog 27 #[.agg #[.int .i64 k, .int .i64 n, .string s, .slice A l.length (capF l.length c)]] w _
    generalize capF l.length c = c
    have hE : txE (.node k n s l) = if k = 1 then [35, UInt8.ofNat (48 + n).toNat] else if k = 7 then [UInt8.ofNat (48 + n).toNat] else
      [40] ++ ((if k = 2 then [92] else if k = 3 then [64] else s.data.toList ++ [58, UInt8.ofNat (48 + n).toNat]) ++ txEL l) ++ [41] := by rw [txE]
    obtain ⟨U, hU⟩ : ∃ U, U = txE (.node k n s l) := ⟨_, rfl⟩
    rw [← hU] at hE htx ⊢
    have HI := Lib.hid hI
    clear hU hI hd
    obtain ⟨m, hm⟩ : ∃ m, m = l.length := ⟨_, rfl⟩
    rw [← hm] at hlen ⊢
    have hm1 : m ≤ l.length := by omega
    have hm2 : l.length ≤ m := by omega
    have HB : Hid (Below w.heap.size w (w.alloc (.cells #[.int .i64 k, .int .i64 n, .string s, .slice A m c] 24))) := Lib.hid ((Below.refl _ w).alloc (Nat.le_refl _) _)
    clear hm
    rcases hsp with ⟨hk, h0, h9⟩ | ⟨hk, hl⟩ | ⟨rfl, h0, h9, hss, hl⟩
    · rcases hk with rfl | rfl
      · have HE : Hid (U = [35, UInt8.ofNat (48 + n).toNat]) := Lib.hid (by rw [hE]; simp)
        have HD := Lib.hid (rdig6_any n h0 h9 (w.alloc (.cells #[.int .i64 1, .int .i64 n, .string s, .slice A m c] 24)))
        have b1 : ¬ 9223372036854775807 < 1 + (⟨#[UInt8.ofNat (48 + n).toNat]⟩ : ByteArray).size := by simp [ByteArray.size]
        clear hE HI ih
        go_enter Try.func27, Try.ntmps27
        go_wp2_with fail
        refine HD.out.mono ?_
        rintro e w2 ⟨rfl, hb2⟩
        go_wp2_with fail
        go_ret
        refine ⟨?_, HB.out.trans (hb2.mono HB.out.size)⟩
        rw [HE.out]
        rfl
      · have HE : Hid (U = [UInt8.ofNat (48 + n).toNat]) := Lib.hid (by rw [hE]; simp)
        have HD := Lib.hid (rdig6_any n h0 h9 (w.alloc (.cells #[.int .i64 7, .int .i64 n, .string s, .slice A m c] 24)))
        clear hE HI ih
        go_enter Try.func27, Try.ntmps27
        go_wp2_with fail
        refine HD.out.mono ?_
        rintro e w2 ⟨rfl, hb2⟩
        go_wp2_with fail
        go_ret
        refine ⟨?_, HB.out.trans (hb2.mono HB.out.size)⟩
        rw [HE.out]
        rfl
    · have HSP := Lib.hid hl
      have hTL := txEL_len l hl
      clear hl
      rcases hk with rfl | rfl
      · have HE : Hid (U = [40] ++ ([92] ++ txEL l) ++ [41]) := Lib.hid (by rw [hE]; simp)
        clear hE
        go_enter Try.func27, Try.ntmps27
        go_wp2_with fail
        go_loopw [3, 4] (fun v x wr => ∃ (i : Nat) (P : ByteArray), i ≤ m ∧ x = .int .i64 i ∧ v = .string P ∧ P.data.toList = [92] ++ txEL (l.take i) ∧ Lies wr w.heap.size 24 #[.int .i64 2, .int .i64 n, .string s, .slice A m c] ∧ Below w.heap.size w wr) (fun _ x _ => m - (intOf x).toNat)
        case atStart => exact ⟨0, _, by omega, rfl, rfl, by simp [txEL], Lies.new w _ _, HB.out⟩
        case round =>
          obtain ⟨i, P, hi, rfl, rfl, hP, l2, hbw⟩ := hrel
          have hbs := hbw.size
          have c3 := l2.cell 3
          simp at c3
          have hPs : P.size ≤ 2000 := by
            have h9 := congrArg List.length hP
            have h8 := txEL_take_le l i
            simp at h9
            omega
          have HP := Lib.hid hP
          clear hP
          by_cases hlt : i < m
          · have hia : i < l.length := by omega
            obtain ⟨g, o, B, b, ⟨hA, _⟩, d0, d1, d2, d3, hIn⟩ := EIn.part (EIn.below _ HI.out hbw (Nat.le_refl _)) i hia
            subst hA
            simp only [Te.parts] at d0 d1 d2 d3 hIn
            have hm5 := depthEL_mem l (l[i]'hia) (List.getElem_mem hia)
            have hm6 := sizeEL_mem l (l[i]'hia) (List.getElem_mem hia)
            have hsp := simpEL_mem l (l[i]'hia) (List.getElem_mem hia) HSP.out
            have HS := Lib.hid (txEL_take l i hia)
            obtain ⟨tr, hu⟩ : ∃ tr, tr = l[i]'hia := ⟨_, rfl⟩
            rw [← hu] at d0 d1 d2 d3 hIn HS hm5 hm6 hsp
            clear hu
            have hC := ih tr B b wr (by omega) (by omega) hsp hIn
            have htl := txE_len tr hsp
            obtain ⟨T, hT⟩ : ∃ T, T = txE tr := ⟨_, rfl⟩
            rw [← hT] at hC HS htl
            clear hT hsp
            obtain ⟨S, eS2, eS3, hS⟩ := str_is T
            rw [hS] at hC
            have HC := Lib.hid hC
            have ES2 := Lib.hid eS2
            obtain ⟨tk, tn, ts, tl⟩ := tr
            simp only [Te.kind, Te.n, Te.name] at d0 d1 d2 d3
            have L2 := Lib.hid l2
            have hSs : S.size ≤ 2000 := by omega
            have b1 : ¬ 9223372036854775807 < 1 + S.size := by omega
            have b2 : ¬ 9223372036854775807 < P.size + (1 + S.size) := by omega
            clear l2 hIn hC eS2 eS3 hS htl
            go_wp2_with fail
            refine HC.out.mono ?_
            rintro e w2 ⟨rfl, hb2⟩
            go_wp2_with fail
            go_roundw
            case rel =>
              refine ⟨i + 1, _, by omega, by go_num, rfl, ?_, L2.out.below hb2 L2.out.lt, hbw.trans (hb2.mono hbs)⟩
              rw [HS.out]
              simp [HP.out, ES2.out]
            case measure => simp [intOf]; omega
          · have b1 : ¬ 9223372036854775807 < 1 + P.size := by omega
            have b2 : ¬ 9223372036854775807 < 1 + P.size + 1 := by omega
            go_wp2_with fail
            go_ret
            refine ⟨?_, hbw⟩
            have hP := HP.out
            rw [List.take_of_length_le (by omega)] at hP
            rw [HE.out]
            show Ending.returned (Value.string _) = _
            congr 2
            apply ByteArray.ext
            apply Array.toList_inj.1
            simp [hP]
      · have HE : Hid (U = [40] ++ ([64] ++ txEL l) ++ [41]) := Lib.hid (by rw [hE]; simp)
        clear hE
        go_enter Try.func27, Try.ntmps27
        go_wp2_with fail
        go_loopw [3, 4] (fun v x wr => ∃ (i : Nat) (P : ByteArray), i ≤ m ∧ x = .int .i64 i ∧ v = .string P ∧ P.data.toList = [64] ++ txEL (l.take i) ∧ Lies wr w.heap.size 24 #[.int .i64 3, .int .i64 n, .string s, .slice A m c] ∧ Below w.heap.size w wr) (fun _ x _ => m - (intOf x).toNat)
        case atStart => exact ⟨0, _, by omega, rfl, rfl, by simp [txEL], Lies.new w _ _, HB.out⟩
        case round =>
          obtain ⟨i, P, hi, rfl, rfl, hP, l2, hbw⟩ := hrel
          have hbs := hbw.size
          have c3 := l2.cell 3
          simp at c3
          have hPs : P.size ≤ 2000 := by
            have h9 := congrArg List.length hP
            have h8 := txEL_take_le l i
            simp at h9
            omega
          have HP := Lib.hid hP
          clear hP
          by_cases hlt : i < m
          · have hia : i < l.length := by omega
            obtain ⟨g, o, B, b, ⟨hA, _⟩, d0, d1, d2, d3, hIn⟩ := EIn.part (EIn.below _ HI.out hbw (Nat.le_refl _)) i hia
            subst hA
            simp only [Te.parts] at d0 d1 d2 d3 hIn
            have hm5 := depthEL_mem l (l[i]'hia) (List.getElem_mem hia)
            have hm6 := sizeEL_mem l (l[i]'hia) (List.getElem_mem hia)
            have hsp := simpEL_mem l (l[i]'hia) (List.getElem_mem hia) HSP.out
            have HS := Lib.hid (txEL_take l i hia)
            obtain ⟨tr, hu⟩ : ∃ tr, tr = l[i]'hia := ⟨_, rfl⟩
            rw [← hu] at d0 d1 d2 d3 hIn HS hm5 hm6 hsp
            clear hu
            have hC := ih tr B b wr (by omega) (by omega) hsp hIn
            have htl := txE_len tr hsp
            obtain ⟨T, hT⟩ : ∃ T, T = txE tr := ⟨_, rfl⟩
            rw [← hT] at hC HS htl
            clear hT hsp
            obtain ⟨S, eS2, eS3, hS⟩ := str_is T
            rw [hS] at hC
            have HC := Lib.hid hC
            have ES2 := Lib.hid eS2
            obtain ⟨tk, tn, ts, tl⟩ := tr
            simp only [Te.kind, Te.n, Te.name] at d0 d1 d2 d3
            have L2 := Lib.hid l2
            have hSs : S.size ≤ 2000 := by omega
            have b1 : ¬ 9223372036854775807 < 1 + S.size := by omega
            have b2 : ¬ 9223372036854775807 < P.size + (1 + S.size) := by omega
            clear l2 hIn hC eS2 eS3 hS htl
            go_wp2_with fail
            refine HC.out.mono ?_
            rintro e w2 ⟨rfl, hb2⟩
            go_wp2_with fail
            go_roundw
            case rel =>
              refine ⟨i + 1, _, by omega, by go_num, rfl, ?_, L2.out.below hb2 L2.out.lt, hbw.trans (hb2.mono hbs)⟩
              rw [HS.out]
              simp [HP.out, ES2.out]
            case measure => simp [intOf]; omega
          · have b1 : ¬ 9223372036854775807 < 1 + P.size := by omega
            have b2 : ¬ 9223372036854775807 < 1 + P.size + 1 := by omega
            go_wp2_with fail
            go_ret
            refine ⟨?_, hbw⟩
            have hP := HP.out
            rw [List.take_of_length_le (by omega)] at hP
            rw [HE.out]
            show Ending.returned (Value.string _) = _
            congr 2
            apply ByteArray.ext
            apply Array.toList_inj.1
            simp [hP]
    · have HSP := Lib.hid hl
      have hTL := txEL_len l hl
      clear hl
      have HE : Hid (U = [40] ++ ((s.data.toList ++ [58, UInt8.ofNat (48 + n).toNat]) ++ txEL l) ++ [41]) := Lib.hid (by rw [hE]; simp)
      clear hE
      have hsd : s.data.toList.length = s.size := by simp
      have HD := Lib.hid (fun W => rdig6_any n h0 h9 W)
      obtain ⟨D, eD, eD2, hD⟩ := str_is [UInt8.ofNat (48 + n).toNat]
      have hD' : (⟨#[UInt8.ofNat (48 + n).toNat]⟩ : ByteArray) = D := hD
      rw [hD'] at HD
      have ED := Lib.hid eD
      simp at eD2
      have b0 : ¬ 9223372036854775807 < s.size + 1 := by omega
      have b00 : ¬ 9223372036854775807 < s.size + 1 + D.size := by omega
      clear hD hD' eD
      go_enter Try.func27, Try.ntmps27
      go_upto_region 19 with fail
      obtain ⟨V8, hV8⟩ : ∃ V, V = w.alloc (.cells #[.int .i64 6, .int .i64 n, .string s, .slice A m c] 24) := ⟨_, rfl⟩
      have l8 : Lies V8 w.heap.size 24 #[.int .i64 6, .int .i64 n, .string s, .slice A m c] := by rw [hV8]; exact Lies.new w _ _
      have hb8 : Below w.heap.size w V8 := by rw [hV8]; exact HB.out
      rw [← hV8]
      clear hV8 HB
      have HSS : Hid (∀ V', Below V8.heap.size V8 V' → (fun V' : World => (V'.cell? ⟨w.heap.size, 1, none⟩ = some (.int .i64 n) ∧ V'.cell? ⟨w.heap.size, 2, none⟩ = some (.string s))) V') := Lib.hid fun V' h =>
        ⟨(h.cell (p := ⟨w.heap.size, 1, none⟩) l8.lt).trans (l8.cell 1), (h.cell (p := ⟨w.heap.size, 2, none⟩) l8.lt).trans (l8.cell 2)⟩
      have HDD : Hid (∀ X, Below V8.heap.size V8 X → Calls Try.prog 37 #[.int .i64 n] X fun e w' => e = .returned (.string D) ∧ Below X.heap.size X w') := Lib.hid fun X _ => HD.out X
      have L8 := Lib.hid l8
      have HB8 := Lib.hid hb8
      clear l8 hb8 HD
      have hb_1 : Below V8.heap.size V8 V8 := Below.refl _ _
      refine wp_region_K (S := (fun V' : World => (V'.cell? ⟨w.heap.size, 1, none⟩ = some (.int .i64 n) ∧ V'.cell? ⟨w.heap.size, 2, none⟩ = some (.string s)))) 7 rfl (HSS.out _ hb_1.drew) (fun hSs => ?_)
      change wpAnyK _ _ _ _ _ _ 8 (Array.replicate 8 false) _ _
      refine wpAnyK_take (i := 0) (oi := ⟨some 33, _, _, _, _, _⟩) (v := .pointer (some ⟨w.heap.size, 2, none⟩)) rfl (by kernel_rfl) (by kernel_rfl) (by kernel_rfl) (by kernel_rfl) (fun _ _ _ h => h) (.inl ⟨by kernel_rfl, fun W hW => by first | (obtain ⟨z0, z1⟩ := hW; go_simp; done) | (obtain ⟨z0, z1⟩ := hW; go_simp; omega) | (obtain ⟨z0, z1⟩ := hW; go_simp; exact IntWalk.i64_in _ (by omega)) | (obtain ⟨z0, z1⟩ := hW; go_simp; simp [*]; done)⟩) hSs ?_
      try simp only [Act.put, List.setIfInBounds_toArray, List.set_cons_zero, List.set_cons_succ]
      refine wpAnyK_take (i := 1) (oi := ⟨some 34, _, _, _, _, _⟩) (v := .string s) rfl (by kernel_rfl) (by kernel_rfl) (by kernel_rfl) (by kernel_rfl) (fun _ _ _ h => h) (.inl ⟨by kernel_rfl, fun W hW => by first | (obtain ⟨z0, z1⟩ := hW; go_simp; done) | (obtain ⟨z0, z1⟩ := hW; go_simp; omega) | (obtain ⟨z0, z1⟩ := hW; go_simp; exact IntWalk.i64_in _ (by omega)) | (obtain ⟨z0, z1⟩ := hW; go_simp; simp [*]; done)⟩) hSs ?_
      try simp only [Act.put, List.setIfInBounds_toArray, List.set_cons_zero, List.set_cons_succ]
      refine wpAnyK_take (i := 2) (oi := ⟨some 35, _, _, _, _, _⟩) (v := .string (s ++ (⟨#[58]⟩ : ByteArray))) rfl (by kernel_rfl) (by kernel_rfl) (by kernel_rfl) (by kernel_rfl) (fun _ _ _ h => h) (.inl ⟨by kernel_rfl, fun W hW => by first | (obtain ⟨z0, z1⟩ := hW; go_simp; done) | (obtain ⟨z0, z1⟩ := hW; go_simp; omega) | (obtain ⟨z0, z1⟩ := hW; go_simp; exact IntWalk.i64_in _ (by omega)) | (obtain ⟨z0, z1⟩ := hW; go_simp; simp [*]; done)⟩) hSs ?_
      try simp only [Act.put, List.setIfInBounds_toArray, List.set_cons_zero, List.set_cons_succ]
      refine wpAnyK_take (i := 3) (oi := ⟨some 36, _, _, _, _, _⟩) (v := .pointer (some ⟨w.heap.size, 1, none⟩)) rfl (by kernel_rfl) (by kernel_rfl) (by kernel_rfl) (by kernel_rfl) (fun _ _ _ h => h) (.inl ⟨by kernel_rfl, fun W hW => by first | (obtain ⟨z0, z1⟩ := hW; go_simp; done) | (obtain ⟨z0, z1⟩ := hW; go_simp; omega) | (obtain ⟨z0, z1⟩ := hW; go_simp; exact IntWalk.i64_in _ (by omega)) | (obtain ⟨z0, z1⟩ := hW; go_simp; simp [*]; done)⟩) hSs ?_
      try simp only [Act.put, List.setIfInBounds_toArray, List.set_cons_zero, List.set_cons_succ]
      refine wpAnyK_take (i := 4) (oi := ⟨some 37, _, _, _, _, _⟩) (v := .int .i64 n) rfl (by kernel_rfl) (by kernel_rfl) (by kernel_rfl) (by kernel_rfl) (fun _ _ _ h => h) (.inl ⟨by kernel_rfl, fun W hW => by first | (obtain ⟨z0, z1⟩ := hW; go_simp; done) | (obtain ⟨z0, z1⟩ := hW; go_simp; omega) | (obtain ⟨z0, z1⟩ := hW; go_simp; exact IntWalk.i64_in _ (by omega)) | (obtain ⟨z0, z1⟩ := hW; go_simp; simp [*]; done)⟩) hSs ?_
      try simp only [Act.put, List.setIfInBounds_toArray, List.set_cons_zero, List.set_cons_succ]
      refine wpAnyK_one (i := 5) rfl rfl (by kernel_rfl) (fun K hK => ?_)
      go_simp
      refine (HDD.out _ (hb_1.drew) ).mono ?_
      rintro e u_2 ⟨rfl, hq_2⟩
      have hb_2 := (hb_1.drew).trans (hq_2.mono (hb_1.drew).size)
      refine hK.out _ _ (fun _ => HSS.out _ hb_2) (fun hS9 => ?_)
      have hS_2 := hS9 (by decide)
      clear hK K hS9
      try simp only [Act.put, List.setIfInBounds_toArray, List.set_cons_zero, List.set_cons_succ]
      refine wpAnyK_take (i := 6) (oi := ⟨some 39, _, _, _, _, _⟩) (v := .string ((s ++ (⟨#[58]⟩ : ByteArray)) ++ D)) rfl (by kernel_rfl) (by kernel_rfl) (by kernel_rfl) (by kernel_rfl) (fun _ _ _ h => h) (.inl ⟨by kernel_rfl, fun W hW => by first | (obtain ⟨z0, z1⟩ := hW; go_simp; done) | (obtain ⟨z0, z1⟩ := hW; go_simp; omega) | (obtain ⟨z0, z1⟩ := hW; go_simp; exact IntWalk.i64_in _ (by omega)) | (obtain ⟨z0, z1⟩ := hW; go_simp; simp [*]; done)⟩) hS_2 ?_
      try simp only [Act.put, List.setIfInBounds_toArray, List.set_cons_zero, List.set_cons_succ]
      refine wpAnyK_one (i := 7) rfl rfl (by kernel_rfl) (fun K hK => ?_)
      go_simp
      refine hK.out _ _ (fun h => absurd rfl h) (fun _ => ?_)
      clear hK K
      try simp only [Act.put, List.setIfInBounds_toArray, List.set_cons_zero, List.set_cons_succ]
      refine wpAnyK_done (by kernel_rfl) ?_ _
      go_wp2_with fail
      go_loopw [3, 4] (fun v x wr => ∃ (i : Nat) (P : ByteArray), i ≤ m ∧ x = .int .i64 i ∧ v = .string P ∧ P.data.toList = (s.data.toList ++ [58, UInt8.ofNat (48 + n).toNat]) ++ txEL (l.take i) ∧ Lies wr w.heap.size 24 #[.int .i64 6, .int .i64 n, .string s, .slice A m c] ∧ Below w.heap.size w wr) (fun _ x _ => m - (intOf x).toNat)
      case atStart => exact ⟨0, _, by omega, rfl, rfl, by simp [txEL, ED.out], L8.out.below hb_2 L8.out.lt, HB8.out.trans (hb_2.mono HB8.out.size)⟩
      case round =>
        obtain ⟨i, P, hi, rfl, rfl, hP, l2, hbw⟩ := hrel
        have hbs := hbw.size
        have c3 := l2.cell 3
        simp at c3
        have hPs : P.size ≤ 2000 := by
          have h9 := congrArg List.length hP
          have h8 := txEL_take_le l i
          simp at h9
          omega
        have HP := Lib.hid hP
        clear hP
        by_cases hlt : i < m
        · have hia : i < l.length := by omega
          obtain ⟨g, o, B, b, ⟨hA, _⟩, d0, d1, d2, d3, hIn⟩ := EIn.part (EIn.below _ HI.out hbw (Nat.le_refl _)) i hia
          subst hA
          simp only [Te.parts] at d0 d1 d2 d3 hIn
          have hm5 := depthEL_mem l (l[i]'hia) (List.getElem_mem hia)
          have hm6 := sizeEL_mem l (l[i]'hia) (List.getElem_mem hia)
          have hsp := simpEL_mem l (l[i]'hia) (List.getElem_mem hia) HSP.out
          have HS := Lib.hid (txEL_take l i hia)
          obtain ⟨tr, hu⟩ : ∃ tr, tr = l[i]'hia := ⟨_, rfl⟩
          rw [← hu] at d0 d1 d2 d3 hIn HS hm5 hm6 hsp
          clear hu
          have hC := ih tr B b wr (by omega) (by omega) hsp hIn
          have htl := txE_len tr hsp
          obtain ⟨T, hT⟩ : ∃ T, T = txE tr := ⟨_, rfl⟩
          rw [← hT] at hC HS htl
          clear hT hsp
          obtain ⟨S, eS2, eS3, hS⟩ := str_is T
          rw [hS] at hC
          have HC := Lib.hid hC
          have ES2 := Lib.hid eS2
          obtain ⟨tk, tn, ts, tl⟩ := tr
          simp only [Te.kind, Te.n, Te.name] at d0 d1 d2 d3
          have L2 := Lib.hid l2
          have hSs : S.size ≤ 2000 := by omega
          have b1 : ¬ 9223372036854775807 < 1 + S.size := by omega
          have b2 : ¬ 9223372036854775807 < P.size + (1 + S.size) := by omega
          clear l2 hIn hC eS2 eS3 hS htl
          go_wp2_with fail
          refine HC.out.mono ?_
          rintro e w2 ⟨rfl, hb2⟩
          go_wp2_with fail
          go_roundw
          case rel =>
            refine ⟨i + 1, _, by omega, by go_num, rfl, ?_, L2.out.below hb2 L2.out.lt, hbw.trans (hb2.mono hbs)⟩
            rw [HS.out]
            simp [HP.out, ES2.out]
          case measure => simp [intOf]; omega
        · have b1 : ¬ 9223372036854775807 < 1 + P.size := by omega
          have b2 : ¬ 9223372036854775807 < 1 + P.size + 1 := by omega
          go_wp2_with fail
          go_ret
          refine ⟨?_, hbw⟩
          have hP := HP.out
          rw [List.take_of_length_le (by omega)] at hP
          rw [HE.out]
          show Ending.returned (Value.string _) = _
          congr 2
          apply ByteArray.ext
          apply Array.toList_inj.1
          simp [hP]
end Lx
end Go.Proofs.Ytcgiloccmehbeaa
