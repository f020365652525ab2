/-
  The document's answer for layer 11: Of.
-/
import Derived.Test.YtcefopaphaeejaaC10
import Derived.Test.YtcefopaphaeejaaC6
import Derived.Deep.RegionHeld3
import Derived.Deep.DrawnRows
namespace Go.Proofs.Ytcefopaphaeejaa
open Go Go.RowKit
namespace Lx
set_option maxRecDepth 100000
theorem own_some {W : World} {b n s : Nat} {e : TypeId} {v : Value} {xs : List Value} (h : W.ownsRow b e s v n xs) (hv : v ≠ .slice none 0 0) : ∃ g c, v = .slice (some ⟨g, 0, none⟩) n c := by
  rcases h.2 with ⟨rfl, _⟩ | ⟨g, cap, cur, rfl, _⟩
  · exact absurd rfl hv
  · exact ⟨g, cap, rfl⟩
theorem vI_app (xs ys : List Int) : vI (xs ++ ys) = vI xs ++ vI ys := by simp [vI]
theorem ofEL_take (l : List Te) (i : Nat) (h : i < l.length) : ofEL (l.take (i + 1)) = ofEL (l.take i) ++ ofE (l[i]'h) := by
  rw [List.take_succ_eq_append_getElem h]
  generalize l.take i = r
  induction r with
  | nil => simp [ofEL]
  | cons t r ih => simp only [List.cons_append, ofEL, ih, List.append_assoc]
theorem own_take (k n : Int) (l : List Te) (hl : 0 < l.length) (i : Nat) (h : i < toldN k n) : (ownE k n l).take (i + 1) = (ownE k n l).take i ++ [(usesE (l[0]'hl) (moreE k n - 1 - (i : Int)) : Int)] := by
  obtain ⟨t0, r, rfl⟩ := List.exists_cons_of_length_pos hl
  have hi : i < (ownE k n (t0 :: r)).length := by rw [ownE_len]; exact h
  rw [List.take_succ_eq_append_getElem hi]
  simp [ownE]
theorem own_none (k n : Int) (l : List Te) (h : k ≠ 2) (h6 : k ≠ 6) : ownE k n l = [] := by
  cases l with
  | nil => rfl
  | cons t r => rw [ownE, toldN, moreE, if_neg h, if_neg h6]; rfl
def GivesO (xs : List Int) (w : World) (e : Ending) (w' : World) : Prop :=
  ∃ g c, e = .returned (.slice (some ⟨g, 0, none⟩) xs.length c) ∧ w'.ownsRow w.heap.size 3 1 (.slice (some ⟨g, 0, none⟩) xs.length c) xs.length (vI xs) ∧ Below w.heap.size w w'
set_option maxHeartbeats 8000000 in
theorem rOf_any (d : Nat) : ∀ (t : Te) (A : Option Addr) (c : Nat) (w : World), depthE t ≤ d → d ≤ 4000 → sizeE t ≤ 1000000 → tameE 1099511627776 1099511627776 t → EIn w Any t A →
    Calls Try.prog 17 #[ev t A c] w (GivesO (ofE t) w) := by
  induction d with
  | zero => intro t A c w h; have := depthE_pos t; omega
  | succ d ih =>
    intro t A c w hd hd4 hs ht hI
    obtain ⟨k, n, s, l⟩ := t
    have hdL : depthEL l ≤ d := by rw [depthE] at hd; omega
    have hsL : sizeEL l ≤ 1000000 := by rw [sizeE] at hs; omega
    have hlen := sizeEL_len l
    rw [tameE] at ht
    have HN6 := Lib.hid ht.2.1
    have HT := Lib.hid ht.2.2
    obtain ⟨i0, hi0, hz0, hz1, hz2⟩ := info_parts infoI
    clear ht hd hs
    show Calls Try.prog 17 #[.agg #[.int .i64 k, .int .i64 n, .string s, .slice A l.length (capF l.length c)]] w _
    generalize capF l.length c = c
    obtain ⟨m, hm⟩ : ∃ m, m = l.length := ⟨_, rfl⟩
    rw [← hm]
    have hm1 : m ≤ l.length := by omega
    have hm2 : l.length ≤ m := by omega
    clear hm
    obtain ⟨W1, hW1⟩ : ∃ W, W = w.alloc (.cells #[.int .i64 k, .int .i64 n, .string s, .slice A m c] 24) := ⟨_, rfl⟩
    have HB1 : Hid (Below w.heap.size w W1) := Lib.hid (by rw [hW1]; exact (Below.refl _ w).alloc (Nat.le_refl _) _)
    have hs1 : W1.heap.size = w.heap.size + 1 := by rw [hW1]; simp
    have l0 : Lies W1 w.heap.size 24 #[.int .i64 k, .int .i64 n, .string s, .slice A m c] := by rw [hW1]; exact Lies.new w _ _
    have HL : Hid (W1.cell? ⟨w.heap.size, 0, none⟩ = some (.int .i64 k) ∧ W1.cell? ⟨w.heap.size, 1, none⟩ = some (.int .i64 n) ∧ W1.cell? ⟨w.heap.size, 2, none⟩ = some (.string s) ∧ W1.cell? ⟨w.heap.size, 3, none⟩ = some (.slice A m c)) := Lib.hid ⟨l0.cell 0, l0.cell 1, l0.cell 2, l0.cell 3⟩
    have HI := Lib.hid (EIn.below _ hI HB1.out (Nat.le_refl _))
    clear hI l0
    go_enter Try.func17, Try.ntmps17
    go_upto_region 2 with fail
    rw [← hW1]
    clear hW1
    have hr0 : (W1.alloc (.cells #[] 3)).ownsRow (w.heap.size + 1) 3 1 (.slice (some ⟨W1.heap.size, 0, none⟩) 0 0) 0 (vI []) := World.ownsRow_made W1 #[] 0 (by omega) (by simp [maxLen]) (by simp)
    have hb0 : Below (w.heap.size + 1) W1 (W1.alloc (.cells #[] 3)) := (Below.refl _ W1).alloc (by omega) _
    rw [hs1] at hr0
    generalize hV : W1.alloc (.cells #[] 3) = V at hr0 hb0 ⊢
    clear hV
    obtain ⟨g0, hg0⟩ : ∃ g, g = w.heap.size + 1 := ⟨_, rfl⟩
    rw [show (⟨w.heap.size + 1, 0, none⟩ : Addr) = ⟨g0, 0, none⟩ from by rw [hg0]] at hr0 ⊢
    clear hg0
    have hb0s := hb0.size
    have c0 := (hb0.cell (p := ⟨w.heap.size, 0, none⟩) (by show w.heap.size < _; omega)).trans HL.out.1
    have c3 := (hb0.cell (p := ⟨w.heap.size, 3, none⟩) (by show w.heap.size < _; omega)).trans HL.out.2.2.2
    by_cases hm0 : 0 < m
    · by_cases hk2 : k = 2
      · subst hk2
        have hl0 : 0 < l.length := by omega
        obtain ⟨g, o, A', c', ⟨hA, _⟩, d0, d1, d2, d3, hIn⟩ := EIn.part (EIn.below _ HI.out hb0 (by omega)) 0 hl0
        subst hA
        have hm3 := depthEL_mem l (l[0]'hl0) (List.getElem_mem hl0)
        have hm4 := sizeEL_mem l (l[0]'hl0) (List.getElem_mem hl0)
        have ht5 := tameEL_mem l (l[0]'hl0) (List.getElem_mem hl0) HT.out
        obtain ⟨us, hus⟩ : ∃ us, us = (usesE (l[0]'hl0) 0 : Int) := ⟨_, rfl⟩
        have HOW : Hid (ownE 2 n l = [us]) := Lib.hid (by
          rw [hus]
          obtain ⟨t0, r, rfl⟩ := List.exists_cons_of_length_pos hl0
          rw [ownE, show toldN 2 n = 1 from by simp [toldN, moreE], show moreE 2 n = 1 from by simp [moreE]]
          simp)
        simp only [Te.parts, Nat.zero_mul, Nat.add_zero] at d0 d1 d2 d3 hIn
        obtain ⟨tr, hu⟩ : ∃ tr, tr = l[0]'hl0 := ⟨_, rfl⟩
        rw [← hu] at d0 d1 d2 d3 hIn hm3 hm4 ht5 hus
        clear hu
        obtain ⟨tk, tn, ts, tl⟩ := tr
        simp only [Te.kind, Te.n, Te.name] at d0 d1 d2 d3
        have HUS : Hid (Calls Try.prog 29 #[.agg #[.int .i64 tk, .int .i64 tn, .string ts, .slice A' tl.length (capF tl.length c')], .int .i64 0] V fun e w' => e = .returned (.int .i64 us) ∧ Below V.heap.size V w') := Lib.hid (by
          rw [hus]; exact ruses_any (depthE (.node tk tn ts tl)) (.node tk tn ts tl) A' c' 0 V (Nat.le_refl _) (by omega) (by omega) ht5 (by omega) (by omega) hIn)
        clear hus hIn ht5
        go_wp2_with fail
        refine HUS.out.mono ?_
        rintro e u2 ⟨rfl, hq2⟩
        have hr2 := ownsRow_heap hr0 (fun q hq => hq2.block q (hr0.lt q hq).2)
        have hb2 : Below (w.heap.size + 1) W1 u2 := hb0.trans (hq2.mono (by omega))
        have hb2s := hb2.size
        clear d0 d1 d2 d3 c0 c3
        go_wp2_with (at_builtin; refine wpList_append_own _ rfl _ _ 30 rfl (w.heap.size + 1) 3 i0 (.int .i64 0) 1 8 Try.underlying30 hi0 hz0 hz1 hz2 rfl (by decide) _ _ _ rfl (hr2.alloc _) ⟨u2.heap.size, 0, none⟩ 1 1 [.int .i64 us] rfl rfl (cell_one_new _ _ _) (by simp [Value.oneCell']) (by simp only [maxLen]; omega) (by omega) (by first | omega | (simp; omega)) ?_; intro v1 y1 ho1 hg1 hv1; obtain ⟨g1, cap1, rfl⟩ := ownsRow_succ ho1)
        have hb4 : Below (w.heap.size + 1) W1 y1 := (hb2.alloc (by omega) _).grown hg1 (by simp; omega) (fun q hq => (hr2.lt q hq).1)
        go_loopw [3, 4] (fun v x wr => x = .int .i64 0 ∧ v = .slice (some ⟨g1, 0, none⟩) 1 cap1 ∧ wr = y1) (fun _ _ _ => 0)
        case atStart => exact ⟨rfl, rfl, rfl⟩
        case round =>
          obtain ⟨rfl, rfl, rfl⟩ := hrel
          have c0 := (hb4.cell (p := ⟨w.heap.size, 0, none⟩) (by show w.heap.size < _; omega)).trans HL.out.1
          have c1 := (hb4.cell (p := ⟨w.heap.size, 1, none⟩) (by show w.heap.size < _; omega)).trans HL.out.2.1
          have c3 := (hb4.cell (p := ⟨w.heap.size, 3, none⟩) (by show w.heap.size < _; omega)).trans HL.out.2.2.2
          by_cases hn0 : 0 < n
          · go_wp2_with fail
            clear c0 c1 c3
            have hro : wr.ownsRow (w.heap.size + 1) 3 1 (.slice (some ⟨g1, 0, none⟩) ([us] ++ ofEL (l.take 0)).length cap1) ([us] ++ ofEL (l.take 0)).length (vI ([us] ++ ofEL (l.take 0))) := by
              rw [List.take_zero, ofEL, List.append_nil]
              exact (show ([us]).length = 1 from by simp) ▸ ho1
            go_loopw [3, 5] (fun v x wr => ∃ (i gq cq : Nat), i ≤ m ∧ x = .int .i64 i ∧ v = .slice (some ⟨gq, 0, none⟩) ([us] ++ ofEL (l.take i)).length cq ∧ wr.ownsRow (w.heap.size + 1) 3 1 (.slice (some ⟨gq, 0, none⟩) ([us] ++ ofEL (l.take i)).length cq) ([us] ++ ofEL (l.take i)).length (vI ([us] ++ ofEL (l.take i))) ∧ Below (w.heap.size + 1) W1 wr) (fun _ x _ => m - (intOf x).toNat)
            case atStart => exact ⟨0, g1, cap1, Nat.zero_le _, rfl, by rw [List.take_zero, ofEL, List.append_nil, (show ([us]).length = 1 from by simp)], hro, hb4⟩
            case round =>
              obtain ⟨i, gq, cq, hi, rfl, rfl, hrq, hbq⟩ := hrel
              have hbs := hbq.size
              have c3 := (hbq.cell (p := ⟨w.heap.size, 3, none⟩) (by show w.heap.size < _; omega)).trans HL.out.2.2.2
              by_cases hlt : i < m
              · have hia : i < l.length := by omega
                obtain ⟨g, o, A', c', ⟨hA, _⟩, d0, d1, d2, d3, hIn⟩ := EIn.part (EIn.below _ HI.out hbq (by omega)) i hia
                cases hA
                have hm3 := depthEL_mem l (l[i]'hia) (List.getElem_mem hia)
                have hm4 := sizeEL_mem l (l[i]'hia) (List.getElem_mem hia)
                have ht5 := tameEL_mem l (l[i]'hia) (List.getElem_mem hia) HT.out
                have hq1 := ofEL_len (l.take i)
                have hq2 := sizeEL_take l i
                have hq3 := ofE_len (l[i]'hia)
                have HS : Hid ([us] ++ ofEL (l.take (i + 1)) = ([us] ++ ofEL (l.take i)) ++ ofE (l[i]'hia)) := Lib.hid (by rw [ofEL_take l i hia, List.append_assoc])
                simp only [Te.parts] at d0 d1 d2 d3 hIn
                obtain ⟨tr, hu⟩ : ∃ tr, tr = l[i]'hia := ⟨_, rfl⟩
                rw [← hu] at d0 d1 d2 d3 hIn hm3 hm4 HS ht5 hq3
                clear hu
                have hq4 : ([us] ++ ofEL (l.take i)).length ≤ 8 + 8 * sizeEL l := by simp only [List.length_append, List.length_cons, List.length_nil]; omega
                obtain ⟨ys, hys⟩ : ∃ ys, ys = [us] ++ ofEL (l.take i) := ⟨_, rfl⟩
                rw [← hys] at hrq HS hq4 ⊢
                clear hys
                obtain ⟨zs, hzs⟩ : ∃ zs, zs = ofE tr := ⟨_, rfl⟩
                have HZS := Lib.hid hzs
                rw [← hzs] at HS hq3
                clear hzs
                obtain ⟨tk, tn, ts, tl⟩ := tr
                simp only [Te.kind, Te.n, Te.name] at d0 d1 d2 d3
                have HIH : Hid (Calls Try.prog 17 #[.agg #[.int .i64 tk, .int .i64 tn, .string ts, .slice A' tl.length (capF tl.length c')]] wr (GivesO zs wr)) := Lib.hid (by rw [HZS.out]; exact ih (.node tk tn ts tl) A' c' wr (by omega) (by omega) (by omega) ht5 hIn)
                clear hIn ht5 hro
                go_wp2_with fail
                refine HIH.out.mono ?_
                rintro e u2 ⟨g2, c2, rfl, hr2, hb2⟩
                have hr3 := ownsRow_heap hrq (fun q hq => hb2.block q (hrq.lt q hq).2)
                have hb2s := hb2.size
                go_wp2_with (at_builtin; refine wpList_append_own _ rfl _ _ 30 rfl (w.heap.size + 1) 3 i0 (.int .i64 0) 1 8 Try.underlying30 hi0 hz0 hz1 hz2 rfl (by decide) _ _ _ rfl hr3 ⟨g2, 0, none⟩ zs.length c2 (vI zs) rfl (by simp [vI]) (hr2.cells (g := g2) rfl) (by simp [vI, Value.oneCell']) (by simp only [maxLen]; omega) (by omega) (by first | omega | (simp; omega)) ?_; intro v1 y1 ho1 hg1 hv1; obtain ⟨g1, cap1, rfl⟩ := own_some ho1 (fun e => by cases (hv1.1 e).1))
                have hb9 : Below (w.heap.size + 1) W1 y1 := (hbq.trans (hb2.mono (by omega))).grown hg1 (by omega) (fun q hq => (hrq.lt q hq).1)
                go_roundw
                case rel => exact ⟨i + 1, g1, cap1, by omega, by go_num, by rw [HS.out, List.length_append], by rw [HS.out, List.length_append, vI_app]; exact ho1, hb9⟩
                case measure => simp [intOf]; omega
              · go_wp2_with fail
                go_ret
                have hi9 : i = l.length := by omega
                have hE : ofE (.node 2 n s l) = [us] ++ ofEL (l.take i) := by rw [hi9, List.take_length, ofE, HOW.out]
                exact ⟨gq, cq, by rw [hE]; rfl, by rw [hE]; exact ownsRow_base hrq (by omega), HB1.out.trans (hbq.mono (by omega))⟩
          · go_wp2_with fail
            clear c0 c1 c3
            have hro : wr.ownsRow (w.heap.size + 1) 3 1 (.slice (some ⟨g1, 0, none⟩) ([us] ++ ofEL (l.take 0)).length cap1) ([us] ++ ofEL (l.take 0)).length (vI ([us] ++ ofEL (l.take 0))) := by
              rw [List.take_zero, ofEL, List.append_nil]
              exact (show ([us]).length = 1 from by simp) ▸ ho1
            go_loopw [3, 5] (fun v x wr => ∃ (i gq cq : Nat), i ≤ m ∧ x = .int .i64 i ∧ v = .slice (some ⟨gq, 0, none⟩) ([us] ++ ofEL (l.take i)).length cq ∧ wr.ownsRow (w.heap.size + 1) 3 1 (.slice (some ⟨gq, 0, none⟩) ([us] ++ ofEL (l.take i)).length cq) ([us] ++ ofEL (l.take i)).length (vI ([us] ++ ofEL (l.take i))) ∧ Below (w.heap.size + 1) W1 wr) (fun _ x _ => m - (intOf x).toNat)
            case atStart => exact ⟨0, g1, cap1, Nat.zero_le _, rfl, by rw [List.take_zero, ofEL, List.append_nil, (show ([us]).length = 1 from by simp)], hro, hb4⟩
            case round =>
              obtain ⟨i, gq, cq, hi, rfl, rfl, hrq, hbq⟩ := hrel
              have hbs := hbq.size
              have c3 := (hbq.cell (p := ⟨w.heap.size, 3, none⟩) (by show w.heap.size < _; omega)).trans HL.out.2.2.2
              by_cases hlt : i < m
              · have hia : i < l.length := by omega
                obtain ⟨g, o, A', c', ⟨hA, _⟩, d0, d1, d2, d3, hIn⟩ := EIn.part (EIn.below _ HI.out hbq (by omega)) i hia
                cases hA
                have hm3 := depthEL_mem l (l[i]'hia) (List.getElem_mem hia)
                have hm4 := sizeEL_mem l (l[i]'hia) (List.getElem_mem hia)
                have ht5 := tameEL_mem l (l[i]'hia) (List.getElem_mem hia) HT.out
                have hq1 := ofEL_len (l.take i)
                have hq2 := sizeEL_take l i
                have hq3 := ofE_len (l[i]'hia)
                have HS : Hid ([us] ++ ofEL (l.take (i + 1)) = ([us] ++ ofEL (l.take i)) ++ ofE (l[i]'hia)) := Lib.hid (by rw [ofEL_take l i hia, List.append_assoc])
                simp only [Te.parts] at d0 d1 d2 d3 hIn
                obtain ⟨tr, hu⟩ : ∃ tr, tr = l[i]'hia := ⟨_, rfl⟩
                rw [← hu] at d0 d1 d2 d3 hIn hm3 hm4 HS ht5 hq3
                clear hu
                have hq4 : ([us] ++ ofEL (l.take i)).length ≤ 8 + 8 * sizeEL l := by simp only [List.length_append, List.length_cons, List.length_nil]; omega
                obtain ⟨ys, hys⟩ : ∃ ys, ys = [us] ++ ofEL (l.take i) := ⟨_, rfl⟩
                rw [← hys] at hrq HS hq4 ⊢
                clear hys
                obtain ⟨zs, hzs⟩ : ∃ zs, zs = ofE tr := ⟨_, rfl⟩
                have HZS := Lib.hid hzs
                rw [← hzs] at HS hq3
                clear hzs
                obtain ⟨tk, tn, ts, tl⟩ := tr
                simp only [Te.kind, Te.n, Te.name] at d0 d1 d2 d3
                have HIH : Hid (Calls Try.prog 17 #[.agg #[.int .i64 tk, .int .i64 tn, .string ts, .slice A' tl.length (capF tl.length c')]] wr (GivesO zs wr)) := Lib.hid (by rw [HZS.out]; exact ih (.node tk tn ts tl) A' c' wr (by omega) (by omega) (by omega) ht5 hIn)
                clear hIn ht5 hro
                go_wp2_with fail
                refine HIH.out.mono ?_
                rintro e u2 ⟨g2, c2, rfl, hr2, hb2⟩
                have hr3 := ownsRow_heap hrq (fun q hq => hb2.block q (hrq.lt q hq).2)
                have hb2s := hb2.size
                go_wp2_with (at_builtin; refine wpList_append_own _ rfl _ _ 30 rfl (w.heap.size + 1) 3 i0 (.int .i64 0) 1 8 Try.underlying30 hi0 hz0 hz1 hz2 rfl (by decide) _ _ _ rfl hr3 ⟨g2, 0, none⟩ zs.length c2 (vI zs) rfl (by simp [vI]) (hr2.cells (g := g2) rfl) (by simp [vI, Value.oneCell']) (by simp only [maxLen]; omega) (by omega) (by first | omega | (simp; omega)) ?_; intro v1 y1 ho1 hg1 hv1; obtain ⟨g1, cap1, rfl⟩ := own_some ho1 (fun e => by cases (hv1.1 e).1))
                have hb9 : Below (w.heap.size + 1) W1 y1 := (hbq.trans (hb2.mono (by omega))).grown hg1 (by omega) (fun q hq => (hrq.lt q hq).1)
                go_roundw
                case rel => exact ⟨i + 1, g1, cap1, by omega, by go_num, by rw [HS.out, List.length_append], by rw [HS.out, List.length_append, vI_app]; exact ho1, hb9⟩
                case measure => simp [intOf]; omega
              · go_wp2_with fail
                go_ret
                have hi9 : i = l.length := by omega
                have hE : ofE (.node 2 n s l) = [us] ++ ofEL (l.take i) := by rw [hi9, List.take_length, ofE, HOW.out]
                exact ⟨gq, cq, by rw [hE]; rfl, by rw [hE]; exact ownsRow_base hrq (by omega), HB1.out.trans (hbq.mono (by omega))⟩
      · have hk3 : (k == 2) = false := by simpa using hk2
        by_cases hk6 : k = 6
        · subst hk6
          go_wp2_with fail
          clear c0 c3
          have hl0 : 0 < l.length := by omega
          obtain ⟨g, o, A', c', ⟨hA, _⟩, d0, d1, d2, d3, hIn⟩ := EIn.part HI.out 0 hl0
          subst hA
          have hm3 := depthEL_mem l (l[0]'hl0) (List.getElem_mem hl0)
          have hm4 := sizeEL_mem l (l[0]'hl0) (List.getElem_mem hl0)
          have ht5 := tameEL_mem l (l[0]'hl0) (List.getElem_mem hl0) HT.out
          have hn6 := HN6.out (by simp)
          have HSU0 : Hid (∀ i : Nat, i < toldN 6 n → (ownE 6 n l).take (i + 1) = (ownE 6 n l).take i ++ [(usesE (l[0]'hl0) (n - 1 - (i : Int)) : Int)]) := Lib.hid (fun (i : Nat) (h : i < toldN 6 n) => by have := own_take 6 n l hl0 i h; rwa [show moreE 6 n = n from by simp [moreE]] at this)
          have hol : (ownE 6 n l).length = toldN 6 n := by
            obtain ⟨t0, r, rfl⟩ := List.exists_cons_of_length_pos hl0
            exact ownE_len _ _ _ _
          simp only [Te.parts, Nat.zero_mul, Nat.add_zero] at d0 d1 d2 d3 hIn
          obtain ⟨tr, hu⟩ : ∃ tr, tr = l[0]'hl0 := ⟨_, rfl⟩
          rw [← hu] at d0 d1 d2 d3 hIn hm3 hm4 HSU0 ht5
          clear hu
          obtain ⟨tk, tn, ts, tl⟩ := tr
          simp only [Te.kind, Te.n, Te.name] at d0 d1 d2 d3
          have hgW : g < (w.heap.size + 1) := by rw [← hs1]; exact cell_lt d0
          have HD := Lib.hid (And.intro d0 (And.intro d1 (And.intro d2 d3)))
          have HIn := Lib.hid hIn
          have HT5 := Lib.hid ht5
          clear d0 d1 d2 d3 hIn ht5
          have htn : toldN 6 n = min n.toNat 8 := by rw [toldN, show moreE 6 n = n from by simp [moreE]]
          go_loopw [3, 4] (fun v x wr => ∃ (i gr cr : Nat), i ≤ toldN 6 n ∧ x = .int .i64 i ∧ v = .slice (some ⟨gr, 0, none⟩) i cr ∧ wr.ownsRow (w.heap.size + 1) 3 1 (.slice (some ⟨gr, 0, none⟩) i cr) i (vI ((ownE 6 n l).take i)) ∧ Below (w.heap.size + 1) W1 wr) (fun _ x _ => 8 - (intOf x).toNat)
          case atStart => exact ⟨0, g0, 0, Nat.zero_le _, rfl, rfl, by rw [List.take_zero]; exact hr0, hb0⟩
          case round =>
            obtain ⟨i, gr, cr, hi, rfl, rfl, hrr, hbr⟩ := hrel
            have hbrs := hbr.size
            have c0 := (hbr.cell (p := ⟨w.heap.size, 0, none⟩) (by show w.heap.size < _; omega)).trans HL.out.1
            have c1 := (hbr.cell (p := ⟨w.heap.size, 1, none⟩) (by show w.heap.size < _; omega)).trans HL.out.2.1
            have c3 := (hbr.cell (p := ⟨w.heap.size, 3, none⟩) (by show w.heap.size < _; omega)).trans HL.out.2.2.2
            by_cases hin : (i : Int) < n
            · by_cases hi8 : i < 8
              · have hit : i < toldN 6 n := by omega
                have HSU := Lib.hid (HSU0.out i hit)
                obtain ⟨us, hus⟩ : ∃ us, us = (usesE (.node tk tn ts tl) (n - 1 - (i : Int)) : Int) := ⟨_, rfl⟩
                rw [← hus] at HSU
                have HUS : Hid (∀ X, Below (w.heap.size + 1) W1 X → Calls Try.prog 29 #[.agg #[.int .i64 tk, .int .i64 tn, .string ts, .slice A' tl.length (capF tl.length c')], .int .i64 (n - 1 - i)] X fun e w' => e = .returned (.int .i64 us) ∧ Below X.heap.size X w') := Lib.hid fun X hX => by
                  rw [hus]; exact ruses_any (depthE (.node tk tn ts tl)) (.node tk tn ts tl) A' c' (n - 1 - i) X (Nat.le_refl _) (by omega) (by omega) HT5.out (by omega) (by omega) (EIn.below _ HIn.out hX (by omega))
                clear hus
                go_upto_region 7 with fail
                clear c0 c1 c3
                have HS7 : Hid (∀ V', Below (w.heap.size + 1) W1 V' → (fun V' : World => (V'.cell? ⟨w.heap.size, 0, none⟩ = some (.int .i64 6) ∧ V'.cell? ⟨w.heap.size, 1, none⟩ = some (.int .i64 n) ∧ V'.cell? ⟨w.heap.size, 2, none⟩ = some (.string s) ∧ V'.cell? ⟨w.heap.size, 3, none⟩ = some (.slice (some ⟨g, o, none⟩) m c) ∧ V'.cell? ⟨g, o, none⟩ = some (.int .i64 tk) ∧ V'.cell? ⟨g, o + 1, none⟩ = some (.int .i64 tn) ∧ V'.cell? ⟨g, o + 2, none⟩ = some (.string ts) ∧ V'.cell? ⟨g, o + 3, none⟩ = some (.slice A' tl.length (capF tl.length c')))) V') := Lib.hid fun V' h =>
                  ⟨(h.cell (p := ⟨w.heap.size, 0, none⟩) (by show w.heap.size < _; omega)).trans HL.out.1, (h.cell (p := ⟨w.heap.size, 1, none⟩) (by show w.heap.size < _; omega)).trans HL.out.2.1, (h.cell (p := ⟨w.heap.size, 2, none⟩) (by show w.heap.size < _; omega)).trans HL.out.2.2.1, (h.cell (p := ⟨w.heap.size, 3, none⟩) (by show w.heap.size < _; omega)).trans HL.out.2.2.2,
                    (h.cell (p := ⟨g, _, none⟩) hgW).trans HD.out.1, (h.cell (p := ⟨g, _, none⟩) hgW).trans HD.out.2.1, (h.cell (p := ⟨g, _, none⟩) hgW).trans HD.out.2.2.1, (h.cell (p := ⟨g, _, none⟩) hgW).trans HD.out.2.2.2⟩
                refine wp_region_held_drew (S := (fun V' : World => (V'.cell? ⟨w.heap.size, 0, none⟩ = some (.int .i64 6) ∧ V'.cell? ⟨w.heap.size, 1, none⟩ = some (.int .i64 n) ∧ V'.cell? ⟨w.heap.size, 2, none⟩ = some (.string s) ∧ V'.cell? ⟨w.heap.size, 3, none⟩ = some (.slice (some ⟨g, o, none⟩) m c) ∧ V'.cell? ⟨g, o, none⟩ = some (.int .i64 tk) ∧ V'.cell? ⟨g, o + 1, none⟩ = some (.int .i64 tn) ∧ V'.cell? ⟨g, o + 2, none⟩ = some (.string ts) ∧ V'.cell? ⟨g, o + 3, none⟩ = some (.slice A' tl.length (capF tl.length c'))))) rfl (HS7.out _ hbr.drew) (fun hSs => ?_)
                change wpAnyH _ _ _ _ _ 14 (Array.replicate 14 false) _ _
                try simp only [Act.put, List.setIfInBounds_toArray, List.set_cons_zero, List.set_cons_succ]
                refine wpAnyH_take (i := 0) (oi := ⟨some 45, _, _, _, _, _⟩) (v := .slice (some ⟨gr, 0, none⟩) i cr) rfl (by kernel_rfl) (by kernel_rfl) (by kernel_rfl) (fun _ _ _ h => h) (.inl ⟨by kernel_rfl, fun W hW => by kernel_rfl⟩) hSs ?_
                try simp only [Act.put, List.setIfInBounds_toArray, List.set_cons_zero, List.set_cons_succ]
                refine wpAnyH_take (i := 1) (oi := ⟨some 46, _, _, _, _, _⟩) (v := .pointer (some ⟨w.heap.size, 3, none⟩)) rfl (by kernel_rfl) (by kernel_rfl) (by kernel_rfl) (fun _ _ _ h => h) (.inl ⟨by kernel_rfl, fun W hW => by first | (obtain ⟨z0, z1, z2, z3, z4, z5, z6, z7⟩ := hW; go_simp; done) | (obtain ⟨z0, z1, z2, z3, z4, z5, z6, z7⟩ := hW; go_simp; omega) | (obtain ⟨z0, z1, z2, z3, z4, z5, z6, z7⟩ := hW; go_simp; exact IntWalk.i64_in _ (by omega)) | (obtain ⟨z0, z1, z2, z3, z4, z5, z6, z7⟩ := hW; go_simp; simp [*]; done)⟩) hSs ?_
                try simp only [Act.put, List.setIfInBounds_toArray, List.set_cons_zero, List.set_cons_succ]
                refine wpAnyH_take (i := 2) (oi := ⟨some 47, _, _, _, _, _⟩) (v := .slice (some ⟨g, o, none⟩) m c) rfl (by kernel_rfl) (by kernel_rfl) (by kernel_rfl) (fun _ _ _ h => h) (.inl ⟨by kernel_rfl, fun W hW => by first | (obtain ⟨z0, z1, z2, z3, z4, z5, z6, z7⟩ := hW; go_simp; done) | (obtain ⟨z0, z1, z2, z3, z4, z5, z6, z7⟩ := hW; go_simp; omega) | (obtain ⟨z0, z1, z2, z3, z4, z5, z6, z7⟩ := hW; go_simp; exact IntWalk.i64_in _ (by omega)) | (obtain ⟨z0, z1, z2, z3, z4, z5, z6, z7⟩ := hW; go_simp; simp [*]; done)⟩) hSs ?_
                try simp only [Act.put, List.setIfInBounds_toArray, List.set_cons_zero, List.set_cons_succ]
                refine wpAnyH_take (i := 3) (oi := ⟨some 48, _, _, _, _, _⟩) (v := .pointer (some ⟨g, o, none⟩)) rfl (by kernel_rfl) (by kernel_rfl) (by kernel_rfl) (fun _ _ _ h => h) (.inl ⟨by kernel_rfl, fun W hW => by first | (obtain ⟨z0, z1, z2, z3, z4, z5, z6, z7⟩ := hW; go_simp; done) | (obtain ⟨z0, z1, z2, z3, z4, z5, z6, z7⟩ := hW; go_simp; omega) | (obtain ⟨z0, z1, z2, z3, z4, z5, z6, z7⟩ := hW; go_simp; exact IntWalk.i64_in _ (by omega)) | (obtain ⟨z0, z1, z2, z3, z4, z5, z6, z7⟩ := hW; go_simp; simp [*]; done)⟩) hSs ?_
                try simp only [Act.put, List.setIfInBounds_toArray, List.set_cons_zero, List.set_cons_succ]
                refine wpAnyH_take (i := 4) (oi := ⟨some 49, _, _, _, _, _⟩) (v := (.agg #[.int .i64 tk, .int .i64 tn, .string ts, .slice A' tl.length (capF tl.length c')])) rfl (by kernel_rfl) (by kernel_rfl) (by kernel_rfl) (fun _ _ _ h => h) (.inl ⟨by kernel_rfl, fun W hW => by first | (obtain ⟨z0, z1, z2, z3, z4, z5, z6, z7⟩ := hW; go_simp; done) | (obtain ⟨z0, z1, z2, z3, z4, z5, z6, z7⟩ := hW; go_simp; omega) | (obtain ⟨z0, z1, z2, z3, z4, z5, z6, z7⟩ := hW; go_simp; exact IntWalk.i64_in _ (by omega)) | (obtain ⟨z0, z1, z2, z3, z4, z5, z6, z7⟩ := hW; go_simp; simp [*]; done)⟩) hSs ?_
                try simp only [Act.put, List.setIfInBounds_toArray, List.set_cons_zero, List.set_cons_succ]
                refine wpAnyH_take (i := 5) (oi := ⟨some 50, _, _, _, _, _⟩) (v := .pointer (some ⟨w.heap.size, 1, none⟩)) rfl (by kernel_rfl) (by kernel_rfl) (by kernel_rfl) (fun _ _ _ h => h) (.inl ⟨by kernel_rfl, fun W hW => by first | (obtain ⟨z0, z1, z2, z3, z4, z5, z6, z7⟩ := hW; go_simp; done) | (obtain ⟨z0, z1, z2, z3, z4, z5, z6, z7⟩ := hW; go_simp; omega) | (obtain ⟨z0, z1, z2, z3, z4, z5, z6, z7⟩ := hW; go_simp; exact IntWalk.i64_in _ (by omega)) | (obtain ⟨z0, z1, z2, z3, z4, z5, z6, z7⟩ := hW; go_simp; simp [*]; done)⟩) hSs ?_
                try simp only [Act.put, List.setIfInBounds_toArray, List.set_cons_zero, List.set_cons_succ]
                refine wpAnyH_take (i := 6) (oi := ⟨some 51, _, _, _, _, _⟩) (v := .int .i64 n) rfl (by kernel_rfl) (by kernel_rfl) (by kernel_rfl) (fun _ _ _ h => h) (.inl ⟨by kernel_rfl, fun W hW => by first | (obtain ⟨z0, z1, z2, z3, z4, z5, z6, z7⟩ := hW; go_simp; done) | (obtain ⟨z0, z1, z2, z3, z4, z5, z6, z7⟩ := hW; go_simp; omega) | (obtain ⟨z0, z1, z2, z3, z4, z5, z6, z7⟩ := hW; go_simp; exact IntWalk.i64_in _ (by omega)) | (obtain ⟨z0, z1, z2, z3, z4, z5, z6, z7⟩ := hW; go_simp; simp [*]; done)⟩) hSs ?_
                try simp only [Act.put, List.setIfInBounds_toArray, List.set_cons_zero, List.set_cons_succ]
                refine wpAnyH_take (i := 7) (oi := ⟨some 52, _, _, _, _, _⟩) (v := .int .i64 (n - 1)) rfl (by kernel_rfl) (by kernel_rfl) (by kernel_rfl) (fun _ _ _ h => h) (.inl ⟨by kernel_rfl, fun W hW => by first | (obtain ⟨z0, z1, z2, z3, z4, z5, z6, z7⟩ := hW; go_simp; done) | (obtain ⟨z0, z1, z2, z3, z4, z5, z6, z7⟩ := hW; go_simp; omega) | (obtain ⟨z0, z1, z2, z3, z4, z5, z6, z7⟩ := hW; go_simp; exact IntWalk.i64_in _ (by omega)) | (obtain ⟨z0, z1, z2, z3, z4, z5, z6, z7⟩ := hW; go_simp; simp [*]; done)⟩) hSs ?_
                try simp only [Act.put, List.setIfInBounds_toArray, List.set_cons_zero, List.set_cons_succ]
                refine wpAnyH_take (i := 8) (oi := ⟨some 53, _, _, _, _, _⟩) (v := .int .i64 i) rfl (by kernel_rfl) (by kernel_rfl) (by kernel_rfl) (fun _ _ _ h => h) (.inl ⟨by kernel_rfl, fun W hW => by kernel_rfl⟩) hSs ?_
                try simp only [Act.put, List.setIfInBounds_toArray, List.set_cons_zero, List.set_cons_succ]
                refine wpAnyH_take (i := 9) (oi := ⟨some 54, _, _, _, _, _⟩) (v := .int .i64 (n - 1 - i)) rfl (by kernel_rfl) (by kernel_rfl) (by kernel_rfl) (fun _ _ _ h => h) (.inl ⟨by kernel_rfl, fun W hW => by first | (obtain ⟨z0, z1, z2, z3, z4, z5, z6, z7⟩ := hW; go_simp; done) | (obtain ⟨z0, z1, z2, z3, z4, z5, z6, z7⟩ := hW; go_simp; omega) | (obtain ⟨z0, z1, z2, z3, z4, z5, z6, z7⟩ := hW; go_simp; exact IntWalk.i64_in _ (by omega)) | (obtain ⟨z0, z1, z2, z3, z4, z5, z6, z7⟩ := hW; go_simp; simp [*]; done)⟩) hSs ?_
                try simp only [Act.put, List.setIfInBounds_toArray, List.set_cons_zero, List.set_cons_succ]
                refine wpAnyH_ready (rs := [10]) (by kernel_rfl) (by simp) (AllReadyH.cons rfl (fun K hK => ?_) AllReadyH.nil)
                go_simp
                refine (HUS.out _ hbr.drew).mono ?_
                rintro e u2 ⟨rfl, hq2⟩
                have hb2 : Below (w.heap.size + 1) W1 u2 := hbr.drew.trans (hq2.mono (by have := hbr.drew.size; omega))
                have hrr2 := ownsRow_heap hrr (fun q hq => hq2.block q (by have := (hrr.lt q hq).2; simpa using this))
                have hu2 : W1.heap.size ≤ u2.heap.size := hb2.size
                refine hK.out _ _ (HS7.out _ hb2) (fun hS2 => ?_)
                clear hK K
                try simp only [Act.put, List.setIfInBounds_toArray, List.set_cons_zero, List.set_cons_succ]
                refine wpAnyH_ready (rs := [11]) (by kernel_rfl) (by simp) (AllReadyH.cons rfl (fun K hK => ?_) AllReadyH.nil)
                go_simp
                have hb3 : Below (w.heap.size + 1) W1 (u2.alloc (.cells #[.int .i64 us] 3)) := hb2.alloc (by omega) _
                refine hK.out _ _ (HS7.out _ hb3) (fun hS3 => ?_)
                clear hK K
                try simp only [Act.put, List.setIfInBounds_toArray, List.set_cons_zero, List.set_cons_succ]
                refine wpAnyH_ready (rs := [12]) (by kernel_rfl) (by simp) (AllReadyH.cons rfl (fun K hK => ?_) AllReadyH.nil)
                refine wp_append_own _ _ _ 30 rfl (w.heap.size + 1) 3 i0 (.int .i64 0) 1 8 Try.underlying30 hi0 hz0 hz1 hz2 rfl (by decide) (.slice (some ⟨gr, 0, none⟩) i cr) i (vI ((ownE 6 n l).take i)) rfl (hrr2.alloc _) ⟨u2.heap.size, 0, none⟩ 1 1 [.int .i64 us] rfl rfl (cell_one_new _ _ _) (by simp [Value.oneCell']) (by simp only [maxLen]; omega) (by omega) (by simp; omega) ?_
                intro v1 y1 ho1 hg1 hv1
                obtain ⟨g1, cap1, rfl⟩ := ownsRow_succ ho1
                have hb4 : Below (w.heap.size + 1) W1 y1 := hb3.grown hg1 (by simp; omega) (fun q hq => (hrr2.lt q hq).1)
                refine hK.out _ _ (HS7.out _ hb4) (fun hS4 => ?_)
                clear hK K
                try simp only [Act.put, List.setIfInBounds_toArray]
                refine wpAnyH_take (i := 13) (oi := ⟨some 3, _, _, _, _, _⟩) (v := .slice (some ⟨g1, 0, none⟩) (i + 1) cap1) rfl (by kernel_rfl) (by kernel_rfl) (by kernel_rfl) (fun _ _ _ h => h) (.inl ⟨by kernel_rfl, fun W hW => by kernel_rfl⟩) hS4 ?_
                try simp only [Act.put]
                refine wpAnyH_done (by kernel_rfl) ?_ _
                go_wp2_with fail
                go_roundw
                case rel => exact ⟨i + 1, g1, cap1, by omega, by go_num, rfl, by rw [HSU.out, vI_snoc]; exact ho1, hb4⟩
                case measure => simp [intOf]; omega
              · go_wp2_with fail
                clear c0 c1 c3
                have hte : i = toldN 6 n := by omega
                have hlo : ((ownE 6 n l).take i).length = i := by rw [List.length_take]; omega
                have how : ownE 6 n l = (ownE 6 n l).take i := by rw [List.take_of_length_le (by omega)]
                obtain ⟨ow, how2⟩ : ∃ ow, ow = (ownE 6 n l).take i := ⟨_, rfl⟩
                rw [← how2] at hlo how hrr
                have HOW := Lib.hid how
                have hi89 : i ≤ 8 := by omega
                clear how how2 hte htn
                have hro : wr.ownsRow (w.heap.size + 1) 3 1 (.slice (some ⟨gr, 0, none⟩) (ow ++ ofEL (l.take 0)).length cr) (ow ++ ofEL (l.take 0)).length (vI (ow ++ ofEL (l.take 0))) := by
                  rw [List.take_zero, ofEL, List.append_nil]
                  exact hlo ▸ hrr
                go_loopw [3, 5] (fun v x wr => ∃ (i gq cq : Nat), i ≤ m ∧ x = .int .i64 i ∧ v = .slice (some ⟨gq, 0, none⟩) (ow ++ ofEL (l.take i)).length cq ∧ wr.ownsRow (w.heap.size + 1) 3 1 (.slice (some ⟨gq, 0, none⟩) (ow ++ ofEL (l.take i)).length cq) (ow ++ ofEL (l.take i)).length (vI (ow ++ ofEL (l.take i))) ∧ Below (w.heap.size + 1) W1 wr) (fun _ x _ => m - (intOf x).toNat)
                case atStart => exact ⟨0, gr, cr, Nat.zero_le _, rfl, by rw [List.take_zero, ofEL, List.append_nil, hlo], hro, hbr⟩
                case round =>
                  obtain ⟨i, gq, cq, hi, rfl, rfl, hrq, hbq⟩ := hrel
                  have hbs := hbq.size
                  have c3 := (hbq.cell (p := ⟨w.heap.size, 3, none⟩) (by show w.heap.size < _; omega)).trans HL.out.2.2.2
                  by_cases hlt : i < m
                  · have hia : i < l.length := by omega
                    obtain ⟨g, o, A', c', ⟨hA, _⟩, d0, d1, d2, d3, hIn⟩ := EIn.part (EIn.below _ HI.out hbq (by omega)) i hia
                    cases hA
                    have hm3 := depthEL_mem l (l[i]'hia) (List.getElem_mem hia)
                    have hm4 := sizeEL_mem l (l[i]'hia) (List.getElem_mem hia)
                    have ht5 := tameEL_mem l (l[i]'hia) (List.getElem_mem hia) HT.out
                    have hq1 := ofEL_len (l.take i)
                    have hq2 := sizeEL_take l i
                    have hq3 := ofE_len (l[i]'hia)
                    have HS : Hid (ow ++ ofEL (l.take (i + 1)) = (ow ++ ofEL (l.take i)) ++ ofE (l[i]'hia)) := Lib.hid (by rw [ofEL_take l i hia, List.append_assoc])
                    simp only [Te.parts] at d0 d1 d2 d3 hIn
                    obtain ⟨tr, hu⟩ : ∃ tr, tr = l[i]'hia := ⟨_, rfl⟩
                    rw [← hu] at d0 d1 d2 d3 hIn hm3 hm4 HS ht5 hq3
                    clear hu
                    have hq4 : (ow ++ ofEL (l.take i)).length ≤ 8 + 8 * sizeEL l := by simp only [List.length_append]; omega
                    obtain ⟨ys, hys⟩ : ∃ ys, ys = ow ++ ofEL (l.take i) := ⟨_, rfl⟩
                    rw [← hys] at hrq HS hq4 ⊢
                    clear hys
                    obtain ⟨zs, hzs⟩ : ∃ zs, zs = ofE tr := ⟨_, rfl⟩
                    have HZS := Lib.hid hzs
                    rw [← hzs] at HS hq3
                    clear hzs
                    obtain ⟨tk, tn, ts, tl⟩ := tr
                    simp only [Te.kind, Te.n, Te.name] at d0 d1 d2 d3
                    have HIH : Hid (Calls Try.prog 17 #[.agg #[.int .i64 tk, .int .i64 tn, .string ts, .slice A' tl.length (capF tl.length c')]] wr (GivesO zs wr)) := Lib.hid (by rw [HZS.out]; exact ih (.node tk tn ts tl) A' c' wr (by omega) (by omega) (by omega) ht5 hIn)
                    clear hIn ht5 hro
                    go_wp2_with fail
                    refine HIH.out.mono ?_
                    rintro e u2 ⟨g2, c2, rfl, hr2, hb2⟩
                    have hr3 := ownsRow_heap hrq (fun q hq => hb2.block q (hrq.lt q hq).2)
                    have hb2s := hb2.size
                    go_wp2_with (at_builtin; refine wpList_append_own _ rfl _ _ 30 rfl (w.heap.size + 1) 3 i0 (.int .i64 0) 1 8 Try.underlying30 hi0 hz0 hz1 hz2 rfl (by decide) _ _ _ rfl hr3 ⟨g2, 0, none⟩ zs.length c2 (vI zs) rfl (by simp [vI]) (hr2.cells (g := g2) rfl) (by simp [vI, Value.oneCell']) (by simp only [maxLen]; omega) (by omega) (by first | omega | (simp; omega)) ?_; intro v1 y1 ho1 hg1 hv1; obtain ⟨g1, cap1, rfl⟩ := own_some ho1 (fun e => by cases (hv1.1 e).1))
                    have hb9 : Below (w.heap.size + 1) W1 y1 := (hbq.trans (hb2.mono (by omega))).grown hg1 (by omega) (fun q hq => (hrq.lt q hq).1)
                    go_roundw
                    case rel => exact ⟨i + 1, g1, cap1, by omega, by go_num, by rw [HS.out, List.length_append], by rw [HS.out, List.length_append, vI_app]; exact ho1, hb9⟩
                    case measure => simp [intOf]; omega
                  · go_wp2_with fail
                    go_ret
                    have hi9 : i = l.length := by omega
                    have hE : ofE (.node 6 n s l) = ow ++ ofEL (l.take i) := by rw [hi9, List.take_length, ofE, HOW.out]
                    exact ⟨gq, cq, by rw [hE]; rfl, by rw [hE]; exact ownsRow_base hrq (by omega), HB1.out.trans (hbq.mono (by omega))⟩
            · go_wp2_with fail
              clear c0 c1 c3
              have hte : i = toldN 6 n := by omega
              have hlo : ((ownE 6 n l).take i).length = i := by rw [List.length_take]; omega
              have how : ownE 6 n l = (ownE 6 n l).take i := by rw [List.take_of_length_le (by omega)]
              obtain ⟨ow, how2⟩ : ∃ ow, ow = (ownE 6 n l).take i := ⟨_, rfl⟩
              rw [← how2] at hlo how hrr
              have HOW := Lib.hid how
              have hi89 : i ≤ 8 := by omega
              clear how how2 hte htn
              have hro : wr.ownsRow (w.heap.size + 1) 3 1 (.slice (some ⟨gr, 0, none⟩) (ow ++ ofEL (l.take 0)).length cr) (ow ++ ofEL (l.take 0)).length (vI (ow ++ ofEL (l.take 0))) := by
                rw [List.take_zero, ofEL, List.append_nil]
                exact hlo ▸ hrr
              go_loopw [3, 5] (fun v x wr => ∃ (i gq cq : Nat), i ≤ m ∧ x = .int .i64 i ∧ v = .slice (some ⟨gq, 0, none⟩) (ow ++ ofEL (l.take i)).length cq ∧ wr.ownsRow (w.heap.size + 1) 3 1 (.slice (some ⟨gq, 0, none⟩) (ow ++ ofEL (l.take i)).length cq) (ow ++ ofEL (l.take i)).length (vI (ow ++ ofEL (l.take i))) ∧ Below (w.heap.size + 1) W1 wr) (fun _ x _ => m - (intOf x).toNat)
              case atStart => exact ⟨0, gr, cr, Nat.zero_le _, rfl, by rw [List.take_zero, ofEL, List.append_nil, hlo], hro, hbr⟩
              case round =>
                obtain ⟨i, gq, cq, hi, rfl, rfl, hrq, hbq⟩ := hrel
                have hbs := hbq.size
                have c3 := (hbq.cell (p := ⟨w.heap.size, 3, none⟩) (by show w.heap.size < _; omega)).trans HL.out.2.2.2
                by_cases hlt : i < m
                · have hia : i < l.length := by omega
                  obtain ⟨g, o, A', c', ⟨hA, _⟩, d0, d1, d2, d3, hIn⟩ := EIn.part (EIn.below _ HI.out hbq (by omega)) i hia
                  cases hA
                  have hm3 := depthEL_mem l (l[i]'hia) (List.getElem_mem hia)
                  have hm4 := sizeEL_mem l (l[i]'hia) (List.getElem_mem hia)
                  have ht5 := tameEL_mem l (l[i]'hia) (List.getElem_mem hia) HT.out
                  have hq1 := ofEL_len (l.take i)
                  have hq2 := sizeEL_take l i
                  have hq3 := ofE_len (l[i]'hia)
                  have HS : Hid (ow ++ ofEL (l.take (i + 1)) = (ow ++ ofEL (l.take i)) ++ ofE (l[i]'hia)) := Lib.hid (by rw [ofEL_take l i hia, List.append_assoc])
                  simp only [Te.parts] at d0 d1 d2 d3 hIn
                  obtain ⟨tr, hu⟩ : ∃ tr, tr = l[i]'hia := ⟨_, rfl⟩
                  rw [← hu] at d0 d1 d2 d3 hIn hm3 hm4 HS ht5 hq3
                  clear hu
                  have hq4 : (ow ++ ofEL (l.take i)).length ≤ 8 + 8 * sizeEL l := by simp only [List.length_append]; omega
                  obtain ⟨ys, hys⟩ : ∃ ys, ys = ow ++ ofEL (l.take i) := ⟨_, rfl⟩
                  rw [← hys] at hrq HS hq4 ⊢
                  clear hys
                  obtain ⟨zs, hzs⟩ : ∃ zs, zs = ofE tr := ⟨_, rfl⟩
                  have HZS := Lib.hid hzs
                  rw [← hzs] at HS hq3
                  clear hzs
                  obtain ⟨tk, tn, ts, tl⟩ := tr
                  simp only [Te.kind, Te.n, Te.name] at d0 d1 d2 d3
                  have HIH : Hid (Calls Try.prog 17 #[.agg #[.int .i64 tk, .int .i64 tn, .string ts, .slice A' tl.length (capF tl.length c')]] wr (GivesO zs wr)) := Lib.hid (by rw [HZS.out]; exact ih (.node tk tn ts tl) A' c' wr (by omega) (by omega) (by omega) ht5 hIn)
                  clear hIn ht5 hro
                  go_wp2_with fail
                  refine HIH.out.mono ?_
                  rintro e u2 ⟨g2, c2, rfl, hr2, hb2⟩
                  have hr3 := ownsRow_heap hrq (fun q hq => hb2.block q (hrq.lt q hq).2)
                  have hb2s := hb2.size
                  go_wp2_with (at_builtin; refine wpList_append_own _ rfl _ _ 30 rfl (w.heap.size + 1) 3 i0 (.int .i64 0) 1 8 Try.underlying30 hi0 hz0 hz1 hz2 rfl (by decide) _ _ _ rfl hr3 ⟨g2, 0, none⟩ zs.length c2 (vI zs) rfl (by simp [vI]) (hr2.cells (g := g2) rfl) (by simp [vI, Value.oneCell']) (by simp only [maxLen]; omega) (by omega) (by first | omega | (simp; omega)) ?_; intro v1 y1 ho1 hg1 hv1; obtain ⟨g1, cap1, rfl⟩ := own_some ho1 (fun e => by cases (hv1.1 e).1))
                  have hb9 : Below (w.heap.size + 1) W1 y1 := (hbq.trans (hb2.mono (by omega))).grown hg1 (by omega) (fun q hq => (hrq.lt q hq).1)
                  go_roundw
                  case rel => exact ⟨i + 1, g1, cap1, by omega, by go_num, by rw [HS.out, List.length_append], by rw [HS.out, List.length_append, vI_app]; exact ho1, hb9⟩
                  case measure => simp [intOf]; omega
                · go_wp2_with fail
                  go_ret
                  have hi9 : i = l.length := by omega
                  have hE : ofE (.node 6 n s l) = ow ++ ofEL (l.take i) := by rw [hi9, List.take_length, ofE, HOW.out]
                  exact ⟨gq, cq, by rw [hE]; rfl, by rw [hE]; exact ownsRow_base hrq (by omega), HB1.out.trans (hbq.mono (by omega))⟩
        · have hk7 : (k == 6) = false := by simpa using hk6
          have HOW : Hid (ownE k n l = []) := Lib.hid (own_none k n l hk2 hk6)
          go_wp2_with fail
          clear c0 c3
          go_loopw [3, 4] (fun v x wr => x = .int .i64 0 ∧ v = .slice (some ⟨g0, 0, none⟩) 0 0 ∧ wr = V) (fun _ _ _ => 0)
          case atStart => exact ⟨rfl, rfl, rfl⟩
          case round =>
            obtain ⟨rfl, rfl, rfl⟩ := hrel
            have c0 := (hb0.cell (p := ⟨w.heap.size, 0, none⟩) (by show w.heap.size < _; omega)).trans HL.out.1
            have c1 := (hb0.cell (p := ⟨w.heap.size, 1, none⟩) (by show w.heap.size < _; omega)).trans HL.out.2.1
            have c3 := (hb0.cell (p := ⟨w.heap.size, 3, none⟩) (by show w.heap.size < _; omega)).trans HL.out.2.2.2
            by_cases hn0 : 0 < n
            · go_wp2_with fail
              clear c0 c1 c3
              have hro : wr.ownsRow (w.heap.size + 1) 3 1 (.slice (some ⟨g0, 0, none⟩) (([] : List Int) ++ ofEL (l.take 0)).length 0) (([] : List Int) ++ ofEL (l.take 0)).length (vI (([] : List Int) ++ ofEL (l.take 0))) := by
                rw [List.take_zero, ofEL, List.append_nil]
                exact (show (([] : List Int)).length = 0 from by simp) ▸ hr0
              go_loopw [3, 5] (fun v x wr => ∃ (i gq cq : Nat), i ≤ m ∧ x = .int .i64 i ∧ v = .slice (some ⟨gq, 0, none⟩) (([] : List Int) ++ ofEL (l.take i)).length cq ∧ wr.ownsRow (w.heap.size + 1) 3 1 (.slice (some ⟨gq, 0, none⟩) (([] : List Int) ++ ofEL (l.take i)).length cq) (([] : List Int) ++ ofEL (l.take i)).length (vI (([] : List Int) ++ ofEL (l.take i))) ∧ Below (w.heap.size + 1) W1 wr) (fun _ x _ => m - (intOf x).toNat)
              case atStart => exact ⟨0, g0, 0, Nat.zero_le _, rfl, by rw [List.take_zero, ofEL, List.append_nil, (show (([] : List Int)).length = 0 from by simp)], hro, hb0⟩
              case round =>
                obtain ⟨i, gq, cq, hi, rfl, rfl, hrq, hbq⟩ := hrel
                have hbs := hbq.size
                have c3 := (hbq.cell (p := ⟨w.heap.size, 3, none⟩) (by show w.heap.size < _; omega)).trans HL.out.2.2.2
                by_cases hlt : i < m
                · have hia : i < l.length := by omega
                  obtain ⟨g, o, A', c', ⟨hA, _⟩, d0, d1, d2, d3, hIn⟩ := EIn.part (EIn.below _ HI.out hbq (by omega)) i hia
                  cases hA
                  have hm3 := depthEL_mem l (l[i]'hia) (List.getElem_mem hia)
                  have hm4 := sizeEL_mem l (l[i]'hia) (List.getElem_mem hia)
                  have ht5 := tameEL_mem l (l[i]'hia) (List.getElem_mem hia) HT.out
                  have hq1 := ofEL_len (l.take i)
                  have hq2 := sizeEL_take l i
                  have hq3 := ofE_len (l[i]'hia)
                  have HS : Hid (([] : List Int) ++ ofEL (l.take (i + 1)) = (([] : List Int) ++ ofEL (l.take i)) ++ ofE (l[i]'hia)) := Lib.hid (by rw [ofEL_take l i hia, List.append_assoc])
                  simp only [Te.parts] at d0 d1 d2 d3 hIn
                  obtain ⟨tr, hu⟩ : ∃ tr, tr = l[i]'hia := ⟨_, rfl⟩
                  rw [← hu] at d0 d1 d2 d3 hIn hm3 hm4 HS ht5 hq3
                  clear hu
                  have hq4 : (([] : List Int) ++ ofEL (l.take i)).length ≤ 8 + 8 * sizeEL l := by simp only [List.length_append, List.length_nil]; omega
                  obtain ⟨ys, hys⟩ : ∃ ys, ys = ([] : List Int) ++ ofEL (l.take i) := ⟨_, rfl⟩
                  rw [← hys] at hrq HS hq4 ⊢
                  clear hys
                  obtain ⟨zs, hzs⟩ : ∃ zs, zs = ofE tr := ⟨_, rfl⟩
                  have HZS := Lib.hid hzs
                  rw [← hzs] at HS hq3
                  clear hzs
                  obtain ⟨tk, tn, ts, tl⟩ := tr
                  simp only [Te.kind, Te.n, Te.name] at d0 d1 d2 d3
                  have HIH : Hid (Calls Try.prog 17 #[.agg #[.int .i64 tk, .int .i64 tn, .string ts, .slice A' tl.length (capF tl.length c')]] wr (GivesO zs wr)) := Lib.hid (by rw [HZS.out]; exact ih (.node tk tn ts tl) A' c' wr (by omega) (by omega) (by omega) ht5 hIn)
                  clear hIn ht5 hro
                  go_wp2_with fail
                  refine HIH.out.mono ?_
                  rintro e u2 ⟨g2, c2, rfl, hr2, hb2⟩
                  have hr3 := ownsRow_heap hrq (fun q hq => hb2.block q (hrq.lt q hq).2)
                  have hb2s := hb2.size
                  go_wp2_with (at_builtin; refine wpList_append_own _ rfl _ _ 30 rfl (w.heap.size + 1) 3 i0 (.int .i64 0) 1 8 Try.underlying30 hi0 hz0 hz1 hz2 rfl (by decide) _ _ _ rfl hr3 ⟨g2, 0, none⟩ zs.length c2 (vI zs) rfl (by simp [vI]) (hr2.cells (g := g2) rfl) (by simp [vI, Value.oneCell']) (by simp only [maxLen]; omega) (by omega) (by first | omega | (simp; omega)) ?_; intro v1 y1 ho1 hg1 hv1; obtain ⟨g1, cap1, rfl⟩ := own_some ho1 (fun e => by cases (hv1.1 e).1))
                  have hb9 : Below (w.heap.size + 1) W1 y1 := (hbq.trans (hb2.mono (by omega))).grown hg1 (by omega) (fun q hq => (hrq.lt q hq).1)
                  go_roundw
                  case rel => exact ⟨i + 1, g1, cap1, by omega, by go_num, by rw [HS.out, List.length_append], by rw [HS.out, List.length_append, vI_app]; exact ho1, hb9⟩
                  case measure => simp [intOf]; omega
                · go_wp2_with fail
                  go_ret
                  have hi9 : i = l.length := by omega
                  have hE : ofE (.node k n s l) = ([] : List Int) ++ ofEL (l.take i) := by rw [hi9, List.take_length, ofE, HOW.out]
                  exact ⟨gq, cq, by rw [hE]; rfl, by rw [hE]; exact ownsRow_base hrq (by omega), HB1.out.trans (hbq.mono (by omega))⟩
            · go_wp2_with fail
              clear c0 c1 c3
              have hro : wr.ownsRow (w.heap.size + 1) 3 1 (.slice (some ⟨g0, 0, none⟩) (([] : List Int) ++ ofEL (l.take 0)).length 0) (([] : List Int) ++ ofEL (l.take 0)).length (vI (([] : List Int) ++ ofEL (l.take 0))) := by
                rw [List.take_zero, ofEL, List.append_nil]
                exact (show (([] : List Int)).length = 0 from by simp) ▸ hr0
              go_loopw [3, 5] (fun v x wr => ∃ (i gq cq : Nat), i ≤ m ∧ x = .int .i64 i ∧ v = .slice (some ⟨gq, 0, none⟩) (([] : List Int) ++ ofEL (l.take i)).length cq ∧ wr.ownsRow (w.heap.size + 1) 3 1 (.slice (some ⟨gq, 0, none⟩) (([] : List Int) ++ ofEL (l.take i)).length cq) (([] : List Int) ++ ofEL (l.take i)).length (vI (([] : List Int) ++ ofEL (l.take i))) ∧ Below (w.heap.size + 1) W1 wr) (fun _ x _ => m - (intOf x).toNat)
              case atStart => exact ⟨0, g0, 0, Nat.zero_le _, rfl, by rw [List.take_zero, ofEL, List.append_nil, (show (([] : List Int)).length = 0 from by simp)], hro, hb0⟩
              case round =>
                obtain ⟨i, gq, cq, hi, rfl, rfl, hrq, hbq⟩ := hrel
                have hbs := hbq.size
                have c3 := (hbq.cell (p := ⟨w.heap.size, 3, none⟩) (by show w.heap.size < _; omega)).trans HL.out.2.2.2
                by_cases hlt : i < m
                · have hia : i < l.length := by omega
                  obtain ⟨g, o, A', c', ⟨hA, _⟩, d0, d1, d2, d3, hIn⟩ := EIn.part (EIn.below _ HI.out hbq (by omega)) i hia
                  cases hA
                  have hm3 := depthEL_mem l (l[i]'hia) (List.getElem_mem hia)
                  have hm4 := sizeEL_mem l (l[i]'hia) (List.getElem_mem hia)
                  have ht5 := tameEL_mem l (l[i]'hia) (List.getElem_mem hia) HT.out
                  have hq1 := ofEL_len (l.take i)
                  have hq2 := sizeEL_take l i
                  have hq3 := ofE_len (l[i]'hia)
                  have HS : Hid (([] : List Int) ++ ofEL (l.take (i + 1)) = (([] : List Int) ++ ofEL (l.take i)) ++ ofE (l[i]'hia)) := Lib.hid (by rw [ofEL_take l i hia, List.append_assoc])
                  simp only [Te.parts] at d0 d1 d2 d3 hIn
                  obtain ⟨tr, hu⟩ : ∃ tr, tr = l[i]'hia := ⟨_, rfl⟩
                  rw [← hu] at d0 d1 d2 d3 hIn hm3 hm4 HS ht5 hq3
                  clear hu
                  have hq4 : (([] : List Int) ++ ofEL (l.take i)).length ≤ 8 + 8 * sizeEL l := by simp only [List.length_append, List.length_nil]; omega
                  obtain ⟨ys, hys⟩ : ∃ ys, ys = ([] : List Int) ++ ofEL (l.take i) := ⟨_, rfl⟩
                  rw [← hys] at hrq HS hq4 ⊢
                  clear hys
                  obtain ⟨zs, hzs⟩ : ∃ zs, zs = ofE tr := ⟨_, rfl⟩
                  have HZS := Lib.hid hzs
                  rw [← hzs] at HS hq3
                  clear hzs
                  obtain ⟨tk, tn, ts, tl⟩ := tr
                  simp only [Te.kind, Te.n, Te.name] at d0 d1 d2 d3
                  have HIH : Hid (Calls Try.prog 17 #[.agg #[.int .i64 tk, .int .i64 tn, .string ts, .slice A' tl.length (capF tl.length c')]] wr (GivesO zs wr)) := Lib.hid (by rw [HZS.out]; exact ih (.node tk tn ts tl) A' c' wr (by omega) (by omega) (by omega) ht5 hIn)
                  clear hIn ht5 hro
                  go_wp2_with fail
                  refine HIH.out.mono ?_
                  rintro e u2 ⟨g2, c2, rfl, hr2, hb2⟩
                  have hr3 := ownsRow_heap hrq (fun q hq => hb2.block q (hrq.lt q hq).2)
                  have hb2s := hb2.size
                  go_wp2_with (at_builtin; refine wpList_append_own _ rfl _ _ 30 rfl (w.heap.size + 1) 3 i0 (.int .i64 0) 1 8 Try.underlying30 hi0 hz0 hz1 hz2 rfl (by decide) _ _ _ rfl hr3 ⟨g2, 0, none⟩ zs.length c2 (vI zs) rfl (by simp [vI]) (hr2.cells (g := g2) rfl) (by simp [vI, Value.oneCell']) (by simp only [maxLen]; omega) (by omega) (by first | omega | (simp; omega)) ?_; intro v1 y1 ho1 hg1 hv1; obtain ⟨g1, cap1, rfl⟩ := own_some ho1 (fun e => by cases (hv1.1 e).1))
                  have hb9 : Below (w.heap.size + 1) W1 y1 := (hbq.trans (hb2.mono (by omega))).grown hg1 (by omega) (fun q hq => (hrq.lt q hq).1)
                  go_roundw
                  case rel => exact ⟨i + 1, g1, cap1, by omega, by go_num, by rw [HS.out, List.length_append], by rw [HS.out, List.length_append, vI_app]; exact ho1, hb9⟩
                  case measure => simp [intOf]; omega
                · go_wp2_with fail
                  go_ret
                  have hi9 : i = l.length := by omega
                  have hE : ofE (.node k n s l) = ([] : List Int) ++ ofEL (l.take i) := by rw [hi9, List.take_length, ofE, HOW.out]
                  exact ⟨gq, cq, by rw [hE]; rfl, by rw [hE]; exact ownsRow_base hrq (by omega), HB1.out.trans (hbq.mono (by omega))⟩
    · have hl9 : l = [] := List.eq_nil_of_length_eq_zero (by omega)
      have HOW : Hid (ownE k n l = []) := Lib.hid (by rw [hl9]; rfl)
      clear hl9
      by_cases hk2 : k = 2
      · subst hk2
        go_wp2_with fail
        clear c0 c3
        go_loopw [3, 4] (fun v x wr => x = .int .i64 0 ∧ v = .slice (some ⟨g0, 0, none⟩) 0 0 ∧ wr = V) (fun _ _ _ => 0)
        case atStart => exact ⟨rfl, rfl, rfl⟩
        case round =>
          obtain ⟨rfl, rfl, rfl⟩ := hrel
          have c0 := (hb0.cell (p := ⟨w.heap.size, 0, none⟩) (by show w.heap.size < _; omega)).trans HL.out.1
          have c1 := (hb0.cell (p := ⟨w.heap.size, 1, none⟩) (by show w.heap.size < _; omega)).trans HL.out.2.1
          have c3 := (hb0.cell (p := ⟨w.heap.size, 3, none⟩) (by show w.heap.size < _; omega)).trans HL.out.2.2.2
          by_cases hn0 : 0 < n
          · go_wp2_with fail
            clear c0 c1 c3
            have hro : wr.ownsRow (w.heap.size + 1) 3 1 (.slice (some ⟨g0, 0, none⟩) (([] : List Int) ++ ofEL (l.take 0)).length 0) (([] : List Int) ++ ofEL (l.take 0)).length (vI (([] : List Int) ++ ofEL (l.take 0))) := by
              rw [List.take_zero, ofEL, List.append_nil]
              exact (show (([] : List Int)).length = 0 from by simp) ▸ hr0
            go_loopw [3, 5] (fun v x wr => ∃ (i gq cq : Nat), i ≤ m ∧ x = .int .i64 i ∧ v = .slice (some ⟨gq, 0, none⟩) (([] : List Int) ++ ofEL (l.take i)).length cq ∧ wr.ownsRow (w.heap.size + 1) 3 1 (.slice (some ⟨gq, 0, none⟩) (([] : List Int) ++ ofEL (l.take i)).length cq) (([] : List Int) ++ ofEL (l.take i)).length (vI (([] : List Int) ++ ofEL (l.take i))) ∧ Below (w.heap.size + 1) W1 wr) (fun _ x _ => m - (intOf x).toNat)
            case atStart => exact ⟨0, g0, 0, Nat.zero_le _, rfl, by rw [List.take_zero, ofEL, List.append_nil, (show (([] : List Int)).length = 0 from by simp)], hro, hb0⟩
            case round =>
              obtain ⟨i, gq, cq, hi, rfl, rfl, hrq, hbq⟩ := hrel
              have hbs := hbq.size
              have c3 := (hbq.cell (p := ⟨w.heap.size, 3, none⟩) (by show w.heap.size < _; omega)).trans HL.out.2.2.2
              by_cases hlt : i < m
              · exact absurd (Nat.lt_of_le_of_lt (Nat.zero_le i) hlt) hm0
              · go_wp2_with fail
                go_ret
                have hi9 : i = l.length := by omega
                have hE : ofE (.node 2 n s l) = ([] : List Int) ++ ofEL (l.take i) := by rw [hi9, List.take_length, ofE, HOW.out]
                exact ⟨gq, cq, by rw [hE]; rfl, by rw [hE]; exact ownsRow_base hrq (by omega), HB1.out.trans (hbq.mono (by omega))⟩
          · go_wp2_with fail
            clear c0 c1 c3
            have hro : wr.ownsRow (w.heap.size + 1) 3 1 (.slice (some ⟨g0, 0, none⟩) (([] : List Int) ++ ofEL (l.take 0)).length 0) (([] : List Int) ++ ofEL (l.take 0)).length (vI (([] : List Int) ++ ofEL (l.take 0))) := by
              rw [List.take_zero, ofEL, List.append_nil]
              exact (show (([] : List Int)).length = 0 from by simp) ▸ hr0
            go_loopw [3, 5] (fun v x wr => ∃ (i gq cq : Nat), i ≤ m ∧ x = .int .i64 i ∧ v = .slice (some ⟨gq, 0, none⟩) (([] : List Int) ++ ofEL (l.take i)).length cq ∧ wr.ownsRow (w.heap.size + 1) 3 1 (.slice (some ⟨gq, 0, none⟩) (([] : List Int) ++ ofEL (l.take i)).length cq) (([] : List Int) ++ ofEL (l.take i)).length (vI (([] : List Int) ++ ofEL (l.take i))) ∧ Below (w.heap.size + 1) W1 wr) (fun _ x _ => m - (intOf x).toNat)
            case atStart => exact ⟨0, g0, 0, Nat.zero_le _, rfl, by rw [List.take_zero, ofEL, List.append_nil, (show (([] : List Int)).length = 0 from by simp)], hro, hb0⟩
            case round =>
              obtain ⟨i, gq, cq, hi, rfl, rfl, hrq, hbq⟩ := hrel
              have hbs := hbq.size
              have c3 := (hbq.cell (p := ⟨w.heap.size, 3, none⟩) (by show w.heap.size < _; omega)).trans HL.out.2.2.2
              by_cases hlt : i < m
              · exact absurd (Nat.lt_of_le_of_lt (Nat.zero_le i) hlt) hm0
              · go_wp2_with fail
                go_ret
                have hi9 : i = l.length := by omega
                have hE : ofE (.node 2 n s l) = ([] : List Int) ++ ofEL (l.take i) := by rw [hi9, List.take_length, ofE, HOW.out]
                exact ⟨gq, cq, by rw [hE]; rfl, by rw [hE]; exact ownsRow_base hrq (by omega), HB1.out.trans (hbq.mono (by omega))⟩
      · have hk3 : (k == 2) = false := by simpa using hk2
        by_cases hk6 : k = 6
        · subst hk6
          go_wp2_with fail
          clear c0 c3
          go_loopw [3, 4] (fun v x wr => x = .int .i64 0 ∧ v = .slice (some ⟨g0, 0, none⟩) 0 0 ∧ wr = V) (fun _ _ _ => 0)
          case atStart => exact ⟨rfl, rfl, rfl⟩
          case round =>
            obtain ⟨rfl, rfl, rfl⟩ := hrel
            have c0 := (hb0.cell (p := ⟨w.heap.size, 0, none⟩) (by show w.heap.size < _; omega)).trans HL.out.1
            have c1 := (hb0.cell (p := ⟨w.heap.size, 1, none⟩) (by show w.heap.size < _; omega)).trans HL.out.2.1
            have c3 := (hb0.cell (p := ⟨w.heap.size, 3, none⟩) (by show w.heap.size < _; omega)).trans HL.out.2.2.2
            by_cases hn0 : 0 < n
            · go_wp2_with fail
              clear c0 c1 c3
              have hro : wr.ownsRow (w.heap.size + 1) 3 1 (.slice (some ⟨g0, 0, none⟩) (([] : List Int) ++ ofEL (l.take 0)).length 0) (([] : List Int) ++ ofEL (l.take 0)).length (vI (([] : List Int) ++ ofEL (l.take 0))) := by
                rw [List.take_zero, ofEL, List.append_nil]
                exact (show (([] : List Int)).length = 0 from by simp) ▸ hr0
              go_loopw [3, 5] (fun v x wr => ∃ (i gq cq : Nat), i ≤ m ∧ x = .int .i64 i ∧ v = .slice (some ⟨gq, 0, none⟩) (([] : List Int) ++ ofEL (l.take i)).length cq ∧ wr.ownsRow (w.heap.size + 1) 3 1 (.slice (some ⟨gq, 0, none⟩) (([] : List Int) ++ ofEL (l.take i)).length cq) (([] : List Int) ++ ofEL (l.take i)).length (vI (([] : List Int) ++ ofEL (l.take i))) ∧ Below (w.heap.size + 1) W1 wr) (fun _ x _ => m - (intOf x).toNat)
              case atStart => exact ⟨0, g0, 0, Nat.zero_le _, rfl, by rw [List.take_zero, ofEL, List.append_nil, (show (([] : List Int)).length = 0 from by simp)], hro, hb0⟩
              case round =>
                obtain ⟨i, gq, cq, hi, rfl, rfl, hrq, hbq⟩ := hrel
                have hbs := hbq.size
                have c3 := (hbq.cell (p := ⟨w.heap.size, 3, none⟩) (by show w.heap.size < _; omega)).trans HL.out.2.2.2
                by_cases hlt : i < m
                · exact absurd (Nat.lt_of_le_of_lt (Nat.zero_le i) hlt) hm0
                · go_wp2_with fail
                  go_ret
                  have hi9 : i = l.length := by omega
                  have hE : ofE (.node 6 n s l) = ([] : List Int) ++ ofEL (l.take i) := by rw [hi9, List.take_length, ofE, HOW.out]
                  exact ⟨gq, cq, by rw [hE]; rfl, by rw [hE]; exact ownsRow_base hrq (by omega), HB1.out.trans (hbq.mono (by omega))⟩
            · go_wp2_with fail
              clear c0 c1 c3
              have hro : wr.ownsRow (w.heap.size + 1) 3 1 (.slice (some ⟨g0, 0, none⟩) (([] : List Int) ++ ofEL (l.take 0)).length 0) (([] : List Int) ++ ofEL (l.take 0)).length (vI (([] : List Int) ++ ofEL (l.take 0))) := by
                rw [List.take_zero, ofEL, List.append_nil]
                exact (show (([] : List Int)).length = 0 from by simp) ▸ hr0
              go_loopw [3, 5] (fun v x wr => ∃ (i gq cq : Nat), i ≤ m ∧ x = .int .i64 i ∧ v = .slice (some ⟨gq, 0, none⟩) (([] : List Int) ++ ofEL (l.take i)).length cq ∧ wr.ownsRow (w.heap.size + 1) 3 1 (.slice (some ⟨gq, 0, none⟩) (([] : List Int) ++ ofEL (l.take i)).length cq) (([] : List Int) ++ ofEL (l.take i)).length (vI (([] : List Int) ++ ofEL (l.take i))) ∧ Below (w.heap.size + 1) W1 wr) (fun _ x _ => m - (intOf x).toNat)
              case atStart => exact ⟨0, g0, 0, Nat.zero_le _, rfl, by rw [List.take_zero, ofEL, List.append_nil, (show (([] : List Int)).length = 0 from by simp)], hro, hb0⟩
              case round =>
                obtain ⟨i, gq, cq, hi, rfl, rfl, hrq, hbq⟩ := hrel
                have hbs := hbq.size
                have c3 := (hbq.cell (p := ⟨w.heap.size, 3, none⟩) (by show w.heap.size < _; omega)).trans HL.out.2.2.2
                by_cases hlt : i < m
                · exact absurd (Nat.lt_of_le_of_lt (Nat.zero_le i) hlt) hm0
                · go_wp2_with fail
                  go_ret
                  have hi9 : i = l.length := by omega
                  have hE : ofE (.node 6 n s l) = ([] : List Int) ++ ofEL (l.take i) := by rw [hi9, List.take_length, ofE, HOW.out]
                  exact ⟨gq, cq, by rw [hE]; rfl, by rw [hE]; exact ownsRow_base hrq (by omega), HB1.out.trans (hbq.mono (by omega))⟩
        · have hk7 : (k == 6) = false := by simpa using hk6
          go_wp2_with fail
          clear c0 c3
          go_loopw [3, 4] (fun v x wr => x = .int .i64 0 ∧ v = .slice (some ⟨g0, 0, none⟩) 0 0 ∧ wr = V) (fun _ _ _ => 0)
          case atStart => exact ⟨rfl, rfl, rfl⟩
          case round =>
            obtain ⟨rfl, rfl, rfl⟩ := hrel
            have c0 := (hb0.cell (p := ⟨w.heap.size, 0, none⟩) (by show w.heap.size < _; omega)).trans HL.out.1
            have c1 := (hb0.cell (p := ⟨w.heap.size, 1, none⟩) (by show w.heap.size < _; omega)).trans HL.out.2.1
            have c3 := (hb0.cell (p := ⟨w.heap.size, 3, none⟩) (by show w.heap.size < _; omega)).trans HL.out.2.2.2
            by_cases hn0 : 0 < n
            · go_wp2_with fail
              clear c0 c1 c3
              have hro : wr.ownsRow (w.heap.size + 1) 3 1 (.slice (some ⟨g0, 0, none⟩) (([] : List Int) ++ ofEL (l.take 0)).length 0) (([] : List Int) ++ ofEL (l.take 0)).length (vI (([] : List Int) ++ ofEL (l.take 0))) := by
                rw [List.take_zero, ofEL, List.append_nil]
                exact (show (([] : List Int)).length = 0 from by simp) ▸ hr0
              go_loopw [3, 5] (fun v x wr => ∃ (i gq cq : Nat), i ≤ m ∧ x = .int .i64 i ∧ v = .slice (some ⟨gq, 0, none⟩) (([] : List Int) ++ ofEL (l.take i)).length cq ∧ wr.ownsRow (w.heap.size + 1) 3 1 (.slice (some ⟨gq, 0, none⟩) (([] : List Int) ++ ofEL (l.take i)).length cq) (([] : List Int) ++ ofEL (l.take i)).length (vI (([] : List Int) ++ ofEL (l.take i))) ∧ Below (w.heap.size + 1) W1 wr) (fun _ x _ => m - (intOf x).toNat)
              case atStart => exact ⟨0, g0, 0, Nat.zero_le _, rfl, by rw [List.take_zero, ofEL, List.append_nil, (show (([] : List Int)).length = 0 from by simp)], hro, hb0⟩
              case round =>
                obtain ⟨i, gq, cq, hi, rfl, rfl, hrq, hbq⟩ := hrel
                have hbs := hbq.size
                have c3 := (hbq.cell (p := ⟨w.heap.size, 3, none⟩) (by show w.heap.size < _; omega)).trans HL.out.2.2.2
                by_cases hlt : i < m
                · exact absurd (Nat.lt_of_le_of_lt (Nat.zero_le i) hlt) hm0
                · go_wp2_with fail
                  go_ret
                  have hi9 : i = l.length := by omega
                  have hE : ofE (.node k n s l) = ([] : List Int) ++ ofEL (l.take i) := by rw [hi9, List.take_length, ofE, HOW.out]
                  exact ⟨gq, cq, by rw [hE]; rfl, by rw [hE]; exact ownsRow_base hrq (by omega), HB1.out.trans (hbq.mono (by omega))⟩
            · go_wp2_with fail
              clear c0 c1 c3
              have hro : wr.ownsRow (w.heap.size + 1) 3 1 (.slice (some ⟨g0, 0, none⟩) (([] : List Int) ++ ofEL (l.take 0)).length 0) (([] : List Int) ++ ofEL (l.take 0)).length (vI (([] : List Int) ++ ofEL (l.take 0))) := by
                rw [List.take_zero, ofEL, List.append_nil]
                exact (show (([] : List Int)).length = 0 from by simp) ▸ hr0
              go_loopw [3, 5] (fun v x wr => ∃ (i gq cq : Nat), i ≤ m ∧ x = .int .i64 i ∧ v = .slice (some ⟨gq, 0, none⟩) (([] : List Int) ++ ofEL (l.take i)).length cq ∧ wr.ownsRow (w.heap.size + 1) 3 1 (.slice (some ⟨gq, 0, none⟩) (([] : List Int) ++ ofEL (l.take i)).length cq) (([] : List Int) ++ ofEL (l.take i)).length (vI (([] : List Int) ++ ofEL (l.take i))) ∧ Below (w.heap.size + 1) W1 wr) (fun _ x _ => m - (intOf x).toNat)
              case atStart => exact ⟨0, g0, 0, Nat.zero_le _, rfl, by rw [List.take_zero, ofEL, List.append_nil, (show (([] : List Int)).length = 0 from by simp)], hro, hb0⟩
              case round =>
                obtain ⟨i, gq, cq, hi, rfl, rfl, hrq, hbq⟩ := hrel
                have hbs := hbq.size
                have c3 := (hbq.cell (p := ⟨w.heap.size, 3, none⟩) (by show w.heap.size < _; omega)).trans HL.out.2.2.2
                by_cases hlt : i < m
                · exact absurd (Nat.lt_of_le_of_lt (Nat.zero_le i) hlt) hm0
                · go_wp2_with fail
                  go_ret
                  have hi9 : i = l.length := by omega
                  have hE : ofE (.node k n s l) = ([] : List Int) ++ ofEL (l.take i) := by rw [hi9, List.take_length, ofE, HOW.out]
                  exact ⟨gq, cq, by rw [hE]; rfl, by rw [hE]; exact ownsRow_base hrq (by omega), HB1.out.trans (hbq.mono (by omega))⟩
end Lx
end Go.Proofs.Ytcefopaphaeejaa
