/-
  Walks of the reference's may, May.
-/
import Derived.Test.YtnljlocogfacfaaDoorRefMay
import Derived.Test.YtnljlocogfacfaaDoorRowTr
import Derived.Test.YtnljlocogfacfaaDoorMayTop
import Derived.StillTailTactics
namespace Go.Proofs.YtnljlocogfacfaaDoor
open Go.RowKit
namespace Lx
set_option maxRecDepth 100000
set_option maxHeartbeats 2000000 in
theorem rmay_head (k n a : Int) (s : ByteArray) (A : Option Addr) (m c : Nat) (alt : Bool) (w : World) (hs : s.size ≤ 140737488351232) (hm : m ≤ 140737488351232)
    (h : ((decide (k = 8) == alt) && (nameOkV k s.data.toList && (partsV k n m && decide (0 ≤ a)))) = false) :
    Calls Tryd.prog 46 #[.agg #[.int .i64 k, .string s, .int .i64 n, .int .i64 a, .slice A m c], .bool alt] w fun e w' => e = .returned (.bool false) ∧ Below w.heap.size w w' := by
  have hb : Below w.heap.size w (w.alloc (.cells #[.int .i64 k, .string s, .int .i64 n, .int .i64 a, .slice A m c] 33)) := (Below.refl _ w).alloc (Nat.le_refl _) _
  have HN := Lib.hid (rname_any k n a s A m c (w.alloc (.cells #[.int .i64 k, .string s, .int .i64 n, .int .i64 a, .slice A m c] 33)) hs)
  have HP := fun w => rparts_any k n a s A m c w hm
  have HPP := Lib.hid HP
  clear HP
  have hL0 := Lies.new w 33 #[.int .i64 k, .string s, .int .i64 n, .int .i64 a, .slice A m c]
  by_cases h1 : (decide (k = 8) == alt) = true
  · have e1 : ((k == 8) == alt) = true := h1
    rw [h1, Bool.true_and] at h
    cases hn : nameOkV k s.data.toList
    · rw [hn] at HN
      have HH := Lib.hid h
      clear h h1 hn
      go_enter Tryd.func46, Tryd.ntmps46
      go_wp2_with fail
      refine HN.out.mono ?_
      rintro e w2 ⟨rfl, hb2⟩
      go_wp2_with fail
      go_ret
      exact ⟨rfl, below_ac hb2⟩
    · rw [hn] at HN h
      rw [Bool.true_and] at h
      cases hp : partsV k n m
      · rw [hp] at HPP
        have HH := Lib.hid h
        clear h h1 hn hp
        go_enter Tryd.func46, Tryd.ntmps46
        go_wp2_with fail
        refine HN.out.mono ?_
        rintro e w2 ⟨rfl, hb2⟩
        obtain ⟨⟨c0, c1, c2, c3, c4⟩, _⟩ := (hL0.below hb2 (by simp)).five
        go_wp2_with fail
        refine (HPP.out _).mono ?_
        rintro e w3 ⟨rfl, hb3⟩
        go_wp2_with fail
        go_ret
        exact ⟨rfl, (below_ac hb2).trans (hb3.mono (by have := hb2.size; simp at this; omega))⟩
      · rw [hp, Bool.true_and] at h
        rw [hp] at HPP
        have ha : a < 0 := by simpa using h
        clear h h1 hn hp
        go_enter Tryd.func46, Tryd.ntmps46
        go_wp2_with fail
        refine HN.out.mono ?_
        rintro e w2 ⟨rfl, hb2⟩
        have hL2 := hL0.below hb2 (by simp)
        obtain ⟨⟨c0, c1, c2, c3, c4⟩, _⟩ := hL2.five
        go_wp2_with fail
        refine (HPP.out _).mono ?_
        rintro e w3 ⟨rfl, hb3⟩
        have d3 := (hL2.below hb3 hL2.lt).five.1.2.2.2.1
        go_wp2_with fail
        go_ret
        exact ⟨rfl, (below_ac hb2).trans (hb3.mono (by have := hb2.size; simp at this; omega))⟩
  · have e1 : ((k == 8) == alt) = false := Bool.eq_false_iff.2 h1
    have HH := Lib.hid h
    clear h h1
    go_enter Tryd.func46, Tryd.ntmps46
    go_wp2_with fail
    go_ret
    exact ⟨rfl, hb⟩
set_option maxHeartbeats 8000000 in
theorem rmay_any (d : Nat) : ∀ (t : Tr) (A : Option Addr) (c : Nat) (alt : Bool) (w : World), depthT t ≤ d → TIn w Any t A →
    Calls Tryd.prog 46 #[tv t A c, .bool alt] w fun e w' => e = .returned (.bool (mayRT t alt)) ∧ Below w.heap.size w w' := by
  induction d with
  | zero => intro t A c alt w h; have := depth_pos t; omega
  | succ d ih =>
    intro t A c alt w hd hI
    obtain ⟨k, s, n, a, l⟩ := t
    have hdL : depthL l ≤ d := by rw [depthT] at hd; omega
    have hlen : l.length ≤ 140737488351232 := by rw [TIn] at hI; exact hI.2.1
    have hss : s.size ≤ 140737488351232 := by rw [TIn] at hI; exact hI.1
    have HI := Lib.hid hI
    clear hI hd
    show Calls Tryd.prog 46 #[.agg #[.int .i64 k, .string s, .int .i64 n, .int .i64 a, .slice A l.length c], .bool alt] w _
    cases hh : ((decide (k = 8) == alt) && (nameOkV k s.data.toList && (partsV k n l.length && decide (0 ≤ a))))
    · refine (rmay_head k n a s A _ c alt w hss hlen hh).mono ?_
      rintro e w' ⟨rfl, hb⟩
      refine ⟨ret_bool ?_, hb⟩
      rw [mayRT]
      cases h1 : (decide (k = 8) == alt) <;> cases h2 : nameOkV k s.data.toList <;> cases h3 : partsV k n l.length <;> cases h4 : decide (0 ≤ a) <;> simp_all
    · simp only [Bool.and_eq_true] at hh
      obtain ⟨h1, h2, h3, h4⟩ := hh
      have HE : Hid (mayRT (.node k s n a l) alt = mayRL k n 0 l) := by
        show _ = _
        rw [mayRT, h1, h2, h3, h4]; simp
      have hda : decide (a < 0) = false := by have := of_decide_eq_true h4; simp; omega
      have HN := Lib.hid (rname_any k n a s A l.length c (w.alloc (.cells #[.int .i64 k, .string s, .int .i64 n, .int .i64 a, .slice A l.length c] 33)) hss)
      have HP := fun w => rparts_any k n a s A l.length c w hlen
      rw [h2] at HN
      rw [h3] at HP
      have HPP := Lib.hid HP
      have halt : alt = decide (k = 8) := by cases alt <;> cases hk8 : decide (k = 8) <;> simp_all
      clear HP h1 h2 h3 h4
      subst halt
      obtain ⟨m, hm'⟩ : ∃ m, m = l.length := ⟨_, rfl⟩
      rw [← hm'] at hlen HN HPP ⊢
      have hm1 : m ≤ l.length := by omega
      have hm2 : l.length ≤ m := by omega
      clear hm'
      have hL0 := Lies.new w 33 #[.int .i64 k, .string s, .int .i64 n, .int .i64 a, .slice A m c]
      rcases (by omega : k = 8 ∨ k = 7 ∨ (k ≠ 8 ∧ k ≠ 7)) with rfl | rfl | ⟨q8, q7⟩
      · have HE8 : Hid (mayRT (.node 8 s n a l) true = mayRL 8 n 0 l) := HE.out
        clear HE
        have HE := HE8
        clear HE8
        show Calls Tryd.prog 46 #[.agg #[.int .i64 8, .string s, .int .i64 n, .int .i64 a, .slice A m c], .bool true] w fun e w' => e = .returned (.bool (mayRT (.node 8 s n a l) true)) ∧ Below w.heap.size w w'
        go_enter Tryd.func46, Tryd.ntmps46
        go_wp2_with fail
        refine HN.out.mono ?_
        rintro e w2 ⟨rfl, hb2⟩
        have hL2 := hL0.below hb2 (by simp)
        obtain ⟨⟨c0, c1, c2, c3, c4⟩, _⟩ := hL2.five
        go_wp2_with fail
        refine (HPP.out _).mono ?_
        rintro e w3 ⟨rfl, hb3⟩
        have hL3 := hL2.below hb3 hL2.lt
        have d3 := hL3.five.1.2.2.2.1
        have hbw3 : Below w.heap.size w w3 := (below_ac hb2).trans (hb3.mono (by have := hb2.size; simp at this; omega))
        clear hb2 hb3 hL0 hL2 c0 c1 c2 c3 c4
        go_wp2_with fail
        clear d3
        go_loopw [5] (fun x wr => ∃ i : Nat, i ≤ m ∧ x = .int .i64 i ∧ Hid (mayRL 8 n 0 l = mayRL 8 n i (l.drop i)) ∧ Lies wr w.heap.size 33 #[.int .i64 8, .string s, .int .i64 n, .int .i64 a, .slice A m c] ∧ Below w.heap.size w wr) (fun x _ => m - (intOf x).toNat)
        case atStart => exact ⟨0, by omega, rfl, by exact rfl, hL3, hbw3⟩
        case round =>
          obtain ⟨i, hi, rfl, HQ, hL, hbw⟩ := hrel
          have hbs := hbw.size
          obtain ⟨b0, b1, b2, b3, b4⟩ := hL.five.1
          by_cases hlt : i < m
          · have hia : i < l.length := by omega
            obtain ⟨g, o, A', c', ⟨hA, _⟩, d0, d1, d2, d3, d4, hIn⟩ := TIn.part (TIn.below _ HI.out hbw (Nat.le_refl _)) i hia
            subst hA
            have hm3 := depthL_mem l (l[i]'hia) (List.getElem_mem hia)
            have HS0 : Hid (mayRL 8 n i (l.drop i) = (!(decide ((8 : Int) = 8) && (decide ((i : Int) < n) && decide ((l[i]'hia).kind ≠ 1))) && (mayRT (l[i]'hia) (decide ((8 : Int) = 7) && decide (0 < i)) && mayRL 8 n (i + 1) (l.drop (i + 1))))) := by
              show _ = _
              rw [List.drop_eq_getElem_cons hia, mayRL]
            simp only [Tr.parts] at d0 d1 d2 d3 d4 hIn
            obtain ⟨tr, hu⟩ : ∃ tr, tr = l[i]'hia := ⟨_, rfl⟩
            rw [← hu] at d0 d1 d2 d3 d4 hIn hm3 HS0
            clear hu
            obtain ⟨tk, ts, tn, ta, tl⟩ := tr
            simp only [Tr.kind, Tr.name, Tr.n, Tr.place] at d0 d1 d2 d3 d4
            by_cases q1 : (i : Int) < n
            · by_cases q2 : tk = 1
              · subst q2
                have HS : Hid (mayRL 8 n i (l.drop i) = (mayRT (.node 1 ts tn ta tl) false && mayRL 8 n (i + 1) (l.drop (i + 1)))) := by
                  show _ = _
                  rw [HS0.out]
                  simp only [Tr.kind]
                  simp [q1]
                cases hmt : mayRT (.node 1 ts tn ta tl) false
                all_goals
                  have HM := Lib.hid (ih (.node 1 ts tn ta tl) A' c' false wr.drew (by omega) (TIn.below _ hIn ((Below.refl _ wr).drew) (Nat.le_refl _)))
                  rw [hmt] at HM
                  have HMT := Lib.hid hmt
                  clear hmt
                  go_wp2_with fail
                  go_still_tail 12, (by kernel_rfl)
                  change wpList _ _ _ _ _ wr.drew
                  go_wp2_with fail
                  refine HM.out.mono ?_
                  rintro e w2 ⟨rfl, hb2'⟩
                  have hb2 : Below wr.heap.size wr w2 := (Below.refl _ wr).drew.trans hb2'
                  go_wp2_with fail
                · go_ret
                  exact ⟨ret_bool (by rw [HE.out, HQ.out, HS.out, HMT.out]; simp), hbw.trans (hb2.mono hbs)⟩
                · go_roundw
                  case rel =>
                    refine ⟨i + 1, by omega, by go_num, ?_, hL.below hb2 hL.lt, hbw.trans (hb2.mono hbs)⟩
                    show _ = _
                    rw [HQ.out, HS.out, HMT.out]; simp
                  case measure => simp [intOf]; omega
              · have q3 : (tk != 1) = true := by simpa using q2
                have HS : Hid (mayRL 8 n i (l.drop i) = false) := by
                  show _ = _
                  rw [HS0.out]
                  simp [q1, q2, Tr.kind]
                clear q2
                go_wp2_with fail
                go_ret
                exact ⟨ret_bool (by rw [HE.out, HQ.out, HS.out]), hbw⟩
            · have q1' : n ≤ (i : Int) := by omega
              have HS : Hid (mayRL 8 n i (l.drop i) = (mayRT (.node tk ts tn ta tl) false && mayRL 8 n (i + 1) (l.drop (i + 1)))) := by
                show _ = _
                rw [HS0.out]
                simp only [Tr.kind]
                rw [decide_eq_false q1]; simp
              clear q1'
              cases hmt : mayRT (.node tk ts tn ta tl) false
              all_goals
                have HM := Lib.hid (ih (.node tk ts tn ta tl) A' c' false wr.drew (by omega) (TIn.below _ hIn ((Below.refl _ wr).drew) (Nat.le_refl _)))
                rw [hmt] at HM
                have HMT := Lib.hid hmt
                clear hmt
                go_wp2_with fail
                go_still_tail 12, (by kernel_rfl)
                change wpList _ _ _ _ _ wr.drew
                go_wp2_with fail
                refine HM.out.mono ?_
                rintro e w2 ⟨rfl, hb2'⟩
                have hb2 : Below wr.heap.size wr w2 := (Below.refl _ wr).drew.trans hb2'
                go_wp2_with fail
              · go_ret
                exact ⟨ret_bool (by rw [HE.out, HQ.out, HS.out, HMT.out]; simp), hbw.trans (hb2.mono hbs)⟩
              · go_roundw
                case rel =>
                  refine ⟨i + 1, by omega, by go_num, ?_, hL.below hb2 hL.lt, hbw.trans (hb2.mono hbs)⟩
                  show _ = _
                  rw [HQ.out, HS.out, HMT.out]; simp
                case measure => simp [intOf]; omega
          · go_wp2_with fail
            go_ret
            obtain rfl : i = m := by omega
            exact ⟨ret_bool (by rw [HE.out, HQ.out, List.drop_eq_nil_of_le (by omega), mayRL]), hbw⟩
      · have HE7 : Hid (mayRT (.node 7 s n a l) false = mayRL 7 n 0 l) := HE.out
        clear HE
        have HE := HE7
        clear HE7
        show Calls Tryd.prog 46 #[.agg #[.int .i64 7, .string s, .int .i64 n, .int .i64 a, .slice A m c], .bool false] w fun e w' => e = .returned (.bool (mayRT (.node 7 s n a l) false)) ∧ Below w.heap.size w w'
        go_enter Tryd.func46, Tryd.ntmps46
        go_wp2_with fail
        refine HN.out.mono ?_
        rintro e w2 ⟨rfl, hb2⟩
        have hL2 := hL0.below hb2 (by simp)
        obtain ⟨⟨c0, c1, c2, c3, c4⟩, _⟩ := hL2.five
        go_wp2_with fail
        refine (HPP.out _).mono ?_
        rintro e w3 ⟨rfl, hb3⟩
        have hL3 := hL2.below hb3 hL2.lt
        have d3 := hL3.five.1.2.2.2.1
        have hbw3 : Below w.heap.size w w3 := (below_ac hb2).trans (hb3.mono (by have := hb2.size; simp at this; omega))
        clear hb2 hb3 hL0 hL2 c0 c1 c2 c3 c4
        go_wp2_with fail
        clear d3
        go_loopw [5] (fun x wr => ∃ i : Nat, i ≤ m ∧ x = .int .i64 i ∧ Hid (mayRL 7 n 0 l = mayRL 7 n i (l.drop i)) ∧ Lies wr w.heap.size 33 #[.int .i64 7, .string s, .int .i64 n, .int .i64 a, .slice A m c] ∧ Below w.heap.size w wr) (fun x _ => m - (intOf x).toNat)
        case atStart => exact ⟨0, by omega, rfl, by exact rfl, hL3, hbw3⟩
        case round =>
          obtain ⟨i, hi, rfl, HQ, hL, hbw⟩ := hrel
          have hbs := hbw.size
          obtain ⟨b0, b1, b2, b3, b4⟩ := hL.five.1
          by_cases hlt : i < m
          · have hia : i < l.length := by omega
            obtain ⟨g, o, A', c', ⟨hA, _⟩, d0, d1, d2, d3, d4, hIn⟩ := TIn.part (TIn.below _ HI.out hbw (Nat.le_refl _)) i hia
            subst hA
            have hm3 := depthL_mem l (l[i]'hia) (List.getElem_mem hia)
            have HS0 : Hid (mayRL 7 n i (l.drop i) = (!(decide ((7 : Int) = 8) && (decide ((i : Int) < n) && decide ((l[i]'hia).kind ≠ 1))) && (mayRT (l[i]'hia) (decide ((7 : Int) = 7) && decide (0 < i)) && mayRL 7 n (i + 1) (l.drop (i + 1))))) := by
              show _ = _
              rw [List.drop_eq_getElem_cons hia, mayRL]
            simp only [Tr.parts] at d0 d1 d2 d3 d4 hIn
            obtain ⟨tr, hu⟩ : ∃ tr, tr = l[i]'hia := ⟨_, rfl⟩
            rw [← hu] at d0 d1 d2 d3 d4 hIn hm3 HS0
            clear hu
            obtain ⟨tk, ts, tn, ta, tl⟩ := tr
            simp only [Tr.kind, Tr.name, Tr.n, Tr.place] at d0 d1 d2 d3 d4
            by_cases q1 : 0 < i
            · have q2 : (0 : Int) < (i : Int) := by omega
              have HS : Hid (mayRL 7 n i (l.drop i) = (mayRT (.node tk ts tn ta tl) true && mayRL 7 n (i + 1) (l.drop (i + 1)))) := by
                show _ = _
                rw [HS0.out]
                simp only [Tr.kind]
                simp [q1]
              cases hmt : mayRT (.node tk ts tn ta tl) true
              all_goals
                have HM := Lib.hid (ih (.node tk ts tn ta tl) A' c' true wr.drew (by omega) (TIn.below _ hIn ((Below.refl _ wr).drew) (Nat.le_refl _)))
                rw [hmt] at HM
                have HMT := Lib.hid hmt
                clear hmt
                go_wp2_with fail
                go_still_tail 12, (by kernel_rfl)
                change wpList _ _ _ _ _ wr.drew
                go_wp2_with fail
                refine HM.out.mono ?_
                rintro e w2 ⟨rfl, hb2'⟩
                have hb2 : Below wr.heap.size wr w2 := (Below.refl _ wr).drew.trans hb2'
                go_wp2_with fail
              · go_ret
                exact ⟨ret_bool (by rw [HE.out, HQ.out, HS.out, HMT.out]; simp), hbw.trans (hb2.mono hbs)⟩
              · go_roundw
                case rel =>
                  refine ⟨i + 1, by omega, by go_num, ?_, hL.below hb2 hL.lt, hbw.trans (hb2.mono hbs)⟩
                  show _ = _
                  rw [HQ.out, HS.out, HMT.out]; simp
                case measure => simp [intOf]; omega
            · have q2 : ¬ (0 : Int) < (i : Int) := by omega
              have HS : Hid (mayRL 7 n i (l.drop i) = (mayRT (.node tk ts tn ta tl) false && mayRL 7 n (i + 1) (l.drop (i + 1)))) := by
                show _ = _
                rw [HS0.out]
                simp only [Tr.kind]
                rw [decide_eq_false q1]; simp
              cases hmt : mayRT (.node tk ts tn ta tl) false
              all_goals
                have HM := Lib.hid (ih (.node tk ts tn ta tl) A' c' false wr.drew (by omega) (TIn.below _ hIn ((Below.refl _ wr).drew) (Nat.le_refl _)))
                rw [hmt] at HM
                have HMT := Lib.hid hmt
                clear hmt
                go_wp2_with fail
                go_still_tail 12, (by kernel_rfl)
                change wpList _ _ _ _ _ wr.drew
                go_wp2_with fail
                refine HM.out.mono ?_
                rintro e w2 ⟨rfl, hb2'⟩
                have hb2 : Below wr.heap.size wr w2 := (Below.refl _ wr).drew.trans hb2'
                go_wp2_with fail
              · go_ret
                exact ⟨ret_bool (by rw [HE.out, HQ.out, HS.out, HMT.out]; simp), hbw.trans (hb2.mono hbs)⟩
              · go_roundw
                case rel =>
                  refine ⟨i + 1, by omega, by go_num, ?_, hL.below hb2 hL.lt, hbw.trans (hb2.mono hbs)⟩
                  show _ = _
                  rw [HQ.out, HS.out, HMT.out]; simp
                case measure => simp [intOf]; omega
          · go_wp2_with fail
            go_ret
            obtain rfl : i = m := by omega
            exact ⟨ret_bool (by rw [HE.out, HQ.out, List.drop_eq_nil_of_le (by omega), mayRL]), hbw⟩
      · have e8 : (k == 8) = false := by simpa using q8
        have e7 : (k == 7) = false := by simpa using q7
        have Q8 := Lib.hid q8
        have Q7 := Lib.hid q7
        clear q8 q7
        have ed : decide (k = 8) = false := by simpa using Q8.out
        rw [ed] at HE ⊢
        clear ed
        go_enter Tryd.func46, Tryd.ntmps46
        go_wp2_with fail
        refine HN.out.mono ?_
        rintro e w2 ⟨rfl, hb2⟩
        have hL2 := hL0.below hb2 (by simp)
        obtain ⟨⟨c0, c1, c2, c3, c4⟩, _⟩ := hL2.five
        go_wp2_with fail
        refine (HPP.out _).mono ?_
        rintro e w3 ⟨rfl, hb3⟩
        have hL3 := hL2.below hb3 hL2.lt
        have d3 := hL3.five.1.2.2.2.1
        have hbw3 : Below w.heap.size w w3 := (below_ac hb2).trans (hb3.mono (by have := hb2.size; simp at this; omega))
        clear hb2 hb3 hL0 hL2 c0 c1 c2 c3 c4
        go_wp2_with fail
        clear d3
        go_loopw [5] (fun x wr => ∃ i : Nat, i ≤ m ∧ x = .int .i64 i ∧ Hid (mayRL k n 0 l = mayRL k n i (l.drop i)) ∧ Lies wr w.heap.size 33 #[.int .i64 k, .string s, .int .i64 n, .int .i64 a, .slice A m c] ∧ Below w.heap.size w wr) (fun x _ => m - (intOf x).toNat)
        case atStart => exact ⟨0, by omega, rfl, by exact rfl, hL3, hbw3⟩
        case round =>
          obtain ⟨i, hi, rfl, HQ, hL, hbw⟩ := hrel
          have hbs := hbw.size
          obtain ⟨b0, b1, b2, b3, b4⟩ := hL.five.1
          by_cases hlt : i < m
          · have hia : i < l.length := by omega
            obtain ⟨g, o, A', c', ⟨hA, _⟩, d0, d1, d2, d3, d4, hIn⟩ := TIn.part (TIn.below _ HI.out hbw (Nat.le_refl _)) i hia
            subst hA
            have hm3 := depthL_mem l (l[i]'hia) (List.getElem_mem hia)
            have HS0 : Hid (mayRL k n i (l.drop i) = (!(decide ((k : Int) = 8) && (decide ((i : Int) < n) && decide ((l[i]'hia).kind ≠ 1))) && (mayRT (l[i]'hia) (decide ((k : Int) = 7) && decide (0 < i)) && mayRL k n (i + 1) (l.drop (i + 1))))) := by
              show _ = _
              rw [List.drop_eq_getElem_cons hia, mayRL]
            simp only [Tr.parts] at d0 d1 d2 d3 d4 hIn
            obtain ⟨tr, hu⟩ : ∃ tr, tr = l[i]'hia := ⟨_, rfl⟩
            rw [← hu] at d0 d1 d2 d3 d4 hIn hm3 HS0
            clear hu
            obtain ⟨tk, ts, tn, ta, tl⟩ := tr
            simp only [Tr.kind, Tr.name, Tr.n, Tr.place] at d0 d1 d2 d3 d4
            have HS : Hid (mayRL k n i (l.drop i) = (mayRT (.node tk ts tn ta tl) false && mayRL k n (i + 1) (l.drop (i + 1)))) := by
              show _ = _
              rw [HS0.out]
              simp only [Tr.kind]
              simp [Q8.out, Q7.out]
            cases hmt : mayRT (.node tk ts tn ta tl) false
            all_goals
              have HM := Lib.hid (ih (.node tk ts tn ta tl) A' c' false wr.drew (by omega) (TIn.below _ hIn ((Below.refl _ wr).drew) (Nat.le_refl _)))
              rw [hmt] at HM
              have HMT := Lib.hid hmt
              clear hmt
              go_wp2_with fail
              go_still_tail 12, (by kernel_rfl)
              change wpList _ _ _ _ _ wr.drew
              go_wp2_with fail
              refine HM.out.mono ?_
              rintro e w2 ⟨rfl, hb2'⟩
              have hb2 : Below wr.heap.size wr w2 := (Below.refl _ wr).drew.trans hb2'
              go_wp2_with fail
            · go_ret
              exact ⟨ret_bool (by rw [HE.out, HQ.out, HS.out, HMT.out]; simp), hbw.trans (hb2.mono hbs)⟩
            · go_roundw
              case rel =>
                refine ⟨i + 1, by omega, by go_num, ?_, hL.below hb2 hL.lt, hbw.trans (hb2.mono hbs)⟩
                show _ = _
                rw [HQ.out, HS.out, HMT.out]; simp
              case measure => simp [intOf]; omega
          · go_wp2_with fail
            go_ret
            obtain rfl : i = m := by omega
            exact ⟨ret_bool (by rw [HE.out, HQ.out, List.drop_eq_nil_of_le (by omega), mayRL]), hbw⟩
end Lx
end Go.Proofs.YtnljlocogfacfaaDoor
