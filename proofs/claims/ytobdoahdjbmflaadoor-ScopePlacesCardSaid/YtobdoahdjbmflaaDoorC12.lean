/-
  Texts that lie one behind the other: RefMay RefMayT Lit R7G ScS MayInv ScU.
-/
import Derived.Test.YtobdoahdjbmflaaDoorC11
import Derived.Test.YtobdoahdjbmflaaDoorC4
import Derived.Test.YtobdoahdjbmflaaDoorC8
import Derived.Test.YtobdoahdjbmflaaDoorC9
import Derived.Test.YtobdoahdjbmflaaDoorC10
import Derived.Test.YtobdoahdjbmflaaDoorC1
import Derived.StillTailTactics
namespace Go.Proofs.YtobdoahdjbmflaaDoor
open Go.RowKit
namespace Lx
set_option maxRecDepth 100000
theorem str_empty' (s : ByteArray) : s.toList.isEmpty = (s.data.toList == []) := by rw [data_list]; cases s.data.toList <;> rfl
set_option maxHeartbeats 2000000 in
theorem rname_any (k n a : Int) (s : ByteArray) (A : Option Addr) (m c : Nat) (w : World) (hs : s.size ≤ 140737488351232) :
    Calls Tryd.prog 27 #[.agg #[.int .i64 k, .string s, .int .i64 n, .int .i64 a, .slice A m c]] w fun e w' => e = .returned (.bool (nameOkV k s.data.toList)) ∧ Below w.heap.size w w' := by
  have hb : Below w.heap.size w (w.alloc (.cells #[.int .i64 k, .string s, .int .i64 n, .int .i64 a, .slice A m c] 24)) := (Below.refl _ w).alloc (Nat.le_refl _) _
  have HT1 := Lib.hid (rtoken_any s 1 (w.alloc (.cells #[.int .i64 k, .string s, .int .i64 n, .int .i64 a, .slice A m c] 24)) (.inl rfl) hs)
  have HT2 := Lib.hid (rtoken_any s 2 (w.alloc (.cells #[.int .i64 k, .string s, .int .i64 n, .int .i64 a, .slice A m c] 24)) (.inr rfl) hs)
  have HE := Lib.hid (str_empty' s)
  rcases (by omega : k = 1 ∨ k = 2 ∨ k = 4 ∨ k = 5 ∨ k = 6 ∨ k = 8 ∨ k = 10 ∨ (k ≠ 1 ∧ k ≠ 2 ∧ k ≠ 4 ∧ k ≠ 5 ∧ k ≠ 6 ∧ k ≠ 8 ∧ k ≠ 10)) with rfl | rfl | rfl | rfl | rfl | rfl | rfl | ⟨n1, n2, n4, n5, n6, n8, n10⟩
  case inl | inr.inl | inr.inr.inl | inr.inr.inr.inl =>
    go_enter Tryd.func27, Tryd.ntmps27
    go_wp2_with fail
    refine HT1.out.mono ?_
    rintro e w2 ⟨rfl, hb2⟩
    go_wp2_with fail
    go_ret
    exact ⟨ret_bool (by simp [nameOkV, kindV]), below_al (Below.refl _ w) hb2⟩
  case inr.inr.inr.inr.inl | inr.inr.inr.inr.inr.inl =>
    go_enter Tryd.func27, Tryd.ntmps27
    go_wp2_with fail
    refine HT2.out.mono ?_
    rintro e w2 ⟨rfl, hb2⟩
    go_wp2_with fail
    go_ret
    exact ⟨ret_bool (by simp [nameOkV, kindV]), below_al (Below.refl _ w) hb2⟩
  · clear HT1 HT2
    go_enter Tryd.func27, Tryd.ntmps27
    go_wp2_with fail
    all_goals
      go_ret
      refine ⟨ret_bool ?_, hb⟩
      simp only [nameOkV]
      rw [← data_list]
      simp_all [opV, Bool.or_assoc]
  · clear HT1 HT2
    have e1 : (k == 1) = false := by simpa using n1
    have e2 : (k == 2) = false := by simpa using n2
    have e4 : (k == 4) = false := by simpa using n4
    have e5 : (k == 5) = false := by simpa using n5
    have e6 : (k == 6) = false := by simpa using n6
    have e8 : (k == 8) = false := by simpa using n8
    have e10 : (k == 10) = false := by simpa using n10
    have HF : Hid (nameOkV k s.data.toList = s.toList.isEmpty) := by
      show _ = _
      rw [HE.out]
      simp [nameOkV, n1, n2, n4, n5, n6, n8, n10]
    clear n1 n2 n4 n5 n6 n8 n10
    go_enter Tryd.func27, Tryd.ntmps27
    go_wp2_with fail
    go_ret
    exact ⟨ret_bool HF.out.symm, hb⟩
set_option maxHeartbeats 4000000 in
theorem rparts_any (k n a : Int) (s : ByteArray) (A : Option Addr) (m c : Nat) (w : World) (hm : m ≤ 140737488351232) :
    Calls Tryd.prog 28 #[.agg #[.int .i64 k, .string s, .int .i64 n, .int .i64 a, .slice A m c]] w fun e w' => e = .returned (.bool (partsV k n m)) ∧ Below w.heap.size w w' := by
  have hb : Below w.heap.size w (w.alloc (.cells #[.int .i64 k, .string s, .int .i64 n, .int .i64 a, .slice A m c] 24)) := (Below.refl _ w).alloc (Nat.le_refl _) _
  rcases (by omega : k = 1 ∨ k = 2 ∨ k = 3 ∨ k = 4 ∨ k = 5 ∨ k = 10 ∨ k = 6 ∨ k = 7 ∨ k = 9 ∨ k = 8 ∨ (k < 1 ∨ 10 < k)) with rfl | rfl | rfl | rfl | rfl | rfl | rfl | rfl | rfl | rfl | hk
  case inr.inr.inr.inr.inr.inr.inr.inr.inr.inr =>
    have e : ∀ j : Int, 1 ≤ j → j ≤ 10 → (k == j) = false := fun j h1 h2 => by simp; omega
    have e1 := e 1 (by omega) (by omega)
    have e2 := e 2 (by omega) (by omega)
    have e3 := e 3 (by omega) (by omega)
    have e4 := e 4 (by omega) (by omega)
    have e5 := e 5 (by omega) (by omega)
    have e6 := e 6 (by omega) (by omega)
    have e7 := e 7 (by omega) (by omega)
    have e8 := e 8 (by omega) (by omega)
    have e9 := e 9 (by omega) (by omega)
    have e10 := e 10 (by omega) (by omega)
    have HF : Hid (partsV k n m = false) := by
      have e : ∀ j : Int, 1 ≤ j → j ≤ 10 → k ≠ j := by omega
      show _ = _
      simp [partsV, e 1, e 2, e 3, e 4, e 5, e 6, e 7, e 8, e 9, e 10]
    clear e hk
    go_enter Tryd.func28, Tryd.ntmps28
    go_wp2_with fail
    go_ret
    exact ⟨ret_bool HF.out.symm, hb⟩
  case inr.inr.inr.inr.inr.inr.inr.inr.inr.inl =>
    by_cases h1 : 0 ≤ n
    · by_cases h2 : n ≤ 8
      · go_enter Tryd.func28, Tryd.ntmps28
        go_wp2_with fail
        go_ret
        refine ⟨ret_bool ?_, hb⟩
        rw [Bool.eq_iff_iff]; simp [partsV]; omega
      · go_enter Tryd.func28, Tryd.ntmps28
        go_wp2_with fail
        go_ret
        refine ⟨ret_bool ?_, hb⟩
        rw [Bool.eq_iff_iff]; simp [partsV]; omega
    · go_enter Tryd.func28, Tryd.ntmps28
      go_wp2_with fail
      go_ret
      refine ⟨ret_bool ?_, hb⟩
      rw [Bool.eq_iff_iff]; simp [partsV]; omega
  all_goals
    go_enter Tryd.func28, Tryd.ntmps28
    go_wp2_with fail
  all_goals
    go_ret
    refine ⟨ret_bool ?_, (Below.refl _ w).alloc (Nat.le_refl _) _⟩
    rw [Bool.eq_iff_iff]; simp [partsV] <;> omega
end Lx
end Go.Proofs.YtobdoahdjbmflaaDoor
namespace Go.Proofs.YtobdoahdjbmflaaDoor
open Go.RowKit
namespace Lx
set_option maxRecDepth 100000
set_option maxHeartbeats 2000000 in
theorem rmay_head (k n a : Int) (s : ByteArray) (A : Option Addr) (m c : Nat) (alt : Bool) (w : World) (hs : s.size ≤ 140737488351232) (hm : m ≤ 140737488351232)
    (h : ((decide (k = 8) == alt) && (nameOkV k s.data.toList && (partsV k n m && decide (0 ≤ a)))) = false) :
    Calls Tryd.prog 17 #[.agg #[.int .i64 k, .string s, .int .i64 n, .int .i64 a, .slice A m c], .bool alt] w fun e w' => e = .returned (.bool false) ∧ Below w.heap.size w w' := by
  have hb : Below w.heap.size w (w.alloc (.cells #[.int .i64 k, .string s, .int .i64 n, .int .i64 a, .slice A m c] 24)) := (Below.refl _ w).alloc (Nat.le_refl _) _
  have HN := Lib.hid (rname_any k n a s A m c (w.alloc (.cells #[.int .i64 k, .string s, .int .i64 n, .int .i64 a, .slice A m c] 24)) hs)
  have HP := fun w => rparts_any k n a s A m c w hm
  have HPP := Lib.hid HP
  clear HP
  have hL0 := Lies.new w 24 #[.int .i64 k, .string s, .int .i64 n, .int .i64 a, .slice A m c]
  by_cases h1 : (decide (k = 8) == alt) = true
  · have e1 : ((k == 8) == alt) = true := h1
    rw [h1, Bool.true_and] at h
    cases hn : nameOkV k s.data.toList
    · rw [hn] at HN
      have HH := Lib.hid h
      clear h h1 hn
      go_enter Tryd.func17, Tryd.ntmps17
      go_wp2_with fail
      refine HN.out.mono ?_
      rintro e w2 ⟨rfl, hb2⟩
      go_wp2_with fail
      go_ret
      exact ⟨rfl, below_ac hb2⟩
    · rw [hn] at HN h
      rw [Bool.true_and] at h
      cases hp : partsV k n m
      · rw [hp] at HPP
        have HH := Lib.hid h
        clear h h1 hn hp
        go_enter Tryd.func17, Tryd.ntmps17
        go_wp2_with fail
        refine HN.out.mono ?_
        rintro e w2 ⟨rfl, hb2⟩
        obtain ⟨⟨c0, c1, c2, c3, c4⟩, _⟩ := (hL0.below hb2 (by simp)).five
        go_wp2_with fail
        refine (HPP.out _).mono ?_
        rintro e w3 ⟨rfl, hb3⟩
        go_wp2_with fail
        go_ret
        exact ⟨rfl, (below_ac hb2).trans (hb3.mono (by have := hb2.size; simp at this; omega))⟩
      · rw [hp, Bool.true_and] at h
        rw [hp] at HPP
        have ha : a < 0 := by simpa using h
        clear h h1 hn hp
        go_enter Tryd.func17, Tryd.ntmps17
        go_wp2_with fail
        refine HN.out.mono ?_
        rintro e w2 ⟨rfl, hb2⟩
        have hL2 := hL0.below hb2 (by simp)
        obtain ⟨⟨c0, c1, c2, c3, c4⟩, _⟩ := hL2.five
        go_wp2_with fail
        refine (HPP.out _).mono ?_
        rintro e w3 ⟨rfl, hb3⟩
        have d3 := (hL2.below hb3 hL2.lt).five.1.2.2.2.1
        go_wp2_with fail
        go_ret
        exact ⟨rfl, (below_ac hb2).trans (hb3.mono (by have := hb2.size; simp at this; omega))⟩
  · have e1 : ((k == 8) == alt) = false := Bool.eq_false_iff.2 h1
    have HH := Lib.hid h
    clear h h1
    go_enter Tryd.func17, Tryd.ntmps17
    go_wp2_with fail
    go_ret
    exact ⟨rfl, hb⟩
set_option maxHeartbeats 8000000 in
theorem rmay_any (d : Nat) : ∀ (t : Tr) (A : Option Addr) (c : Nat) (alt : Bool) (w : World), depthT t ≤ d → TIn w Any t A →
    Calls Tryd.prog 17 #[tv t A c, .bool alt] w fun e w' => e = .returned (.bool (mayRT t alt)) ∧ Below w.heap.size w w' := by
  induction d with
  | zero => intro t A c alt w h; have := depth_pos t; omega
  | succ d ih =>
    intro t A c alt w hd hI
    obtain ⟨k, s, n, a, l⟩ := t
    have hdL : depthL l ≤ d := by rw [depthT] at hd; omega
    have hlen : l.length ≤ 140737488351232 := by rw [TIn] at hI; exact hI.2.1
    have hss : s.size ≤ 140737488351232 := by rw [TIn] at hI; exact hI.1
    have HI := Lib.hid hI
    clear hI hd
    show Calls Tryd.prog 17 #[.agg #[.int .i64 k, .string s, .int .i64 n, .int .i64 a, .slice A l.length (capF l.length c)], .bool alt] w _
    generalize capF l.length c = c
    cases hh : ((decide (k = 8) == alt) && (nameOkV k s.data.toList && (partsV k n l.length && decide (0 ≤ a))))
    · refine (rmay_head k n a s A _ c alt w hss hlen hh).mono ?_
      rintro e w' ⟨rfl, hb⟩
      refine ⟨ret_bool ?_, hb⟩
      rw [mayRT]
      cases h1 : (decide (k = 8) == alt) <;> cases h2 : nameOkV k s.data.toList <;> cases h3 : partsV k n l.length <;> cases h4 : decide (0 ≤ a) <;> simp_all
    · simp only [Bool.and_eq_true] at hh
      obtain ⟨h1, h2, h3, h4⟩ := hh
      have HE : Hid (mayRT (.node k s n a l) alt = mayRL k n 0 l) := by
        show _ = _
        rw [mayRT, h1, h2, h3, h4]; simp
      have hda : decide (a < 0) = false := by have := of_decide_eq_true h4; simp; omega
      have HN := Lib.hid (rname_any k n a s A l.length c (w.alloc (.cells #[.int .i64 k, .string s, .int .i64 n, .int .i64 a, .slice A l.length c] 24)) hss)
      have HP := fun w => rparts_any k n a s A l.length c w hlen
      rw [h2] at HN
      rw [h3] at HP
      have HPP := Lib.hid HP
      have halt : alt = decide (k = 8) := by cases alt <;> cases hk8 : decide (k = 8) <;> simp_all
      clear HP h1 h2 h3 h4
      subst halt
      obtain ⟨m, hm'⟩ : ∃ m, m = l.length := ⟨_, rfl⟩
      rw [← hm'] at hlen HN HPP ⊢
      have hm1 : m ≤ l.length := by omega
      have hm2 : l.length ≤ m := by omega
      clear hm'
      have hL0 := Lies.new w 24 #[.int .i64 k, .string s, .int .i64 n, .int .i64 a, .slice A m c]
      rcases (by omega : k = 8 ∨ k = 7 ∨ (k ≠ 8 ∧ k ≠ 7)) with rfl | rfl | ⟨q8, q7⟩
      · have HE8 : Hid (mayRT (.node 8 s n a l) true = mayRL 8 n 0 l) := HE.out
        clear HE
        have HE := HE8
        clear HE8
        show Calls Tryd.prog 17 #[.agg #[.int .i64 8, .string s, .int .i64 n, .int .i64 a, .slice A m c], .bool true] w fun e w' => e = .returned (.bool (mayRT (.node 8 s n a l) true)) ∧ Below w.heap.size w w'
        go_enter Tryd.func17, Tryd.ntmps17
        go_wp2_with fail
        refine HN.out.mono ?_
        rintro e w2 ⟨rfl, hb2⟩
        have hL2 := hL0.below hb2 (by simp)
        obtain ⟨⟨c0, c1, c2, c3, c4⟩, _⟩ := hL2.five
        go_wp2_with fail
        refine (HPP.out _).mono ?_
        rintro e w3 ⟨rfl, hb3⟩
        have hL3 := hL2.below hb3 hL2.lt
        have d3 := hL3.five.1.2.2.2.1
        have hbw3 : Below w.heap.size w w3 := (below_ac hb2).trans (hb3.mono (by have := hb2.size; simp at this; omega))
        clear hb2 hb3 hL0 hL2 c0 c1 c2 c3 c4
        go_wp2_with fail
        clear d3
        go_loopw [5] (fun x wr => ∃ i : Nat, i ≤ m ∧ x = .int .i64 i ∧ Hid (mayRL 8 n 0 l = mayRL 8 n i (l.drop i)) ∧ Lies wr w.heap.size 24 #[.int .i64 8, .string s, .int .i64 n, .int .i64 a, .slice A m c] ∧ Below w.heap.size w wr) (fun x _ => m - (intOf x).toNat)
        case atStart => exact ⟨0, by omega, rfl, by exact rfl, hL3, hbw3⟩
        case round =>
          obtain ⟨i, hi, rfl, HQ, hL, hbw⟩ := hrel
          have hbs := hbw.size
          obtain ⟨b0, b1, b2, b3, b4⟩ := hL.five.1
          by_cases hlt : i < m
          · have hia : i < l.length := by omega
            obtain ⟨g, o, A', c', ⟨hA, _⟩, d0, d1, d2, d3, d4, hIn⟩ := TIn.part (TIn.below _ HI.out hbw (Nat.le_refl _)) i hia
            subst hA
            have hm3 := depthL_mem l (l[i]'hia) (List.getElem_mem hia)
            have HS0 : Hid (mayRL 8 n i (l.drop i) = (!(decide ((8 : Int) = 8) && (decide ((i : Int) < n) && decide ((l[i]'hia).kind ≠ 1))) && (mayRT (l[i]'hia) (decide ((8 : Int) = 7) && decide (0 < i)) && mayRL 8 n (i + 1) (l.drop (i + 1))))) := by
              show _ = _
              rw [List.drop_eq_getElem_cons hia, mayRL]
            simp only [Tr.parts] at d0 d1 d2 d3 d4 hIn
            obtain ⟨tr, hu⟩ : ∃ tr, tr = l[i]'hia := ⟨_, rfl⟩
            rw [← hu] at d0 d1 d2 d3 d4 hIn hm3 HS0
            clear hu
            obtain ⟨tk, ts, tn, ta, tl⟩ := tr
            simp only [Tr.kind, Tr.name, Tr.n, Tr.place] at d0 d1 d2 d3 d4
            by_cases q1 : (i : Int) < n
            · by_cases q2 : tk = 1
              · subst q2
                have HS : Hid (mayRL 8 n i (l.drop i) = (mayRT (.node 1 ts tn ta tl) false && mayRL 8 n (i + 1) (l.drop (i + 1)))) := by
                  show _ = _
                  rw [HS0.out]
                  simp only [Tr.kind]
                  simp [q1]
                cases hmt : mayRT (.node 1 ts tn ta tl) false
                all_goals
                  have HM := Lib.hid (ih (.node 1 ts tn ta tl) A' c' false wr.drew (by omega) (TIn.below _ hIn ((Below.refl _ wr).drew) (Nat.le_refl _)))
                  rw [hmt] at HM
                  have HMT := Lib.hid hmt
                  clear hmt
                  go_wp2_with fail
                  go_still_tail 12, (by kernel_rfl)
                  change wpList _ _ _ _ _ wr.drew
                  go_wp2_with fail
                  refine HM.out.mono ?_
                  rintro e w2 ⟨rfl, hb2'⟩
                  have hb2 : Below wr.heap.size wr w2 := (Below.refl _ wr).drew.trans hb2'
                  go_wp2_with fail
                · go_ret
                  exact ⟨ret_bool (by rw [HE.out, HQ.out, HS.out, HMT.out]; simp), hbw.trans (hb2.mono hbs)⟩
                · go_roundw
                  case rel =>
                    refine ⟨i + 1, by omega, by go_num, ?_, hL.below hb2 hL.lt, hbw.trans (hb2.mono hbs)⟩
                    show _ = _
                    rw [HQ.out, HS.out, HMT.out]; simp
                  case measure => simp [intOf]; omega
              · have q3 : (tk != 1) = true := by simpa using q2
                have HS : Hid (mayRL 8 n i (l.drop i) = false) := by
                  show _ = _
                  rw [HS0.out]
                  simp [q1, q2, Tr.kind]
                clear q2
                go_wp2_with fail
                go_ret
                exact ⟨ret_bool (by rw [HE.out, HQ.out, HS.out]), hbw⟩
            · have q1' : n ≤ (i : Int) := by omega
              have HS : Hid (mayRL 8 n i (l.drop i) = (mayRT (.node tk ts tn ta tl) false && mayRL 8 n (i + 1) (l.drop (i + 1)))) := by
                show _ = _
                rw [HS0.out]
                simp only [Tr.kind]
                rw [decide_eq_false q1]; simp
              clear q1'
              cases hmt : mayRT (.node tk ts tn ta tl) false
              all_goals
                have HM := Lib.hid (ih (.node tk ts tn ta tl) A' c' false wr.drew (by omega) (TIn.below _ hIn ((Below.refl _ wr).drew) (Nat.le_refl _)))
                rw [hmt] at HM
                have HMT := Lib.hid hmt
                clear hmt
                go_wp2_with fail
                go_still_tail 12, (by kernel_rfl)
                change wpList _ _ _ _ _ wr.drew
                go_wp2_with fail
                refine HM.out.mono ?_
                rintro e w2 ⟨rfl, hb2'⟩
                have hb2 : Below wr.heap.size wr w2 := (Below.refl _ wr).drew.trans hb2'
                go_wp2_with fail
              · go_ret
                exact ⟨ret_bool (by rw [HE.out, HQ.out, HS.out, HMT.out]; simp), hbw.trans (hb2.mono hbs)⟩
              · go_roundw
                case rel =>
                  refine ⟨i + 1, by omega, by go_num, ?_, hL.below hb2 hL.lt, hbw.trans (hb2.mono hbs)⟩
                  show _ = _
                  rw [HQ.out, HS.out, HMT.out]; simp
                case measure => simp [intOf]; omega
          · go_wp2_with fail
            go_ret
            obtain rfl : i = m := by omega
            exact ⟨ret_bool (by rw [HE.out, HQ.out, List.drop_eq_nil_of_le (by omega), mayRL]), hbw⟩
      · have HE7 : Hid (mayRT (.node 7 s n a l) false = mayRL 7 n 0 l) := HE.out
        clear HE
        have HE := HE7
        clear HE7
        show Calls Tryd.prog 17 #[.agg #[.int .i64 7, .string s, .int .i64 n, .int .i64 a, .slice A m c], .bool false] w fun e w' => e = .returned (.bool (mayRT (.node 7 s n a l) false)) ∧ Below w.heap.size w w'
        go_enter Tryd.func17, Tryd.ntmps17
        go_wp2_with fail
        refine HN.out.mono ?_
        rintro e w2 ⟨rfl, hb2⟩
        have hL2 := hL0.below hb2 (by simp)
        obtain ⟨⟨c0, c1, c2, c3, c4⟩, _⟩ := hL2.five
        go_wp2_with fail
        refine (HPP.out _).mono ?_
        rintro e w3 ⟨rfl, hb3⟩
        have hL3 := hL2.below hb3 hL2.lt
        have d3 := hL3.five.1.2.2.2.1
        have hbw3 : Below w.heap.size w w3 := (below_ac hb2).trans (hb3.mono (by have := hb2.size; simp at this; omega))
        clear hb2 hb3 hL0 hL2 c0 c1 c2 c3 c4
        go_wp2_with fail
        clear d3
        go_loopw [5] (fun x wr => ∃ i : Nat, i ≤ m ∧ x = .int .i64 i ∧ Hid (mayRL 7 n 0 l = mayRL 7 n i (l.drop i)) ∧ Lies wr w.heap.size 24 #[.int .i64 7, .string s, .int .i64 n, .int .i64 a, .slice A m c] ∧ Below w.heap.size w wr) (fun x _ => m - (intOf x).toNat)
        case atStart => exact ⟨0, by omega, rfl, by exact rfl, hL3, hbw3⟩
        case round =>
          obtain ⟨i, hi, rfl, HQ, hL, hbw⟩ := hrel
          have hbs := hbw.size
          obtain ⟨b0, b1, b2, b3, b4⟩ := hL.five.1
          by_cases hlt : i < m
          · have hia : i < l.length := by omega
            obtain ⟨g, o, A', c', ⟨hA, _⟩, d0, d1, d2, d3, d4, hIn⟩ := TIn.part (TIn.below _ HI.out hbw (Nat.le_refl _)) i hia
            subst hA
            have hm3 := depthL_mem l (l[i]'hia) (List.getElem_mem hia)
            have HS0 : Hid (mayRL 7 n i (l.drop i) = (!(decide ((7 : Int) = 8) && (decide ((i : Int) < n) && decide ((l[i]'hia).kind ≠ 1))) && (mayRT (l[i]'hia) (decide ((7 : Int) = 7) && decide (0 < i)) && mayRL 7 n (i + 1) (l.drop (i + 1))))) := by
              show _ = _
              rw [List.drop_eq_getElem_cons hia, mayRL]
            simp only [Tr.parts] at d0 d1 d2 d3 d4 hIn
            obtain ⟨tr, hu⟩ : ∃ tr, tr = l[i]'hia := ⟨_, rfl⟩
            rw [← hu] at d0 d1 d2 d3 d4 hIn hm3 HS0
            clear hu
            obtain ⟨tk, ts, tn, ta, tl⟩ := tr
            simp only [Tr.kind, Tr.name, Tr.n, Tr.place] at d0 d1 d2 d3 d4
            by_cases q1 : 0 < i
            · have q2 : (0 : Int) < (i : Int) := by omega
              have HS : Hid (mayRL 7 n i (l.drop i) = (mayRT (.node tk ts tn ta tl) true && mayRL 7 n (i + 1) (l.drop (i + 1)))) := by
                show _ = _
                rw [HS0.out]
                simp only [Tr.kind]
                simp [q1]
              cases hmt : mayRT (.node tk ts tn ta tl) true
              all_goals
                have HM := Lib.hid (ih (.node tk ts tn ta tl) A' c' true wr.drew (by omega) (TIn.below _ hIn ((Below.refl _ wr).drew) (Nat.le_refl _)))
                rw [hmt] at HM
                have HMT := Lib.hid hmt
                clear hmt
                go_wp2_with fail
                go_still_tail 12, (by kernel_rfl)
                change wpList _ _ _ _ _ wr.drew
                go_wp2_with fail
                refine HM.out.mono ?_
                rintro e w2 ⟨rfl, hb2'⟩
                have hb2 : Below wr.heap.size wr w2 := (Below.refl _ wr).drew.trans hb2'
                go_wp2_with fail
              · go_ret
                exact ⟨ret_bool (by rw [HE.out, HQ.out, HS.out, HMT.out]; simp), hbw.trans (hb2.mono hbs)⟩
              · go_roundw
                case rel =>
                  refine ⟨i + 1, by omega, by go_num, ?_, hL.below hb2 hL.lt, hbw.trans (hb2.mono hbs)⟩
                  show _ = _
                  rw [HQ.out, HS.out, HMT.out]; simp
                case measure => simp [intOf]; omega
            · have q2 : ¬ (0 : Int) < (i : Int) := by omega
              have HS : Hid (mayRL 7 n i (l.drop i) = (mayRT (.node tk ts tn ta tl) false && mayRL 7 n (i + 1) (l.drop (i + 1)))) := by
                show _ = _
                rw [HS0.out]
                simp only [Tr.kind]
                rw [decide_eq_false q1]; simp
              cases hmt : mayRT (.node tk ts tn ta tl) false
              all_goals
                have HM := Lib.hid (ih (.node tk ts tn ta tl) A' c' false wr.drew (by omega) (TIn.below _ hIn ((Below.refl _ wr).drew) (Nat.le_refl _)))
                rw [hmt] at HM
                have HMT := Lib.hid hmt
                clear hmt
                go_wp2_with fail
                go_still_tail 12, (by kernel_rfl)
                change wpList _ _ _ _ _ wr.drew
                go_wp2_with fail
                refine HM.out.mono ?_
                rintro e w2 ⟨rfl, hb2'⟩
                have hb2 : Below wr.heap.size wr w2 := (Below.refl _ wr).drew.trans hb2'
                go_wp2_with fail
              · go_ret
                exact ⟨ret_bool (by rw [HE.out, HQ.out, HS.out, HMT.out]; simp), hbw.trans (hb2.mono hbs)⟩
              · go_roundw
                case rel =>
                  refine ⟨i + 1, by omega, by go_num, ?_, hL.below hb2 hL.lt, hbw.trans (hb2.mono hbs)⟩
                  show _ = _
                  rw [HQ.out, HS.out, HMT.out]; simp
                case measure => simp [intOf]; omega
          · go_wp2_with fail
            go_ret
            obtain rfl : i = m := by omega
            exact ⟨ret_bool (by rw [HE.out, HQ.out, List.drop_eq_nil_of_le (by omega), mayRL]), hbw⟩
      · have e8 : (k == 8) = false := by simpa using q8
        have e7 : (k == 7) = false := by simpa using q7
        have Q8 := Lib.hid q8
        have Q7 := Lib.hid q7
        clear q8 q7
        have ed : decide (k = 8) = false := by simpa using Q8.out
        rw [ed] at HE ⊢
        clear ed
        go_enter Tryd.func17, Tryd.ntmps17
        go_wp2_with fail
        refine HN.out.mono ?_
        rintro e w2 ⟨rfl, hb2⟩
        have hL2 := hL0.below hb2 (by simp)
        obtain ⟨⟨c0, c1, c2, c3, c4⟩, _⟩ := hL2.five
        go_wp2_with fail
        refine (HPP.out _).mono ?_
        rintro e w3 ⟨rfl, hb3⟩
        have hL3 := hL2.below hb3 hL2.lt
        have d3 := hL3.five.1.2.2.2.1
        have hbw3 : Below w.heap.size w w3 := (below_ac hb2).trans (hb3.mono (by have := hb2.size; simp at this; omega))
        clear hb2 hb3 hL0 hL2 c0 c1 c2 c3 c4
        go_wp2_with fail
        clear d3
        go_loopw [5] (fun x wr => ∃ i : Nat, i ≤ m ∧ x = .int .i64 i ∧ Hid (mayRL k n 0 l = mayRL k n i (l.drop i)) ∧ Lies wr w.heap.size 24 #[.int .i64 k, .string s, .int .i64 n, .int .i64 a, .slice A m c] ∧ Below w.heap.size w wr) (fun x _ => m - (intOf x).toNat)
        case atStart => exact ⟨0, by omega, rfl, by exact rfl, hL3, hbw3⟩
        case round =>
          obtain ⟨i, hi, rfl, HQ, hL, hbw⟩ := hrel
          have hbs := hbw.size
          obtain ⟨b0, b1, b2, b3, b4⟩ := hL.five.1
          by_cases hlt : i < m
          · have hia : i < l.length := by omega
            obtain ⟨g, o, A', c', ⟨hA, _⟩, d0, d1, d2, d3, d4, hIn⟩ := TIn.part (TIn.below _ HI.out hbw (Nat.le_refl _)) i hia
            subst hA
            have hm3 := depthL_mem l (l[i]'hia) (List.getElem_mem hia)
            have HS0 : Hid (mayRL k n i (l.drop i) = (!(decide ((k : Int) = 8) && (decide ((i : Int) < n) && decide ((l[i]'hia).kind ≠ 1))) && (mayRT (l[i]'hia) (decide ((k : Int) = 7) && decide (0 < i)) && mayRL k n (i + 1) (l.drop (i + 1))))) := by
              show _ = _
              rw [List.drop_eq_getElem_cons hia, mayRL]
            simp only [Tr.parts] at d0 d1 d2 d3 d4 hIn
            obtain ⟨tr, hu⟩ : ∃ tr, tr = l[i]'hia := ⟨_, rfl⟩
            rw [← hu] at d0 d1 d2 d3 d4 hIn hm3 HS0
            clear hu
            obtain ⟨tk, ts, tn, ta, tl⟩ := tr
            simp only [Tr.kind, Tr.name, Tr.n, Tr.place] at d0 d1 d2 d3 d4
            have HS : Hid (mayRL k n i (l.drop i) = (mayRT (.node tk ts tn ta tl) false && mayRL k n (i + 1) (l.drop (i + 1)))) := by
              show _ = _
              rw [HS0.out]
              simp only [Tr.kind]
              simp [Q8.out, Q7.out]
            cases hmt : mayRT (.node tk ts tn ta tl) false
            all_goals
              have HM := Lib.hid (ih (.node tk ts tn ta tl) A' c' false wr.drew (by omega) (TIn.below _ hIn ((Below.refl _ wr).drew) (Nat.le_refl _)))
              rw [hmt] at HM
              have HMT := Lib.hid hmt
              clear hmt
              go_wp2_with fail
              go_still_tail 12, (by kernel_rfl)
              change wpList _ _ _ _ _ wr.drew
              go_wp2_with fail
              refine HM.out.mono ?_
              rintro e w2 ⟨rfl, hb2'⟩
              have hb2 : Below wr.heap.size wr w2 := (Below.refl _ wr).drew.trans hb2'
              go_wp2_with fail
            · go_ret
              exact ⟨ret_bool (by rw [HE.out, HQ.out, HS.out, HMT.out]; simp), hbw.trans (hb2.mono hbs)⟩
            · go_roundw
              case rel =>
                refine ⟨i + 1, by omega, by go_num, ?_, hL.below hb2 hL.lt, hbw.trans (hb2.mono hbs)⟩
                show _ = _
                rw [HQ.out, HS.out, HMT.out]; simp
              case measure => simp [intOf]; omega
          · go_wp2_with fail
            go_ret
            obtain rfl : i = m := by omega
            exact ⟨ret_bool (by rw [HE.out, HQ.out, List.drop_eq_nil_of_le (by omega), mayRL]), hbw⟩
end Lx
end Go.Proofs.YtobdoahdjbmflaaDoor
namespace Go.Proofs.YtobdoahdjbmflaaDoor
open Go.RowKit
namespace Lx
set_option maxRecDepth 100000
theorem TIn.mk {w : World} {X : Nat → Prop} {k n a : Int} {s : ByteArray} {l : List Tr} {A : Option Addr} (hs : s.size ≤ 140737488351232) (hl : l.length ≤ 140737488351232) (h : LIn w X l A 0) : TIn w X (.node k s n a l) A := by
  rw [TIn]; exact ⟨hs, hl, h⟩
theorem TIn.leaf {w : World} {X : Nat → Prop} {k n a : Int} {s : ByteArray} {A : Option Addr} (hs : s.size ≤ 140737488351232) : TIn w X (.node k s n a []) A :=
  TIn.mk hs (by simp) (by rw [LIn]; trivial)
theorem LIn.of_lies {w : World} {X : Nat → Prop} {l : List Tr} {xs : List Value} {g : Nat} {cs : Array Value} {t : TypeId} (h : RowTr w X l xs) (L : Lies w g t cs) (hcs : cs.toList = xs) (hg : X g) : LIn w X l (some ⟨g, 0, none⟩) 0 := by
  refine h.parts hg (fun _ hb _ => hb) fun j u hu => ?_
  rw [Nat.zero_add, L.cell j, ← hu, ← hcs, Array.getElem?_toList]
theorem LIn.one {w : World} {X : Nat → Prop} {t1 : Tr} {A1 : Option Addr} {c1 : Nat} {g : Nat} {cs : Array Value} {t : TypeId} (L : Lies w g t cs) (hcs : cs.toList = cellsT t1 A1 c1) (hg : X g) (h1 : TIn w X t1 A1) : LIn w X [t1] (some ⟨g, 0, none⟩) 0 :=
  LIn.of_lies ((RowTr.nil w X).snoc (c := c1) h1) L (by simpa using hcs) hg
theorem LIn.two {w : World} {X : Nat → Prop} {t1 t2 : Tr} {A1 A2 : Option Addr} {c1 c2 : Nat} {g : Nat} {cs : Array Value} {t : TypeId} (L : Lies w g t cs) (hcs : cs.toList = cellsT t1 A1 c1 ++ cellsT t2 A2 c2) (hg : X g) (h1 : TIn w X t1 A1) (h2 : TIn w X t2 A2) : LIn w X [t1, t2] (some ⟨g, 0, none⟩) 0 :=
  LIn.of_lies (((RowTr.nil w X).snoc (c := c1) h1).snoc (c := c2) h2) L (by simpa using hcs) hg
theorem rMay_any (t : Tr) (A : Option Addr) (c : Nat) (w : World) (hI : TIn w Any t A) :
    Calls Tryd.prog 8 #[tv t A c] w fun e w' => e = .returned (.bool (mayV t)) ∧ Below w.heap.size w w' := by
  have hE : mayRT t false = mayV t := by
    rw [may_eq]
    unfold mayV
    by_cases h : t.kind = 8 <;> simp [h]
  obtain ⟨k, s, n, a, l⟩ := t
  have HM := Lib.hid (rmay_any (depthT (.node k s n a l)) (.node k s n a l) A c false (w.alloc (.cells #[.int .i64 k, .string s, .int .i64 n, .int .i64 a, .slice A l.length (capF l.length c)] 24)) (Nat.le_refl _) (TIn.below _ hI ((Below.refl _ w).alloc (Nat.le_refl _) _) (Nat.le_refl _)))
  rw [hE] at HM
  clear hE hI
  show Calls Tryd.prog 8 #[.agg #[.int .i64 k, .string s, .int .i64 n, .int .i64 a, .slice A l.length (capF l.length c)]] w _
  go_enter Tryd.func8, Tryd.ntmps8
  go_wp2_with fail
  refine HM.out.mono ?_
  rintro e w2 ⟨rfl, hb2⟩
  go_wp2_with fail
  go_ret
  exact ⟨rfl, below_ac hb2⟩

def bx : ByteArray := ⟨#[120]⟩
def T1 : Tr := .node 2 bx 0 1 [.node 1 bx 0 3 []]
def T2 : Tr := .node 9 ⟨#[]⟩ 7 6 []
/-- A function that tells what it is told, applied to a number. -/
def T0 : Tr := .node 3 ⟨#[]⟩ 0 0 [T1, T2]
theorem LIn.shift : ∀ (l : List Tr) {w : World} {X : Nat → Prop} {g o j : Nat}, LIn w X l (some ⟨g, o, none⟩) (j + 1) → LIn w X l (some ⟨g, o + 5, none⟩) j
  | [], w, X, g, o, j, _ => by rw [LIn]; trivial
  | t :: r, w, X, g, o, j, h => by
    rw [LIn] at h ⊢
    obtain ⟨⟨g', o', A', c, ⟨e, hX⟩, h0, h1, h2, h3, h4, ht⟩, hr⟩ := h
    injection e with e
    injection e with e1 e2
    subst e1 e2
    have ho : o + 5 + j * 5 = o + (j + 1) * 5 := by omega
    exact ⟨⟨g, o + 5, A', c, ⟨rfl, hX⟩, by rw [ho]; exact h0, by rw [ho]; exact h1, by rw [ho]; exact h2, by rw [ho]; exact h3, by rw [ho]; exact h4, ht⟩, LIn.shift r hr⟩

/-- What stands all along: the law's tree, its bare one, and the table of signs. -/
structure Fx (w W : World) (g G1 G2 : Nat) (A2 : Option Addr) (c2 : Nat) : Prop where
  lt : Lies W G1 24 #[.int .i64 3, .string ⟨#[]⟩, .int .i64 0, .int .i64 0, .slice (some ⟨g, 0, none⟩) 2 2]
  lb : Lies W G2 24 #[.int .i64 3, .string ⟨#[]⟩, .int .i64 0, .int .i64 0, .slice A2 2 c2]
  t0 : TIn W Any T0 (some ⟨g, 0, none⟩)
  b0 : TIn W Any (bareT T0) A2
  sg : Signs W
  bw : Below w.heap.size w W
theorem Fx.step {w W W' : World} {g G1 G2 : Nat} {A2 : Option Addr} {c2 : Nat} (h : Fx w W g G1 G2 A2 c2) (hb : Below W.heap.size W W') : Fx w W' g G1 G2 A2 c2 :=
  ⟨h.lt.below hb h.lt.lt, h.lb.below hb h.lb.lt, TIn.below _ h.t0 hb (Nat.le_refl _), TIn.below _ h.b0 hb (Nat.le_refl _), h.sg.below hb h.sg.pos, h.bw.trans (hb.mono h.bw.size)⟩
theorem Fx.part {w W : World} {g G1 G2 : Nat} {A2 : Option Addr} {c2 : Nat} (h : Fx w W g G1 G2 A2 c2) : ∃ A' c', W.cell? ⟨g, 0, none⟩ = some (.int .i64 2) ∧ W.cell? ⟨g, 1, none⟩ = some (.string bx) ∧ W.cell? ⟨g, 2, none⟩ = some (.int .i64 0) ∧ W.cell? ⟨g, 3, none⟩ = some (.int .i64 1) ∧ W.cell? ⟨g, 4, none⟩ = some (.slice A' 1 c') ∧ TIn W Any T1 A' := by
  obtain ⟨g', o', A', c', ⟨e, _⟩, h0, h1, h2, h3, h4, ht⟩ := h.t0.part 0 (by decide)
  injection e with e
  injection e with e1 e2
  subst e1 e2
  exact ⟨A', capF 1 c', h0, h1, h2, h3, h4, ht⟩
theorem Fx.bare {w W : World} {g G1 G2 : Nat} {A2 : Option Addr} {c2 : Nat} (h : Fx w W g G1 G2 A2 c2) : ∃ g' o', A2 = some ⟨g', o', none⟩ ∧ W.cell? ⟨g', o' + 3, none⟩ = some (.int .i64 0) := by
  obtain ⟨g', o', A', c', ⟨e, _⟩, h0, h1, h2, h3, h4, ht⟩ := h.b0.part 0 (by decide)
  refine ⟨g', o', e, ?_⟩
  rw [Nat.zero_mul, Nat.add_zero] at h3
  exact h3
/-- The alternative of the second part. -/
def T8 : Tr := .node 8 ⟨#[65]⟩ 0 0 [T2]
theorem Fx.alt {w W : World} {g G1 G2 : Nat} {A2 : Option Addr} {c2 : Nat} (h : Fx w W g G1 G2 A2 c2) : TIn W Any T8 (some ⟨g, 5, none⟩) := by
  have h0 := h.t0
  unfold T0 at h0
  rw [TIn, LIn] at h0
  have h1 := LIn.shift _ h0.2.2.2
  rw [Nat.zero_add] at h1
  exact TIn.mk (by decide) (by decide) h1
end Lx
end Go.Proofs.YtobdoahdjbmflaaDoor
namespace Go.Proofs.YtobdoahdjbmflaaDoor
open Go.RowKit
namespace Lx
set_option maxRecDepth 100000
theorem mayV_ok (t : Tr) (h : mayV t = true) : okT t := by
  have hE : mayRT t false = mayV t := by
    rw [may_eq]
    unfold mayV
    by_cases h : t.kind = 8 <;> simp [h]
  exact mayR_ok t false (by rw [hE, h])
theorem onceN_cons_len (t : Tr) : (consT t).length ≤ 2 + sizeT t := by
  have h1 := (onceN_len heads5 (metT t)).2
  have h2 := metT_len t
  have h3 : heads5.length = 2 := rfl
  show (onceN heads5 (metT t)).length ≤ _
  omega
end Lx
end Go.Proofs.YtobdoahdjbmflaaDoor
namespace Go.Proofs.YtobdoahdjbmflaaDoor
open Go Go.RowKit
namespace Lx
set_option maxRecDepth 100000
theorem mayV_alt (t : Tr) (h : mayV t = true) : AltT t := by
  have hE : mayRT t false = mayV t := by
    rw [may_eq]
    unfold mayV
    by_cases h : t.kind = 8 <;> simp [h]
  exact altT_of t false (by rw [hE, h])
theorem mayV_kind (t : Tr) (h : mayV t = true) : t.kind ≠ 8 := by
  unfold mayV at h
  simp only [Bool.and_eq_true, decide_eq_true_eq] at h
  exact h.1
/-- What Check tells. -/
def checkV (t : Tr) : Int × Int := if mayV t = true then badT (consT t) [] [] t else (0, 1)
def freeV5 (t : Tr) : List ByteArray := if mayV t = true then freeT t else []
def consV5 (t : Tr) : List (ByteArray × Int) := if mayV t = true then consT t else []
/-- A tree to go through. -/
structure Fit (w : World) (t : Tr) (A : Option Addr) : Prop where
  dep : depthT t ≤ 4000
  siz : sizeT t ≤ 1000000
  lies : TIn w Any t A
  signs : Signs w
set_option maxHeartbeats 2000000 in
theorem sCheck_any (t : Tr) (A : Option Addr) (c : Nat) (w : World) (h : Fit w t A) :
    Calls Tryd.prog 9 #[tv t A c] w fun e w' => e = .returned (.tuple #[.int .i64 (checkV t).1, .int .i64 (checkV t).2]) ∧ Below w.heap.size w w' := by
  by_cases hm : mayV t = true
  · have hc : checkV t = firstS (consT t) (spotsT [] false t) := by
      rw [checkV, if_pos hm, first_spots _ t [] [] false (mayV_alt t hm) (by simp [mayV_kind t hm])]
    rw [hc]
    exact check_anyS t A c w h.dep h.siz hm h.lies h.signs (mayV_ok t hm)
  · have hm' : mayV t = false := by simpa using hm
    rw [checkV, if_neg hm]
    show Calls Tryd.prog 9 #[.agg #[.int .i64 t.kind, .string t.name, .int .i64 t.n, .int .i64 t.place, .slice A t.parts.length (capF t.parts.length c)]] w _
    obtain ⟨w0, hw0⟩ : ∃ w0, w0 = ((w.alloc (.cells #[.int .i64 t.kind, .string t.name, .int .i64 t.n, .int .i64 t.place, .slice A t.parts.length (capF t.parts.length c)] 24)).alloc (.cells #[.int .i64 0] 3)).alloc (.cells #[.int .i64 0] 29) := ⟨_, rfl⟩
    have hb0 : Below w.heap.size w w0 := by rw [hw0]; exact (((Below.refl _ w).alloc (Nat.le_refl _) _).alloc (by simp) _).alloc (by simp; omega) _
    have L0 : Lies w0 w.heap.size 24 #[.int .i64 t.kind, .string t.name, .int .i64 t.n, .int .i64 t.place, .slice A t.parts.length (capF t.parts.length c)] := by rw [hw0]; exact ((Lies.new _ _ _).old _).old _
    have L1 : Lies w0 (w.heap.size + 1) 3 #[.int .i64 0] := by rw [hw0]; exact (lies_nextS _ _ _ _ (by simp)).old _
    have L2 : Lies w0 (w.heap.size + 1 + 1) 29 #[.int .i64 0] := by rw [hw0]; exact lies_nextS _ _ _ _ (by simp)
    obtain ⟨c0, c1, c2, c3, c4⟩ := five_cellsS L0
    have hMay : Calls Tryd.prog 18 #[.agg #[.int .i64 t.kind, .string t.name, .int .i64 t.n, .int .i64 t.place, .slice A t.parts.length (capF t.parts.length c)]] w0 fun e w' => e = .returned (.bool false) ∧ Below w0.heap.size w0 w' := by
      have := tmay_any t A c w0 (TIn.below t h.lies hb0 (Nat.le_refl _)) (h.signs.below hb0 h.signs.pos)
      rwa [hm'] at this
    clear h hm hm' L0
    go_enter Tryd.func9, Tryd.ntmps9
    go_upto_region 1 with fail
    rw [← hw0]
    clear hw0
    go_wp2_with (go_at_call 18; refine hMay.mono ?_; rintro e w1 ⟨rfl, hb1⟩; have M1 := L1.below hb1 L1.lt; have M2 := L2.below hb1 L2.lt; have x0 : w1.cell? ⟨w.heap.size + 1, 0, none⟩ = some (.int .i64 0) := Lies.cell M1 0; have x1 : w1.frozen? ⟨w.heap.size + 1, 0, none⟩ = false := Lies.frozen M1 0; have y0 : w1.cell? ⟨w.heap.size + 1 + 1, 0, none⟩ = some (.int .i64 0) := Lies.cell M2 0; have y1 : w1.frozen? ⟨w.heap.size + 1 + 1, 0, none⟩ = false := Lies.frozen M2 0)
    have p1 : Lies ((w1.setCell ⟨w.heap.size + 1, 0, none⟩ (.int .i64 0)).setCell ⟨w.heap.size + 1 + 1, 0, none⟩ (.int .i64 1)) (w.heap.size + 1) 3 #[.int .i64 0] := by
      have h1 := Lies.put M1 0 (.int .i64 0)
      exact Lies.far (p := ⟨w.heap.size + 1 + 1, 0, none⟩) (by simpa using h1) (by show w.heap.size + 1 ≠ w.heap.size + 1 + 1; omega) _
    have p2 : Lies ((w1.setCell ⟨w.heap.size + 1, 0, none⟩ (.int .i64 0)).setCell ⟨w.heap.size + 1 + 1, 0, none⟩ (.int .i64 1)) (w.heap.size + 1 + 1) 29 #[.int .i64 1] := by
      have h1 : Lies (w1.setCell ⟨w.heap.size + 1, 0, none⟩ (.int .i64 0)) (w.heap.size + 1 + 1) 29 #[.int .i64 0] := Lies.far (p := ⟨w.heap.size + 1, 0, none⟩) M2 (by show w.heap.size + 1 + 1 ≠ w.heap.size + 1; omega) _
      simpa using Lies.put h1 0 (.int .i64 1)
    refine bodyPost_ret (results_chkS rfl _ (g1 := w.heap.size + 1) (g2 := w.heap.size + 1 + 1) (x := 0) (y := 1) rfl rfl (Lies.cell p1 0) (Lies.cell p2 0)) rfl ⟨rfl, ?_⟩
    exact ((hb0.trans (hb1.mono hb0.size)).setCell (p := ⟨w.heap.size + 1, 0, none⟩) (by show w.heap.size ≤ w.heap.size + 1; omega) _).setCell (p := ⟨w.heap.size + 1 + 1, 0, none⟩) (by show w.heap.size ≤ w.heap.size + 1 + 1; omega) _
/-- A row of names that is the call's own. -/
def GiveN (l : List ByteArray) (w : World) (e : Ending) (w' : World) : Prop :=
  ∃ A c, e = .returned (.slice A l.length c) ∧ w'.ownsRow w.heap.size 9 1 (.slice A l.length c) l.length (cellsS l) ∧ Below w.heap.size w w'
def GiveA (l : List (ByteArray × Int)) (w : World) (e : Ending) (w' : World) : Prop :=
  ∃ A c, e = .returned (.slice A l.length c) ∧ w'.ownsRow w.heap.size 43 2 (.slice A l.length c) l.length (cellsA l) ∧ Below w.heap.size w w'
set_option maxHeartbeats 2000000 in
theorem sFree_any (t : Tr) (A : Option Addr) (c : Nat) (w : World) (h : Fit w t A) : Calls Tryd.prog 10 #[tv t A c] w (GiveN (freeV5 t) w) := by
  by_cases hm : mayV t = true
  · rw [freeV5, if_pos hm]
    exact free_any t A c w h.dep h.siz (mayV_ok t hm) hm h.lies h.signs
  · have hm' : mayV t = false := by simpa using hm
    rw [freeV5, if_neg hm]
    show Calls Tryd.prog 10 #[.agg #[.int .i64 t.kind, .string t.name, .int .i64 t.n, .int .i64 t.place, .slice A t.parts.length (capF t.parts.length c)]] w _
    obtain ⟨w0, hw0⟩ : ∃ w0, w0 = w.alloc (.cells #[.int .i64 t.kind, .string t.name, .int .i64 t.n, .int .i64 t.place, .slice A t.parts.length (capF t.parts.length c)] 24) := ⟨_, rfl⟩
    have hb0 : Below w.heap.size w w0 := by rw [hw0]; exact (Below.refl _ w).alloc (Nat.le_refl _) _
    have L0 : Lies w0 w.heap.size 24 #[.int .i64 t.kind, .string t.name, .int .i64 t.n, .int .i64 t.place, .slice A t.parts.length (capF t.parts.length c)] := by rw [hw0]; exact Lies.new _ _ _
    obtain ⟨c0, c1, c2, c3, c4⟩ := five_cellsS L0
    have hMay : Calls Tryd.prog 18 #[.agg #[.int .i64 t.kind, .string t.name, .int .i64 t.n, .int .i64 t.place, .slice A t.parts.length (capF t.parts.length c)]] w0 fun e w' => e = .returned (.bool false) ∧ Below w0.heap.size w0 w' := by
      have := tmay_any t A c w0 (TIn.below t h.lies hb0 (Nat.le_refl _)) (h.signs.below hb0 h.signs.pos)
      rwa [hm'] at this
    clear h hm hm' L0
    go_enter Tryd.func10, Tryd.ntmps10
    go_upto_region 1 with fail
    rw [← hw0]
    clear hw0
    go_wp2_with (go_at_call 18; refine hMay.mono ?_; rintro e w1 ⟨rfl, hb1⟩)
    go_ret
    exact ⟨none, 0, rfl, World.ownsRow_nil _ _ _ _, hb0.trans (hb1.mono hb0.size)⟩
set_option maxHeartbeats 2000000 in
theorem sCons_any (t : Tr) (A : Option Addr) (c : Nat) (w : World) (h : Fit w t A) : Calls Tryd.prog 14 #[tv t A c] w (GiveA (consV5 t) w) := by
  show Calls Tryd.prog 14 #[.agg #[.int .i64 t.kind, .string t.name, .int .i64 t.n, .int .i64 t.place, .slice A t.parts.length (capF t.parts.length c)]] w _
  obtain ⟨w0, hw0⟩ : ∃ w0, w0 = w.alloc (.cells #[.int .i64 t.kind, .string t.name, .int .i64 t.n, .int .i64 t.place, .slice A t.parts.length (capF t.parts.length c)] 24) := ⟨_, rfl⟩
  have hb0 : Below w.heap.size w w0 := by rw [hw0]; exact (Below.refl _ w).alloc (Nat.le_refl _) _
  have L0 : Lies w0 w.heap.size 24 #[.int .i64 t.kind, .string t.name, .int .i64 t.n, .int .i64 t.place, .slice A t.parts.length (capF t.parts.length c)] := by rw [hw0]; exact Lies.new _ _ _
  obtain ⟨c0, c1, c2, c3, c4⟩ := five_cellsS L0
  have hMay : Calls Tryd.prog 18 #[.agg #[.int .i64 t.kind, .string t.name, .int .i64 t.n, .int .i64 t.place, .slice A t.parts.length (capF t.parts.length c)]] w0 fun e w' => e = .returned (.bool (mayV t)) ∧ Below w0.heap.size w0 w' := tmay_any t A c w0 (TIn.below t h.lies hb0 (Nat.le_refl _)) (h.signs.below hb0 h.signs.pos)
  by_cases hm : mayV t = true
  · rw [hm] at hMay
    rw [consV5, if_pos hm]
    have HC : Hid (∀ W, Below w0.heap.size w0 W → Calls Tryd.prog 19 #[.agg #[.int .i64 t.kind, .string t.name, .int .i64 t.n, .int .i64 t.place, .slice A t.parts.length (capF t.parts.length c)]] W (GiveA (consT t) W)) := Lib.hid fun W hb => cons_any t A c W h.dep h.siz (mayV_ok t hm) (TIn.below t (TIn.below t h.lies hb0 (Nat.le_refl _)) hb (Nat.le_refl _))
    clear h hm
    go_enter Tryd.func14, Tryd.ntmps14
    go_upto_region 1 with fail
    rw [← hw0]
    clear hw0
    go_wp2_with (first
      | (go_at_call 18; refine hMay.mono ?_; rintro e w1 ⟨rfl, hb1⟩; have M0 := L0.below hb1 L0.lt; obtain ⟨d0, d1, d2, d3, d4⟩ := five_cellsS M0)
      | (go_at_call 19; refine (HC.out w1 hb1).mono ?_; rintro e w2 ⟨A2, k2, rfl, hr2, hb2⟩))
    go_ret
    have hw1 : w.heap.size ≤ w1.heap.size := by have := hb0.size; have := hb1.size; omega
    exact ⟨_, _, rfl, own_base hr2 hw1, (hb0.trans (hb1.mono hb0.size)).trans (hb2.mono hw1)⟩
  · have hm' : mayV t = false := by simpa using hm
    rw [hm'] at hMay
    rw [consV5, if_neg hm]
    clear h hm hm' L0
    go_enter Tryd.func14, Tryd.ntmps14
    go_upto_region 1 with fail
    rw [← hw0]
    clear hw0
    go_wp2_with (go_at_call 18; refine hMay.mono ?_; rintro e w1 ⟨rfl, hb1⟩)
    go_ret
    exact ⟨none, 0, rfl, World.ownsRow_nil _ _ _ _, hb0.trans (hb1.mono hb0.size)⟩
end Lx
end Go.Proofs.YtobdoahdjbmflaaDoor
namespace Go.Proofs.YtobdoahdjbmflaaDoor
namespace Lx
set_option maxRecDepth 100000
theorem may_inv {k n a : Int} {s : ByteArray} {l : List Tr} (h : mayT (.node k s n a l) = true) : nameOkV k s.data.toList = true ∧ partsV k n l.length = true ∧ 0 ≤ a ∧ mayL k n 0 l = true := by
  rw [mayT] at h
  have hf := fits_eq k s.data.toList n a l.length
  cases hs : shapeV k with
  | none => rw [hs] at h; cases h
  | some g =>
    rw [hs] at h hf
    simp only at h hf
    rw [Bool.and_eq_true] at h
    rw [hf] at h
    simp only [Bool.and_eq_true, decide_eq_true_eq] at h
    exact ⟨h.1.1, h.1.2.1, h.1.2.2, h.2⟩
theorem mayL_memT (k n : Int) : ∀ (l : List Tr) (i : Nat), mayL k n i l = true → ∀ t ∈ l, mayT t = true
  | [], _, _, t, h => by simp at h
  | u :: r, i, h, t, ht => by
    rw [mayL, Bool.and_eq_true, Bool.and_eq_true] at h
    rcases List.mem_cons.1 ht with rfl | ht
    · exact h.2.1
    · exact mayL_memT k n r (i + 1) h.2.2 t ht
theorem mayL_stands (k n : Int) : ∀ (l : List Tr) (i j : Nat) (t : Tr), mayL k n i l = true → l[j]? = some t → standsV k n (i + j) t.kind = true
  | [], _, _, _, _, h => by simp at h
  | u :: r, i, 0, t, h, ht => by
    rw [mayL, Bool.and_eq_true, Bool.and_eq_true] at h
    simp only [List.getElem?_cons_zero, Option.some.injEq] at ht
    subst ht
    exact h.1
  | u :: r, i, j + 1, t, h, ht => by
    rw [mayL, Bool.and_eq_true, Bool.and_eq_true] at h
    have := mayL_stands k n r (i + 1) j t h.2.2 (by simpa using ht)
    rwa [show i + 1 + j = i + (j + 1) from by omega] at this
end Lx
end Go.Proofs.YtobdoahdjbmflaaDoor
namespace Go.Proofs.YtobdoahdjbmflaaDoor
namespace Lx
set_option maxRecDepth 100000
theorem inN_mem (l : List ByteArray) (s : ByteArray) : inN l s = true ↔ s ∈ l := by
  induction l with
  | nil => simp [inN]
  | cons x r ih =>
    rw [inN, Bool.or_eq_true, ih, List.mem_cons, decide_eq_true_eq]
    exact ⟨fun h => h.imp Eq.symm id, fun h => h.imp Eq.symm id⟩
theorem innerN_app (k n : Int) (s : ByteArray) (i : Nat) (all : List Tr) (b c : List ByteArray) : innerN k n s i all (b ++ c) = b ++ innerN k n s i all c := by
  unfold innerN
  repeat' split
  all_goals simp
mutual
theorem loose_app (b : List ByteArray) : ∀ (t : Tr) (c : List ByteArray), looseT (b ++ c) t = (looseT c t).filter (fun s => !inN b s)
  | .node k s n a l, c => by
    rw [looseT, looseT, List.filter_append, loose_appL b l k n s l c 0, inN_app]
    congr 1
    by_cases hk : k = 1
    · cases h1 : inN b s <;> cases h2 : inN c s <;> simp [hk, h1]
    · simp [hk]
theorem loose_appL (b : List ByteArray) : ∀ (l : List Tr) (k n : Int) (s : ByteArray) (all : List Tr) (c : List ByteArray) (i : Nat), looseL k n s all (b ++ c) i l = (looseL k n s all c i l).filter (fun s => !inN b s)
  | [], _, _, _, _, _, _ => by rw [looseL, looseL]; rfl
  | t :: r, k, n, s, all, c, i => by
    rw [looseL, looseL, List.filter_append, loose_appL b r, innerN_app]
    congr 1
    split
    · rfl
    · exact loose_app b t _
end
theorem loose_nil (b : List ByteArray) (t : Tr) : looseT b t = (looseT [] t).filter (fun s => !inN b s) := by
  have := loose_app b t []
  rwa [List.append_nil] at this
theorem once_memB : ∀ (l a : List ByteArray) (s : ByteArray), s ∈ onceB a l ↔ s ∈ a ∨ s ∈ l
  | [], a, s => by rw [onceB]; simp
  | x :: r, a, s => by
    rw [onceB]
    split
    · rename_i h
      rw [once_memB r a s, List.mem_cons]
      constructor
      · rintro (h1 | h1)
        · exact .inl h1
        · exact .inr (.inr h1)
      · rintro (h1 | rfl | h1)
        · exact .inl h1
        · exact .inl ((inN_mem a s).1 h)
        · exact .inr h1
    · rw [once_memB r (a ++ [x]) s, List.mem_append, List.mem_singleton, List.mem_cons, or_assoc]
theorem once_nodup : ∀ (l a : List ByteArray), a.Nodup → (onceB a l).Nodup
  | [], a, h => by rw [onceB]; exact h
  | x :: r, a, h => by
    rw [onceB]
    split
    · exact once_nodup r a h
    · rename_i h1
      refine once_nodup r _ (List.nodup_append.2 ⟨h, by simp, ?_⟩)
      intro y hy z hz e
      rw [List.mem_singleton] at hz
      subst hz e
      exact h1 ((inN_mem a y).2 hy)
theorem ba_back (s : ByteArray) : (⟨s.data.toList.toArray⟩ : ByteArray) = s := by cases s; rfl
theorem sortB_perm (l : List ByteArray) : (sortB l).Perm l := by
  unfold sortB
  have h := (List.mergeSort_perm (l.map fun s => s.data.toList) fun x y => decide (x ≤ y)).map (fun x : List UInt8 => (⟨x.toArray⟩ : ByteArray))
  rw [List.map_map] at h
  have e : (l.map ((fun x : List UInt8 => (⟨x.toArray⟩ : ByteArray)) ∘ fun s => s.data.toList)) = l := by
    conv => rhs; rw [← List.map_id l]
    exact List.map_congr_left fun s _ => ba_back s
  rwa [e] at h
theorem free_mem (t : Tr) (s : ByteArray) : s ∈ freeT t ↔ s ∈ looseT [] t := by
  unfold freeT
  rw [(sortB_perm _).mem_iff, once_memB]
  simp
theorem free_nodup (t : Tr) : (freeT t).Nodup := by
  unfold freeT
  exact (sortB_perm _).nodup_iff.2 (once_nodup _ _ List.nodup_nil)
theorem nodup_le : ∀ {l m : List ByteArray}, l.Nodup → (∀ s ∈ l, s ∈ m) → l.length ≤ m.length
  | [], m, _, _ => by simp
  | x :: r, m, h, hs => by
    obtain ⟨m1, m2, rfl⟩ := List.append_of_mem (hs x List.mem_cons_self)
    rw [List.nodup_cons] at h
    have := nodup_le (m := m1 ++ m2) h.2 fun s hr => by
      have h1 := hs s (List.mem_cons_of_mem _ hr)
      rw [List.mem_append, List.mem_cons] at h1
      rw [List.mem_append]
      rcases h1 with h1 | rfl | h1
      · exact .inl h1
      · exact absurd hr h.1
      · exact .inr h1
    simp only [List.length_append, List.length_cons] at this ⊢
    omega
theorem nodup_len {l m : List ByteArray} (hl : l.Nodup) (hm : m.Nodup) (h : ∀ s, s ∈ l ↔ s ∈ m) : l.length = m.length :=
  Nat.le_antisymm (nodup_le hl fun s hs => (h s).1 hs) (nodup_le hm fun s hs => (h s).2 hs)
/-! What is wrong, and what is free. -/
theorem badS_cases (A : List (ByteArray × Int)) (x : Spot) : (badS A x = 50 ∧ x.free = true) ∨ (x.free = false ∧ (badS A x = 0 ∨ badS A x = 51 ∨ badS A x = 52)) := by
  unfold badS
  cases h : x.free with
  | true => simp
  | false =>
    refine .inr ⟨rfl, ?_⟩
    rw [if_neg (by simp)]
    split
    · exact .inr (.inl rfl)
    · split
      · exact .inr (.inr rfl)
      · exact .inl rfl
theorem first_zero (A : List (ByteArray × Int)) : ∀ l : List Spot, (firstS A l).2 = 0 → ∀ x ∈ l, badS A x = 0
  | [], _, x, hx => by cases hx
  | y :: r, h, x, hx => by
    rw [firstS] at h
    by_cases hy : badS A y ≠ 0
    · rw [if_pos hy] at h; exact absurd h hy
    · rw [if_neg hy] at h
      rcases List.mem_cons.1 hx with rfl | hx
      · simpa using hy
      · exact first_zero A r h x hx
theorem first_is (A : List (ByteArray × Int)) : ∀ l : List Spot, (firstS A l).2 = 0 ∨ ∃ x ∈ l, badS A x ≠ 0 ∧ (firstS A l).2 = badS A x
  | [] => .inl rfl
  | y :: r => by
    rw [firstS]
    by_cases hy : badS A y ≠ 0
    · rw [if_pos hy]; exact .inr ⟨y, List.mem_cons_self, hy, rfl⟩
    · rw [if_neg hy]
      rcases first_is A r with h | ⟨x, hx, h⟩
      · exact .inl h
      · exact .inr ⟨x, List.mem_cons_of_mem _ hx, h⟩
theorem bad_first (t : Tr) (h : mayV t = true) : badT (consT t) [] [] t = firstS (consT t) (spotsT [] false t) :=
  (first_spots _ t [] [] false (mayV_alt t h) (by simp [mayV_kind t h])).symm
theorem free_of_ok (t : Tr) (h : mayV t = true) (hb : (badT (consT t) [] [] t).2 = 0) : looseT [] t = [] := by
  rw [bad_first t h] at hb
  rw [← frees_spots t [] false, freesS, List.map_eq_nil_iff, List.filter_eq_nil_iff]
  intro x hx hf
  have := first_zero _ _ hb x hx
  rcases badS_cases (consT t) x with h1 | h1
  · omega
  · rw [h1.1] at hf; cases hf
theorem free_of_name (t : Tr) (h : mayV t = true) (hb : (badT (consT t) [] [] t).2 = 50) : looseT [] t ≠ [] := by
  rw [bad_first t h] at hb
  rcases first_is (consT t) (spotsT [] false t) with h1 | ⟨x, hx, _, h2⟩
  · omega
  · rw [← frees_spots t [] false, freesS, ne_eq, List.map_eq_nil_iff, List.filter_eq_nil_iff]
    intro hn
    rcases badS_cases (consT t) x with h3 | h3
    · exact hn x hx h3.2
    · omega
theorem freeV_nil {t : Tr} (h : looseT [] t = []) : freeT t = [] := by
  apply List.eq_nil_iff_forall_not_mem.2
  intro s hs
  rw [free_mem, h] at hs
  cases hs
theorem freeV_some {t : Tr} (h : looseT [] t ≠ []) : freeT t ≠ [] := by
  obtain ⟨s, hs⟩ := List.exists_mem_of_ne_nil _ h
  intro e
  have := (free_mem t s).2 hs
  rw [e] at this
  cases this
/-! Names that are free are names. -/
mutual
theorem loose_name : ∀ (t : Tr) (b : List ByteArray), mayT t = true → ∀ s ∈ looseT b t, nameV s.data.toList = true
  | .node k s n a l, b, h, x, hx => by
    obtain ⟨h1, _, _, h4⟩ := may_inv h
    rw [looseT, List.mem_append] at hx
    rcases hx with hx | hx
    · split at hx
      · rename_i hk
        rw [List.mem_singleton] at hx
        subst hx
        rw [nameOkV, if_pos (.inl hk.1)] at h1
        exact h1
      · cases hx
    · exact loose_nameL l k n s l b 0 (fun t ht => mayL_memT k n l 0 h4 t ht) x hx
theorem loose_nameL : ∀ (l : List Tr) (k n : Int) (s : ByteArray) (all : List Tr) (b : List ByteArray) (i : Nat), (∀ t ∈ l, mayT t = true) → ∀ x ∈ looseL k n s all b i l, nameV x.data.toList = true
  | [], _, _, _, _, _, _, _, x, hx => by rw [looseL] at hx; cases hx
  | t :: r, k, n, s, all, b, i, h, x, hx => by
    rw [looseL, List.mem_append] at hx
    rcases hx with hx | hx
    · split at hx
      · cases hx
      · exact loose_name t _ (h t List.mem_cons_self) x hx
    · exact loose_nameL r k n s all b (i + 1) (fun t ht => h t (List.mem_cons_of_mem _ ht)) x hx
end
/-! Functions around a tree. -/
def lamT (s : ByteArray) (t : Tr) : Tr := .node 2 s 0 0 [t]
theorem may_lam (s : ByteArray) (t : Tr) : mayV (lamT s t) = (mayV t && nameV s.data.toList) := by
  simp [lamT, mayV, Tr.kind, mayT, shapeV, fitsV, whatV, mayL, standsV]
  cases nameV s.data.toList <;> simp
theorem loose_lam (s : ByteArray) (t : Tr) : looseT [] (lamT s t) = (looseT [] t).filter (fun x => !inN [s] x) := by
  rw [lamT, looseT, looseL, looseL, if_neg (by omega), if_neg (by show ¬ 0 < 0; omega), List.nil_append, List.append_nil]
  show looseT ([] ++ [s]) t = _
  exact loose_nil [s] t
theorem met_lam (s : ByteArray) (t : Tr) : metT (lamT s t) = metT t := by
  rw [lamT, metT, metL, metL, if_neg (by simp [ownN]), List.nil_append, if_neg (by show ¬ 0 < 0; omega), List.append_nil]
theorem depth_lam (s : ByteArray) (t : Tr) : depthT (lamT s t) = depthT t + 1 := by simp [lamT, depthT, depthL]
theorem size_lam (s : ByteArray) (t : Tr) : sizeT (lamT s t) = sizeT t + 1 := by simp [lamT, sizeT, sizeL]
def lamsT (l : List ByteArray) (t : Tr) : Tr := l.foldl (fun u s => lamT s u) t
theorem lams_snoc (l : List ByteArray) (s : ByteArray) (t : Tr) : lamsT (l ++ [s]) t = lamT s (lamsT l t) := by simp [lamsT]
theorem lams_all : ∀ (l : List ByteArray) (t : Tr), mayV t = true → (∀ s ∈ l, nameV s.data.toList = true) →
    mayV (lamsT l t) = true ∧ (∀ s, s ∈ looseT [] (lamsT l t) ↔ s ∈ looseT [] t ∧ s ∉ l) ∧ metT (lamsT l t) = metT t ∧ depthT (lamsT l t) = depthT t + l.length ∧ sizeT (lamsT l t) = sizeT t + l.length
  | [], t, h, _ => ⟨h, by simp [lamsT], rfl, rfl, rfl⟩
  | x :: r, t, h, hl => by
    have h1 : mayV (lamT x t) = true := by rw [may_lam, h, hl x List.mem_cons_self]; rfl
    obtain ⟨a1, a2, a3, a4, a5⟩ := lams_all r (lamT x t) h1 fun s hs => hl s (List.mem_cons_of_mem _ hs)
    refine ⟨a1, fun s => ?_, a3.trans (met_lam x t), by rw [show lamsT (x :: r) t = lamsT r (lamT x t) from rfl, a4, depth_lam, List.length_cons]; omega, by rw [show lamsT (x :: r) t = lamsT r (lamT x t) from rfl, a5, size_lam, List.length_cons]; omega⟩
    rw [show lamsT (x :: r) t = lamsT r (lamT x t) from rfl, a2 s, loose_lam, List.mem_filter, List.mem_cons]
    have e : (!inN [x] s) = true ↔ ¬ s = x := by
      rw [Bool.not_eq_true', Bool.eq_false_iff, ne_eq, inN_mem, List.mem_singleton]
    rw [e, not_or, and_assoc]
theorem lams_free (t : Tr) (h : mayV t = true) : mayV (lamsT (freeT t) t) = true ∧ freeT (lamsT (freeT t) t) = [] ∧ consT (lamsT (freeT t) t) = consT t ∧ depthT (lamsT (freeT t) t) = depthT t + (freeT t).length ∧ sizeT (lamsT (freeT t) t) = sizeT t + (freeT t).length := by
  have hm : mayT t = true := by unfold mayV at h; simp at h; exact h.2
  obtain ⟨a1, a2, a3, a4, a5⟩ := lams_all (freeT t) t h fun s hs => loose_name t [] hm s ((free_mem t s).1 hs)
  refine ⟨a1, freeV_nil (List.eq_nil_iff_forall_not_mem.2 fun s hs => ?_), by unfold consT; rw [a3], a4, a5⟩
  have := (a2 s).1 hs
  exact this.2 ((free_mem t s).2 this.1)
theorem lam_len (t : Tr) (s : ByteArray) : (freeT (lamT s t)).length + (if inN (freeT t) s = true then 1 else 0) = (freeT t).length := by
  have hm : ∀ x, x ∈ freeT (lamT s t) ↔ x ∈ freeT t ∧ ¬ x = s := fun x => by
    rw [free_mem, free_mem, loose_lam, List.mem_filter, Bool.not_eq_true', Bool.eq_false_iff, ne_eq, inN_mem, List.mem_singleton]
  split
  · rename_i h
    rw [inN_mem] at h
    have hn : (s :: freeT (lamT s t)).Nodup := List.nodup_cons.2 ⟨fun h1 => ((hm s).1 h1).2 rfl, free_nodup _⟩
    have := nodup_len hn (free_nodup t) fun x => by
      rw [List.mem_cons, hm]
      constructor
      · rintro (rfl | h1)
        · exact h
        · exact h1.1
      · intro h1
        by_cases e : x = s
        · exact .inl e
        · exact .inr ⟨h1, e⟩
    rw [List.length_cons] at this
    exact this
  · rename_i h
    rw [inN_mem] at h
    refine nodup_len (free_nodup _) (free_nodup t) fun x => ?_
    rw [hm]
    exact ⟨fun h1 => h1.1, fun h1 => ⟨h1, fun e => h (e ▸ h1)⟩⟩
end Lx
end Go.Proofs.YtobdoahdjbmflaaDoor
