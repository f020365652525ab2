/-
  Texts that lie one behind the other: SuMy.
-/
import Derived.Test.YtikchgigakbeiaaC6
import Derived.Test.YtikchgigakbeiaaC7
import Derived.Deep.QuietTactic
import Derived.BigQuiet
import Derived.Deep.DeepCutAuto
namespace Go.Proofs.Ytikchgigakbeiaa
open Go.RowKit
namespace Lx
set_option maxRecDepth 100000
theorem strE_empty (s : ByteArray) : s.toList.isEmpty = (s.data.toList == []) := by rw [data_list]; cases s.data.toList <;> rfl
def conW (s : ByteArray) : Bool := kindV 2 s.data.toList
set_option maxHeartbeats 2000000 in
theorem con6_any (s : ByteArray) (w : World) (hs : s.size ≤ 140737488351232) :
    Calls Try.prog 47 #[.string s] w fun e w' => e = .returned (.bool (conW s)) ∧ Below w.heap.size w w' := by
  by_cases h0 : s.size = 0
  · have hl : s.data.toList = [] := List.eq_nil_of_length_eq_zero (by rw [← Lib.size_eq]; exact h0)
    have e3 : s.toList = [] := by rw [data_list]; exact hl
    have HF : Hid (conW s = false) := by
      show _ = _
      rw [conW, hl]; rfl
    clear hl h0
    go_enter Try.func47, Try.ntmps47
    go_wp2_with fail
    go_ret
    exact ⟨ret_bool HF.out.symm, Below.refl _ _⟩
  · have hl : s.data.toList ≠ [] := by
      intro e
      have := congrArg List.length e
      rw [← Lib.size_eq] at this
      exact h0 this
    have e3 : s.toList.isEmpty = false := by rw [data_list]; cases h : s.data.toList with | nil => exact absurd h hl | cons _ _ => rfl
    have HK : Hid (refTokV s.data.toList 2 = conW s) := Lib.hid (refTok_kind s.data.toList 2 (.inr rfl) hl)
    have HO := Lib.hid (one_both s 0 w (by omega) hs)
    rw [List.drop_zero] at HO
    cases ht : tokK s.data.toList with
    | error x =>
      have hx := tokK_err ht
      have hx0 : (x == 0) = false := by rcases hx with rfl | rfl <;> rfl
      have hf : refTokV s.data.toList 2 = false := by unfold refTokV; rw [ht]
      have HF := Lib.hid hf
      have HT := Lib.hid ht
      clear ht hf hl h0
      go_enter Try.func47, Try.ntmps47
      go_wp2_with fail
      refine HO.out.mono ?_
      rintro e w2 ⟨_, he, hb2⟩
      have he2 := he x HT.out
      subst he2
      clear he
      unfold noTokR
      go_wp2_with fail
      go_ret
      exact ⟨ret_bool (by rw [← HK.out, HF.out]), hb2.alloc hb2.size _⟩
    | ok r =>
      obtain ⟨kd, n, t⟩ := r
      have hf : refTokV s.data.toList 2 = (decide (kd = 2) && (t == s.data.toList)) := by unfold refTokV; rw [ht]
      have HF := Lib.hid hf
      have HT := Lib.hid ht
      clear ht hf hl h0
      by_cases hkd : kd = 2
      · subst hkd
        go_enter Try.func47, Try.ntmps47
        go_wp2_with fail
        refine HO.out.mono ?_
        rintro e w2 ⟨he, _, hb2⟩
        have he2 := he 2 n t HT.out
        subst he2
        clear he
        unfold tokR
        go_wp2_with fail
        go_ret
        exact ⟨ret_bool (by rw [← HK.out, HF.out, data_list]; simp), hb2.alloc hb2.size _⟩
      · have e1 : (kd == 2) = false := by simpa using hkd
        go_enter Try.func47, Try.ntmps47
        go_wp2_with fail
        refine HO.out.mono ?_
        rintro e w2 ⟨he, _, hb2⟩
        have he2 := he kd n t HT.out
        subst he2
        clear he
        unfold tokR
        go_wp2_with fail
        go_ret
        exact ⟨ret_bool (by rw [← HK.out, HF.out]; simp [hkd]), hb2.alloc hb2.size _⟩
/-- Kind, N, Name and the number of parts. -/
def headR (k n : Int) (s : ByteArray) (m : Nat) (free : Int) (alt : Bool) : Bool :=
  if alt then decide (k = 6) && (conW s && (decide (0 ≤ n) && (decide (n ≤ 8) && decide (m = 1))))
  else if k = 1 then s.toList.isEmpty && (decide (m = 0) && (decide (0 ≤ n) && decide (n < free)))
  else if k = 2 then (s.toList.isEmpty && decide (n = 0)) && decide (m = 1)
  else if k = 3 then (s.toList.isEmpty && decide (n = 0)) && decide (m = 2)
  else if k = 4 then conW s && (decide (n = 0) && decide (m ≤ 8))
  else if k = 5 then (s.toList.isEmpty && decide (n = 0)) && (decide (2 ≤ m) && decide (m ≤ 9))
  else if k = 7 then s.toList.isEmpty && decide (m = 0)
  else if k = 8 then opV s.data.toList && (decide (n = 0) && decide (m = 2))
  else if k = 9 then (s.toList.isEmpty && decide (n = 0)) && decide (m = 0)
  else false
set_option maxHeartbeats 8000000 in
theorem head6_any (k n free : Int) (s : ByteArray) (A : Option Addr) (m c : Nat) (alt : Bool) (w : World) (hs : s.size ≤ 140737488351232) (hm : m ≤ 140737488351232) :
    Calls Try.prog 31 #[.agg #[.int .i64 k, .int .i64 n, .string s, .slice A m c], .int .i64 free, .bool alt] w fun e w' => e = .returned (.bool (headR k n s m free alt)) ∧ Below w.heap.size w w' := by
  obtain ⟨W0, hW0⟩ : ∃ W, W = w.alloc (.cells #[.int .i64 k, .int .i64 n, .string s, .slice A m c] 24) := ⟨_, rfl⟩
  have hb : Below w.heap.size w W0 := by rw [hW0]; exact (Below.refl _ w).alloc (Nat.le_refl _) _
  have l0 : Lies W0 w.heap.size 24 #[.int .i64 k, .int .i64 n, .string s, .slice A m c] := by rw [hW0]; exact Lies.new w _ _
  have HC := Lib.hid (fun X => con6_any s X hs)
  obtain ⟨c0, c1, c2, c3⟩ := l0.four.1
  go_enter Try.func31, Try.ntmps31
  go_upto_region 2 with fail
  rw [← hW0]
  have HB := Lib.hid hb
  have L0 := Lib.hid l0
  clear hW0 hb l0
  go_cut [8] (fun v wx => v = .bool (opV s.data.toList) ∧ wx = W0)
  case first =>
    go_wp2_with fail
    all_goals
      go_meet
      refine ⟨?_, rfl⟩
      rw [← data_list]
      simp_all [opV, Bool.or_assoc]
  case rest =>
    obtain ⟨rfl, rfl⟩ := hcut
    obtain ⟨ob, hob⟩ : ∃ b, b = opV s.data.toList := ⟨_, rfl⟩
    rw [← hob]
    obtain ⟨eb, heb⟩ : ∃ b, b = s.toList.isEmpty := ⟨_, rfl⟩
    have heb' : s.toList.isEmpty = eb := heb.symm
    have HO := Lib.hid hob
    have HE := Lib.hid heb
    clear hob heb
    cases alt
    · rcases (by omega : k = 1 ∨ k = 2 ∨ k = 3 ∨ k = 4 ∨ k = 5 ∨ k = 7 ∨ k = 8 ∨ k = 9 ∨ (k ≠ 1 ∧ k ≠ 2 ∧ k ≠ 3 ∧ k ≠ 4 ∧ k ≠ 5 ∧ k ≠ 7 ∧ k ≠ 8 ∧ k ≠ 9)) with rfl | rfl | rfl | rfl | rfl | rfl | rfl | rfl | hk
      case inr.inr.inr.inl =>
        have HCw := Lib.hid (HC.out wc)
        obtain ⟨cb, hcb⟩ : ∃ b, b = conW s := ⟨_, rfl⟩
        rw [← hcb] at HCw
        have HCB := Lib.hid hcb
        clear hcb HC
        cases cb
        · go_wp2_with fail
          all_goals
            refine HCw.out.mono ?_
            rintro e w2 ⟨rfl, hb2⟩
            go_wp2_with fail
            go_ret
            refine ⟨ret_bool ?_, HB.out.trans (hb2.mono HB.out.size)⟩
            simp [headR, ← HCB.out]
        · by_cases hn : n = 0
          · go_wp2_with fail
            all_goals
              refine HCw.out.mono ?_
              rintro e w2 ⟨rfl, hb2⟩
              have L2 := L0.out.below hb2 L0.out.lt
              obtain ⟨f0, f1, f2, f3⟩ := L2.four.1
              go_wp2_with fail
              all_goals
                go_ret
                refine ⟨ret_bool ?_, HB.out.trans (hb2.mono HB.out.size)⟩
                simp [headR, ← HCB.out, hn]
                try omega
          · have hn' : (n == 0) = false := by simpa using hn
            go_wp2_with fail
            all_goals
              refine HCw.out.mono ?_
              rintro e w2 ⟨rfl, hb2⟩
              have L2 := L0.out.below hb2 L0.out.lt
              obtain ⟨f0, f1, f2, f3⟩ := L2.four.1
              go_wp2_with fail
              all_goals
                go_ret
                refine ⟨ret_bool ?_, HB.out.trans (hb2.mono HB.out.size)⟩
                simp [headR, ← HCB.out, hn]
                try omega
      case inr.inr.inr.inr.inr.inr.inr.inr =>
        obtain ⟨n1, n2, n3, n4, n5, n7, n8, n9⟩ := hk
        have e1 : (k == 1) = false := by simpa using n1
        have e2 : (k == 2) = false := by simpa using n2
        have e3 : (k == 3) = false := by simpa using n3
        have e4 : (k == 4) = false := by simpa using n4
        have e5 : (k == 5) = false := by simpa using n5
        have e7 : (k == 7) = false := by simpa using n7
        have e8 : (k == 8) = false := by simpa using n8
        have e9 : (k == 9) = false := by simpa using n9
        have HF : Hid (headR k n s m free false = false) := by
          refine Lib.hid ?_
          simp [headR, n1, n2, n3, n4, n5, n7, n8, n9]
        clear n1 n2 n3 n4 n5 n7 n8 n9 HC
        go_wp2_with fail
        all_goals
          go_ret
          exact ⟨ret_bool HF.out.symm, HB.out⟩
      all_goals clear HC
      all_goals
        go_wp2_with fail
        all_goals
          go_ret
          refine ⟨ret_bool ?_, HB.out⟩
          have hE := HE.out
          have hO := HO.out
          rw [Bool.eq_iff_iff]
          simp [headR, ← hE, ← hO]
          clear hE hO heb' HE HO
          clear c0 c1 c2 c3 L0 HB
          try (first | omega | grind)
    · by_cases hk : k = 6
      · subst hk
        have HCw := Lib.hid (HC.out wc)
        obtain ⟨cb, hcb⟩ : ∃ b, b = conW s := ⟨_, rfl⟩
        rw [← hcb] at HCw
        have HCB := Lib.hid hcb
        clear hcb HC
        cases cb
        · go_wp2_with fail
          all_goals
            refine HCw.out.mono ?_
            rintro e w2 ⟨rfl, hb2⟩
            go_wp2_with fail
            go_ret
            refine ⟨ret_bool ?_, HB.out.trans (hb2.mono HB.out.size)⟩
            simp [headR, ← HCB.out]
        · by_cases hn0 : 0 ≤ n
          · by_cases hn8 : n ≤ 8
            · go_wp2_with fail
              all_goals
                refine HCw.out.mono ?_
                rintro e w2 ⟨rfl, hb2⟩
                have L2 := L0.out.below hb2 L0.out.lt
                obtain ⟨f0, f1, f2, f3⟩ := L2.four.1
                go_wp2_with fail
                all_goals
                  go_ret
                  refine ⟨ret_bool ?_, HB.out.trans (hb2.mono HB.out.size)⟩
                  rw [Bool.eq_iff_iff]
                  simp [headR, ← HCB.out, hn0, hn8]
                  try omega
            · go_wp2_with fail
              all_goals
                refine HCw.out.mono ?_
                rintro e w2 ⟨rfl, hb2⟩
                have L2 := L0.out.below hb2 L0.out.lt
                obtain ⟨f0, f1, f2, f3⟩ := L2.four.1
                go_wp2_with fail
                all_goals
                  go_ret
                  refine ⟨ret_bool ?_, HB.out.trans (hb2.mono HB.out.size)⟩
                  simp [headR]
                  try (intros; omega)
          · go_wp2_with fail
            all_goals
              refine HCw.out.mono ?_
              rintro e w2 ⟨rfl, hb2⟩
              have L2 := L0.out.below hb2 L0.out.lt
              obtain ⟨f0, f1, f2, f3⟩ := L2.four.1
              go_wp2_with fail
              all_goals
                go_ret
                refine ⟨ret_bool ?_, HB.out.trans (hb2.mono HB.out.size)⟩
                simp [headR]
                try (intros; omega)
      · have e6 : (k == 6) = false := by simpa using hk
        have HF : Hid (headR k n s m free true = false) := by
          refine Lib.hid ?_
          simp [headR, hk]
        clear hk HC
        go_wp2_with fail
        all_goals
          go_ret
          exact ⟨ret_bool HF.out.symm, HB.out⟩
end Lx
end Go.Proofs.Ytikchgigakbeiaa
