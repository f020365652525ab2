/-
  Walks of standsAt, isOperator, isToken, isName, fits.
-/
import Derived.Test.YtnljlocogfacfaaDoorName
import Derived.Test.YtnljlocogfacfaaDoorDepth
import Derived.Test.YtnljlocogfacfaaDoorAllRow
namespace Go.Proofs.YtnljlocogfacfaaDoor
open Go.RowKit
namespace Lx
set_option maxRecDepth 100000
set_option maxHeartbeats 1000000 in
theorem stands_any (k n a p : Int) (s : ByteArray) (A : Option Addr) (m c i : Nat) (w : World) :
    Calls Tryd.prog 57 #[.agg #[.int .i64 k, .string s, .int .i64 n, .int .i64 a, .slice A m c], .int .i64 i, .int .i64 p] w fun e w' => e = .returned (.bool (standsV k n i p)) ∧ Below w.heap.size w w' := by
  have hb : Below w.heap.size w (w.alloc (.cells #[.int .i64 k, .string s, .int .i64 n, .int .i64 a, .slice A m c] 33)) := (Below.refl _ w).alloc (Nat.le_refl _) _
  by_cases h7 : k = 7
  · subst h7
    by_cases hi : 0 < i
    · have hi' : (0 : Int) < (i : Int) := by omega
      go_enter Tryd.func57, Tryd.ntmps57
      go_wp2_with fail
      go_ret
      refine ⟨ret_bool ?_, hb⟩
      simp [standsV, hi]; try rfl
    · have hi' : ¬ (0 : Int) < (i : Int) := by omega
      go_enter Tryd.func57, Tryd.ntmps57
      go_wp2_with fail
      go_ret
      refine ⟨ret_bool ?_, hb⟩
      simp [standsV, hi]; try rfl
  · have e7 : (k == 7) = false := by simpa using h7
    by_cases h8 : k = 8
    · subst h8
      by_cases hi : (i : Int) < n
      · go_enter Tryd.func57, Tryd.ntmps57
        go_wp2_with fail
        go_ret
        refine ⟨ret_bool ?_, hb⟩
        simp [standsV, hi]; try rfl
      · go_enter Tryd.func57, Tryd.ntmps57
        go_wp2_with fail
        go_ret
        refine ⟨ret_bool ?_, hb⟩
        unfold standsV
        rw [if_neg (by omega), if_neg (by omega)]
        by_cases hp : p = 8 <;> simp [hp]
    · have e8 : (k == 8) = false := by simpa using h8
      go_enter Tryd.func57, Tryd.ntmps57
      go_wp2_with fail
      go_ret
      refine ⟨ret_bool ?_, hb⟩
      simp [standsV, h7, h8]; try rfl
theorem oper_any (s : ByteArray) (w : World) : Calls Tryd.prog 80 #[.string s] w fun e w' => e = .returned (.bool (opV s.data.toList)) ∧ w = w' := by
  go_enter Tryd.func80, Tryd.ntmps80
  go_wp2
  all_goals
    go_ret
    refine ⟨ret_bool ?_, rfl⟩
    rw [← data_list]
    simp_all [opV]
theorem zero_lt_of {n : Nat} (h : n = 1) : 0 < n := by omega
set_option maxHeartbeats 2000000 in
theorem isToken_any (s : ByteArray) (k : Int) (w : World) (hk : k = 1 ∨ k = 2) (hg : Signs w) :
    Calls Tryd.prog 79 #[.string s, .int .i64 k] w fun e w' => e = .returned (.bool (kindV k s.data.toList)) ∧ Below w.heap.size w w' := by
  by_cases h16 : 16 < s.size
  · have HF := Lib.hid (kindV_long s.data.toList k (by simpa using h16))
    have h16' : (16 : Int) < (s.size : Int) := by omega
    go_enter Tryd.func79, Tryd.ntmps79
    go_wp2_with fail
    go_ret
    exact ⟨ret_bool HF.out.symm, Below.refl _ _⟩
  · have HT := Lib.hid (isTok_kind s.data.toList k hk)
    have h16' : ¬ (16 : Int) < (s.size : Int) := by omega
    cases ha : allK s.data.toList with
    | error px =>
      obtain ⟨p, x⟩ := px
      have hx := err_code ha
      have hf : isTokV s.data.toList k = false := by unfold isTokV; rw [ha]
      have HF := Lib.hid hf
      have HA := Lib.hid ha
      have hx0 : (x == 0) = false := by rcases hx with rfl | rfl <;> rfl
      clear hf ha
      go_enter Tryd.func79, Tryd.ntmps79
      go_wp2_with fail
      refine (all_bad s p x _ (by omega) hg HA.out).mono ?_
      rintro e w2 ⟨rfl, hb2⟩
      go_wp2_with fail
      go_ret
      exact ⟨ret_bool (by rw [← HT.out, HF.out]), hb2⟩
    | ok ts =>
      have HA := Lib.hid ha
      obtain ⟨n, hn⟩ : ∃ n, ts.length = n := ⟨_, rfl⟩
      have HN := Lib.hid hn
      by_cases h1 : n = 1
      · subst h1
        obtain ⟨t, rfl⟩ : ∃ t, ts = [t] := by
          match ts, hn with
          | [t], _ => exact ⟨t, rfl⟩
        have hf : isTokV s.data.toList k = (decide (t.kind = k) && (t.text == s.data.toList)) := by unfold isTokV; rw [ha]
        have HF := Lib.hid hf
        clear hf ha hn
        have hf2 : ∀ w2 A, Row w2 A [t] → ∃ g o, A = some ⟨g, o, none⟩ ∧ w2.cell? ⟨g, o, none⟩ = some (.int .i64 t.kind) ∧ w2.cell? ⟨g, o + 1, none⟩ = some (.string ⟨t.text.toArray⟩) := fun w2 A hr => by
          obtain ⟨g, o, hA, d0, d1, _, _⟩ := hr.at_ (i := 0) (by simp)
          simp only [Nat.zero_mul, Nat.add_zero] at d0 d1
          exact ⟨g, o, hA, d0, d1⟩
        have HR := Lib.hid hf2
        clear hf2
        by_cases hkd : t.kind = k
        · have e1 : (t.kind == k) = true := by simpa using hkd
          go_enter Tryd.func79, Tryd.ntmps79
          go_wp2_with fail
          refine (all_good' s [t] 1 HN.out _ (by omega) hg HA.out).mono ?_
          rintro e w2 ⟨A, c, rfl, hr, hb2⟩
          obtain ⟨g, o, rfl, d0, d1⟩ := HR.out _ _ hr
          clear hr
          go_wp2_with fail
          go_ret
          exact ⟨ret_bool (by rw [← HT.out, HF.out, data_list]; simp [hkd]), hb2⟩
        · have e1 : (t.kind == k) = false := by simpa using hkd
          go_enter Tryd.func79, Tryd.ntmps79
          go_wp2_with fail
          refine (all_good' s [t] 1 HN.out _ (by omega) hg HA.out).mono ?_
          rintro e w2 ⟨A, c, rfl, hr, hb2⟩
          obtain ⟨g, o, rfl, d0, d1⟩ := HR.out _ _ hr
          clear hr
          go_wp2_with fail
          go_ret
          exact ⟨ret_bool (by rw [← HT.out, HF.out]; simp [hkd]), hb2⟩
      · have hf : isTokV s.data.toList k = false := by
          unfold isTokV; rw [ha]
          split
          · rename_i t h
            have := Except.ok.inj h
            subst this
            exact absurd hn.symm h1
          · rfl
        have HF := Lib.hid hf
        have hn1 : ((n : Int) == 1) = false := by simp; omega
        clear hf ha hn
        go_enter Tryd.func79, Tryd.ntmps79
        go_wp2_with fail
        refine (all_good' s ts n HN.out _ (by omega) hg HA.out).mono ?_
        rintro e w2 ⟨A, c, rfl, hr, hb2⟩
        clear hr
        go_wp2_with fail
        go_ret
        exact ⟨ret_bool (by rw [← HT.out, HF.out]), hb2⟩
theorem str_empty (s : ByteArray) : (s.toList == []) = (s.data.toList == []) := by rw [data_list]
set_option maxHeartbeats 1000000 in
theorem isName_any (s : ByteArray) (v : Int) (w : World) (hg : Signs w) :
    Calls Tryd.prog 67 #[.string s, .int .i64 v] w fun e w' => e = .returned (.bool (whatV v s.data.toList)) ∧ Below w.heap.size w w' := by
  by_cases h1 : v = 1
  · subst h1
    have HT := Lib.hid (isToken_any s 1 w (.inl rfl) hg)
    go_enter Tryd.func67, Tryd.ntmps67
    go_wp2_with fail
    refine HT.out.mono ?_
    rintro e w2 ⟨rfl, hb2⟩
    go_wp2_with fail
    go_ret
    exact ⟨ret_bool (by simp [whatV, kindV]), hb2⟩
  · have e1 : (v == 1) = false := by simpa using h1
    by_cases h2 : v = 2
    · subst h2
      have HT := Lib.hid (isToken_any s 2 w (.inr rfl) hg)
      go_enter Tryd.func67, Tryd.ntmps67
      go_wp2_with fail
      refine HT.out.mono ?_
      rintro e w2 ⟨rfl, hb2⟩
      go_wp2_with fail
      go_ret
      exact ⟨ret_bool (by simp [whatV, kindV]), hb2⟩
    · have e2 : (v == 2) = false := by simpa using h2
      by_cases h3 : v = 3
      · subst h3
        go_enter Tryd.func67, Tryd.ntmps67
        go_wp2_with fail
        refine (oper_any s _).mono ?_
        rintro e w2 ⟨rfl, rfl⟩
        go_wp2_with fail
        go_ret
        exact ⟨ret_bool (by simp [whatV]), Below.refl _ _⟩
      · have e3 : (v == 3) = false := by simpa using h3
        have HE := Lib.hid (str_empty s)
        go_enter Tryd.func67, Tryd.ntmps67
        go_wp2_with fail
        go_ret
        refine ⟨ret_bool ?_, Below.refl _ _⟩
        unfold whatV
        rw [if_neg h1, if_neg h2, if_neg h3, ← HE.out]
        first | rfl | (cases s.toList <;> rfl)

set_option maxHeartbeats 2000000 in
theorem fits_any (hn hN hl hm k n a : Int) (s : ByteArray) (A : Option Addr) (m c : Nat) (w : World) (hg : Signs w) (_hmm : m ≤ 140737488351232) (hN9 : hN ≤ 999999999999999999) :
    Calls Tryd.prog 56 #[.agg #[.int .i64 hn, .int .i64 hN, .int .i64 hl, .int .i64 hm], .agg #[.int .i64 k, .string s, .int .i64 n, .int .i64 a, .slice A m c]] w fun e w' =>
      e = .returned (.bool (fitsV (hn, hN, hl, hm) k s.data.toList n a m)) ∧ Below w.heap.size w w' := by
  have hb : Below w.heap.size w ((w.alloc (.cells #[.int .i64 hn, .int .i64 hN, .int .i64 hl, .int .i64 hm] 85)).alloc (.cells #[.int .i64 k, .string s, .int .i64 n, .int .i64 a, .slice A m c] 33)) :=
    ((Below.refl _ w).alloc (Nat.le_refl _) _).alloc (by simp) _
  by_cases h1 : a < 0 ∨ n < 0 ∨ hN < n
  · have HF : Hid (fitsV (hn, hN, hl, hm) k s.data.toList n a m = false) := by
      show _ = _
      unfold fitsV
      rw [if_pos h1]
    rcases (by omega : a < 0 ∨ (¬ a < 0 ∧ n < 0) ∨ (¬ a < 0 ∧ ¬ n < 0 ∧ hN < n)) with q1 | ⟨q1, q2⟩ | ⟨q1, q2, q3⟩
    all_goals
      clear h1
      go_enter Tryd.func56, Tryd.ntmps56
      go_wp2_with fail
      go_ret
      exact ⟨ret_bool HF.out.symm, hb⟩
  · have q1 : ¬ a < 0 := by omega
    have q2 : ¬ n < 0 := by omega
    have q3 : ¬ hN < n := by omega
    by_cases h2 : (m : Int) < hl ∨ hm < (m : Int)
    · have HF : Hid (fitsV (hn, hN, hl, hm) k s.data.toList n a m = false) := by
        show _ = _
        unfold fitsV
        rw [if_neg h1, if_pos h2]
      rcases (by omega : (m : Int) < hl ∨ (¬ (m : Int) < hl ∧ hm < (m : Int))) with p1 | ⟨p1, p2⟩
      all_goals
        clear h1 h2
        go_enter Tryd.func56, Tryd.ntmps56
        go_wp2_with fail
        go_ret
        exact ⟨ret_bool HF.out.symm, hb⟩
    · have p1 : ¬ (m : Int) < hl := by omega
      have p2 : ¬ hm < (m : Int) := by omega
      by_cases h3 : k = 8 ∧ (m : Int) ≠ n + 1
      · have HF : Hid (fitsV (hn, hN, hl, hm) k s.data.toList n a m = false) := by
          show _ = _
          unfold fitsV
          rw [if_neg h1, if_neg h2, if_pos h3]
        obtain ⟨rfl, h4⟩ := h3
        have e4 : ((m : Int) != n + 1) = true := by simpa using h4
        clear h1 h2 h4
        go_enter Tryd.func56, Tryd.ntmps56
        go_wp2_with fail
        go_ret
        exact ⟨ret_bool HF.out.symm, hb⟩
      · have HF : Hid (fitsV (hn, hN, hl, hm) k s.data.toList n a m = whatV hn s.data.toList) := by
          show _ = _
          unfold fitsV
          rw [if_neg h1, if_neg h2, if_neg h3]
        have hg' : Signs ((w.alloc (.cells #[.int .i64 hn, .int .i64 hN, .int .i64 hl, .int .i64 hm] 85)).alloc (.cells #[.int .i64 k, .string s, .int .i64 n, .int .i64 a, .slice A m c] 33)) := hg.below hb hg.pos
        have HT := Lib.hid (isName_any s hn _ hg')
        by_cases h8 : k = 8
        · subst h8
          have h4 : (m : Int) = n + 1 := Classical.byContradiction fun h => h3 ⟨rfl, h⟩
          have e4 : ((m : Int) != n + 1) = false := by simp [h4]
          clear h1 h2 h3 hg hg'
          have H4 := Lib.hid h4
          clear h4
          go_enter Tryd.func56, Tryd.ntmps56
          go_wp2_with fail
          refine HT.out.mono ?_
          rintro e w2 ⟨rfl, hb2⟩
          go_wp2_with fail
          go_ret
          exact ⟨ret_bool HF.out.symm, hb.trans (hb2.mono (by simp; omega))⟩
        · have e8 : (k == 8) = false := by simpa using h8
          clear h1 h2 h3 hg hg' h8
          go_enter Tryd.func56, Tryd.ntmps56
          go_wp2_with fail
          refine HT.out.mono ?_
          rintro e w2 ⟨rfl, hb2⟩
          go_wp2_with fail
          go_ret
          exact ⟨ret_bool HF.out.symm, hb.trans (hb2.mono (by simp; omega))⟩
end Lx
end Go.Proofs.YtnljlocogfacfaaDoor
