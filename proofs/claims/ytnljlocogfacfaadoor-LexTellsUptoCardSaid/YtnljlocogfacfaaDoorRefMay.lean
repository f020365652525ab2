/-
  Walks of the reference's name, parts.
-/
import Derived.Test.YtnljlocogfacfaaDoorRefTok
namespace Go.Proofs.YtnljlocogfacfaaDoor
open Go.RowKit
namespace Lx
set_option maxRecDepth 100000
theorem str_empty' (s : ByteArray) : s.toList.isEmpty = (s.data.toList == []) := by rw [data_list]; cases s.data.toList <;> rfl
set_option maxHeartbeats 2000000 in
theorem rname_any (k n a : Int) (s : ByteArray) (A : Option Addr) (m c : Nat) (w : World) (hs : s.size ≤ 140737488351232) :
    Calls Tryd.prog 58 #[.agg #[.int .i64 k, .string s, .int .i64 n, .int .i64 a, .slice A m c]] w fun e w' => e = .returned (.bool (nameOkV k s.data.toList)) ∧ Below w.heap.size w w' := by
  have hb : Below w.heap.size w (w.alloc (.cells #[.int .i64 k, .string s, .int .i64 n, .int .i64 a, .slice A m c] 33)) := (Below.refl _ w).alloc (Nat.le_refl _) _
  have HT1 := Lib.hid (rtoken_any s 1 (w.alloc (.cells #[.int .i64 k, .string s, .int .i64 n, .int .i64 a, .slice A m c] 33)) (.inl rfl) hs)
  have HT2 := Lib.hid (rtoken_any s 2 (w.alloc (.cells #[.int .i64 k, .string s, .int .i64 n, .int .i64 a, .slice A m c] 33)) (.inr rfl) hs)
  have HE := Lib.hid (str_empty' s)
  rcases (by omega : k = 1 ∨ k = 2 ∨ k = 4 ∨ k = 5 ∨ k = 6 ∨ k = 8 ∨ k = 10 ∨ (k ≠ 1 ∧ k ≠ 2 ∧ k ≠ 4 ∧ k ≠ 5 ∧ k ≠ 6 ∧ k ≠ 8 ∧ k ≠ 10)) with rfl | rfl | rfl | rfl | rfl | rfl | rfl | ⟨n1, n2, n4, n5, n6, n8, n10⟩
  case inl | inr.inl | inr.inr.inl | inr.inr.inr.inl =>
    go_enter Tryd.func58, Tryd.ntmps58
    go_wp2_with fail
    refine HT1.out.mono ?_
    rintro e w2 ⟨rfl, hb2⟩
    go_wp2_with fail
    go_ret
    exact ⟨ret_bool (by simp [nameOkV, kindV]), below_al (Below.refl _ w) hb2⟩
  case inr.inr.inr.inr.inl | inr.inr.inr.inr.inr.inl =>
    go_enter Tryd.func58, Tryd.ntmps58
    go_wp2_with fail
    refine HT2.out.mono ?_
    rintro e w2 ⟨rfl, hb2⟩
    go_wp2_with fail
    go_ret
    exact ⟨ret_bool (by simp [nameOkV, kindV]), below_al (Below.refl _ w) hb2⟩
  · clear HT1 HT2
    go_enter Tryd.func58, Tryd.ntmps58
    go_wp2_with fail
    all_goals
      go_ret
      refine ⟨ret_bool ?_, hb⟩
      simp only [nameOkV]
      rw [← data_list]
      simp_all [opV, Bool.or_assoc]
  · clear HT1 HT2
    have e1 : (k == 1) = false := by simpa using n1
    have e2 : (k == 2) = false := by simpa using n2
    have e4 : (k == 4) = false := by simpa using n4
    have e5 : (k == 5) = false := by simpa using n5
    have e6 : (k == 6) = false := by simpa using n6
    have e8 : (k == 8) = false := by simpa using n8
    have e10 : (k == 10) = false := by simpa using n10
    have HF : Hid (nameOkV k s.data.toList = s.toList.isEmpty) := by
      show _ = _
      rw [HE.out]
      simp [nameOkV, n1, n2, n4, n5, n6, n8, n10]
    clear n1 n2 n4 n5 n6 n8 n10
    go_enter Tryd.func58, Tryd.ntmps58
    go_wp2_with fail
    go_ret
    exact ⟨ret_bool HF.out.symm, hb⟩
set_option maxHeartbeats 4000000 in
theorem rparts_any (k n a : Int) (s : ByteArray) (A : Option Addr) (m c : Nat) (w : World) (hm : m ≤ 140737488351232) :
    Calls Tryd.prog 59 #[.agg #[.int .i64 k, .string s, .int .i64 n, .int .i64 a, .slice A m c]] w fun e w' => e = .returned (.bool (partsV k n m)) ∧ Below w.heap.size w w' := by
  have hb : Below w.heap.size w (w.alloc (.cells #[.int .i64 k, .string s, .int .i64 n, .int .i64 a, .slice A m c] 33)) := (Below.refl _ w).alloc (Nat.le_refl _) _
  rcases (by omega : k = 1 ∨ k = 2 ∨ k = 3 ∨ k = 4 ∨ k = 5 ∨ k = 10 ∨ k = 6 ∨ k = 7 ∨ k = 9 ∨ k = 8 ∨ (k < 1 ∨ 10 < k)) with rfl | rfl | rfl | rfl | rfl | rfl | rfl | rfl | rfl | rfl | hk
  case inr.inr.inr.inr.inr.inr.inr.inr.inr.inr =>
    have e : ∀ j : Int, 1 ≤ j → j ≤ 10 → (k == j) = false := fun j h1 h2 => by simp; omega
    have e1 := e 1 (by omega) (by omega)
    have e2 := e 2 (by omega) (by omega)
    have e3 := e 3 (by omega) (by omega)
    have e4 := e 4 (by omega) (by omega)
    have e5 := e 5 (by omega) (by omega)
    have e6 := e 6 (by omega) (by omega)
    have e7 := e 7 (by omega) (by omega)
    have e8 := e 8 (by omega) (by omega)
    have e9 := e 9 (by omega) (by omega)
    have e10 := e 10 (by omega) (by omega)
    have HF : Hid (partsV k n m = false) := by
      have e : ∀ j : Int, 1 ≤ j → j ≤ 10 → k ≠ j := by omega
      show _ = _
      simp [partsV, e 1, e 2, e 3, e 4, e 5, e 6, e 7, e 8, e 9, e 10]
    clear e hk
    go_enter Tryd.func59, Tryd.ntmps59
    go_wp2_with fail
    go_ret
    exact ⟨ret_bool HF.out.symm, hb⟩
  case inr.inr.inr.inr.inr.inr.inr.inr.inr.inl =>
    by_cases h1 : 0 ≤ n
    · by_cases h2 : n ≤ 8
      · go_enter Tryd.func59, Tryd.ntmps59
        go_wp2_with fail
        go_ret
        refine ⟨ret_bool ?_, hb⟩
        rw [Bool.eq_iff_iff]; simp [partsV]; omega
      · go_enter Tryd.func59, Tryd.ntmps59
        go_wp2_with fail
        go_ret
        refine ⟨ret_bool ?_, hb⟩
        rw [Bool.eq_iff_iff]; simp [partsV]; omega
    · go_enter Tryd.func59, Tryd.ntmps59
      go_wp2_with fail
      go_ret
      refine ⟨ret_bool ?_, hb⟩
      rw [Bool.eq_iff_iff]; simp [partsV]; omega
  all_goals
    go_enter Tryd.func59, Tryd.ntmps59
    go_wp2_with fail
  all_goals
    go_ret
    refine ⟨ret_bool ?_, (Below.refl _ w).alloc (Nat.le_refl _) _⟩
    rw [Bool.eq_iff_iff]; simp [partsV] <;> omega
end Lx
end Go.Proofs.YtnljlocogfacfaaDoor
