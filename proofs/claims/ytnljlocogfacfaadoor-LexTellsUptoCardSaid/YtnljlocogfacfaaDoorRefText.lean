/-
  The lex reference's Text.
-/
import Derived.Test.YtnljlocogfacfaaDoorBld
namespace Go.Proofs.YtnljlocogfacfaaDoor
open Go.RowKit
namespace Lx
set_option maxRecDepth 100000
theorem mk_size (l : List UInt8) : (⟨l.toArray⟩ : ByteArray).size = l.length := by show l.toArray.size = _; simp
theorem mk_append (a b : List UInt8) : (⟨a.toArray⟩ : ByteArray) ++ (⟨b.toArray⟩ : ByteArray) = ⟨(a ++ b).toArray⟩ := by
  apply ByteArray.ext
  rw [ByteArray.data_append]
  simp
theorem mk_sp (a : List UInt8) (h : (⟨#[32]⟩ : ByteArray) = ⟨([32] : List UInt8).toArray⟩) : (⟨a.toArray⟩ : ByteArray) ++ (⟨#[32]⟩ : ByteArray) = ⟨(a ++ [32]).toArray⟩ := by
  rw [h, mk_append]
set_option maxHeartbeats 2000000 in
theorem rtext_any (A : Option Addr) (a : List Tok) (n c : Nat) (hn : n = a.length) (w : World) (ha : Row w A a) (hs : n ≤ 60000) (ht : (textS a).length ≤ 100000000) :
    Calls Tryd.prog 16 #[.slice A n c] w fun e w' => e = .returned (.string ⟨(textS a).toArray⟩) ∧ w = w' := by
  have hn1 : n ≤ a.length := by omega
  have hn2 : a.length ≤ n := by omega
  clear hn
  go_enter Tryd.func16, Tryd.ntmps16
  go_wp2_with fail
  go_loopw [3, 4] (fun v x wr => ∃ (i : Nat), i ≤ n ∧ x = .int .i64 i ∧ v = .string ⟨(textS (a.take i)).toArray⟩ ∧ w = wr) (fun _ x _ => n - (intOf x).toNat)
  case atStart => exact ⟨0, by omega, rfl, by simp [textS], rfl⟩
  case round =>
    obtain ⟨i, hi, rfl, rfl, rfl⟩ := hrel
    by_cases hlt : i < n
    · have hia : i < a.length := by omega
      obtain ⟨g, o, hA, d0, d1, d2, d3⟩ := ha.at_ hia
      subst hA
      obtain ⟨tx, htx⟩ : ∃ tx, tx = (a[i]'hia).text := ⟨_, rfl⟩
      rw [← htx] at d1
      by_cases h0 : 0 < i
      · have h0' : (0 : Int) < (i : Int) := by omega
        have HS := Lib.hid (textS_take a i hia h0)
        rw [← htx] at HS
        obtain ⟨ss, hss⟩ : ∃ ss : ByteArray, ss = ⟨(textS (a.take i)).toArray⟩ := ⟨_, rfl⟩
        rw [← hss]
        have hm2 := textS_mono a (i + 1)
        rw [HS.out, List.length_append, List.length_cons] at hm2
        have hz0 : ss.size = (textS (a.take i)).length := by rw [hss, mk_size]
        have HSS := Lib.hid hss
        clear hss htx ha
        obtain ⟨st, hst⟩ : ∃ st : ByteArray, st = ⟨tx.toArray⟩ := ⟨_, rfl⟩
        rw [← hst] at d1
        have hz1 : st.size = tx.length := by rw [hst, mk_size]
        have hz2 : ¬ 9223372036854775807 < ss.size + 1 := by omega
        have hz3 : ¬ 9223372036854775807 < ss.size + 1 + st.size := by omega
        clear hz0 hz1
        have HST := Lib.hid hst
        clear hst
        go_wp2_with fail
        go_roundw
        case rel =>
          refine ⟨i + 1, by omega, by go_num, ?_, trivial⟩
          rw [HS.out, HSS.out, HST.out, mk_sp _ rfl, mk_append]
          simp
        case measure => simp [intOf]; omega
      · obtain rfl : i = 0 := by omega
        simp only [Nat.zero_mul, Nat.add_zero] at d0 d1 d2 d3
        have HS := Lib.hid (textS_one a hia)
        rw [← htx] at HS
        have hm2 := textS_mono a 1
        rw [HS.out] at hm2
        clear htx ha
        obtain ⟨st, hst⟩ : ∃ st : ByteArray, st = ⟨tx.toArray⟩ := ⟨_, rfl⟩
        rw [← hst] at d1
        have hz1 : st.size = tx.length := by rw [hst, mk_size]
        have hte : textS (a.take 0) = [] := rfl
        rw [hte]
        obtain ⟨ss, hss⟩ : ∃ ss : ByteArray, ss = ⟨([] : List UInt8).toArray⟩ := ⟨_, rfl⟩
        rw [← hss]
        have hz0 : ss.size = 0 := by rw [hss, mk_size]; rfl
        have hz2 : ¬ 9223372036854775807 < ss.size + st.size := by omega
        have HSS := Lib.hid hss
        clear hz1 hz0 hss hte
        have HST := Lib.hid hst
        clear hst
        go_wp2_with fail
        go_roundw
        case rel =>
          refine ⟨1, by omega, by go_num, ?_, trivial⟩
          rw [HS.out, HST.out, HSS.out, mk_append]
          simp
        case measure => simp [intOf]; omega
    · go_wp2_with fail
      go_ret
      rw [List.take_of_length_le (by omega)]
      exact ⟨rfl, rfl⟩
end Lx
end Go.Proofs.YtnljlocogfacfaaDoor
