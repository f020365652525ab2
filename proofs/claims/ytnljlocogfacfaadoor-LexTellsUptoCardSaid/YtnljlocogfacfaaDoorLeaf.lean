/-
  Walks of the leaves: what tells runes apart, and how many bytes at the beginning of a text fit.
-/
import Derived.Test.YtnljlocogfacfaaDoorPlain
import Derived.Test.YtnljlocogfacfaaDoorProg
import Derived.WalkKit
import Derived.BigCall
import Derived.WalkLawsBesides
import Derived.Below
import Derived.Lib.Hide
import Derived.Lib.OthersKept
import Derived.Shelf.Abstract
namespace Go.Proofs.YtnljlocogfacfaaDoor
open Go.RowKit
namespace Lx
set_option maxRecDepth 100000
theorem ret_bool {a b : Bool} (h : a = b) : Ending.returned (.bool a) = .returned (.bool b) := by rw [h]
theorem ret_int {k : IntKind} {a b : Int} (h : a = b) : Ending.returned (.int k a) = .returned (.int k b) := by rw [h]

theorem small_any (r : Int) (w : World) : Calls Tryd.prog 74 #[.int .i32 r] w fun e w' => e = .returned (.bool (lowR r)) ∧ w = w' := by
  go_enter Tryd.func74, Tryd.ntmps74
  go_wp2
  all_goals
    go_ret
    refine ⟨ret_bool ?_, rfl⟩
    first | (simp [lowR, *]; done) | (simp [lowR]; omega)
theorem capital_any (r : Int) (w : World) : Calls Tryd.prog 75 #[.int .i32 r] w fun e w' => e = .returned (.bool (upR r)) ∧ w = w' := by
  go_enter Tryd.func75, Tryd.ntmps75
  go_wp2
  all_goals
    go_ret
    refine ⟨ret_bool ?_, rfl⟩
    first | (simp [upR, *]; done) | (simp [upR]; omega)
theorem digit_any (r : Int) (w : World) : Calls Tryd.prog 76 #[.int .i32 r] w fun e w' => e = .returned (.bool (digR r)) ∧ w = w' := by
  go_enter Tryd.func76, Tryd.ntmps76
  go_wp2
  all_goals
    go_ret
    refine ⟨ret_bool ?_, rfl⟩
    first | (simp [digR, *]; done) | (simp [digR]; omega)
theorem blank_any (r : Int) (w : World) : Calls Tryd.prog 49 #[.int .i32 r] w fun e w' => e = .returned (.bool (blkR r)) ∧ w = w' := by
  go_enter Tryd.func49, Tryd.ntmps49
  go_wp2
  all_goals
    go_ret
    refine ⟨ret_bool ?_, rfl⟩
    first | rfl | (simp [blkR, *]; done)
theorem ld_any (r : Int) (w : World) : Calls Tryd.prog 63 #[.int .i32 r] w fun e w' => e = .returned (.bool (ldR r)) ∧ w = w' := by
  cases h1 : lowR r
  · cases h2 : upR r
    · go_enter Tryd.func63, Tryd.ntmps63
      go_wp2_with (first | (go_at_call 74; refine (small_any _ _).mono ?_; rintro e w' ⟨rfl, rfl⟩) | (go_at_call 75; refine (capital_any _ _).mono ?_; rintro e w' ⟨rfl, rfl⟩) | (go_at_call 76; refine (digit_any _ _).mono ?_; rintro e w' ⟨rfl, rfl⟩))
      all_goals
        go_ret
        refine ⟨ret_bool ?_, rfl⟩
        simp [ldR, h1, h2]
    · go_enter Tryd.func63, Tryd.ntmps63
      go_wp2_with (first | (go_at_call 74; refine (small_any _ _).mono ?_; rintro e w' ⟨rfl, rfl⟩) | (go_at_call 75; refine (capital_any _ _).mono ?_; rintro e w' ⟨rfl, rfl⟩) | (go_at_call 76; refine (digit_any _ _).mono ?_; rintro e w' ⟨rfl, rfl⟩))
      all_goals
        go_ret
        refine ⟨ret_bool ?_, rfl⟩
        simp [ldR, h1, h2]
  · go_enter Tryd.func63, Tryd.ntmps63
    go_wp2_with (first | (go_at_call 74; refine (small_any _ _).mono ?_; rintro e w' ⟨rfl, rfl⟩) | (go_at_call 75; refine (capital_any _ _).mono ?_; rintro e w' ⟨rfl, rfl⟩) | (go_at_call 76; refine (digit_any _ _).mono ?_; rintro e w' ⟨rfl, rfl⟩))
    all_goals
      go_ret
      refine ⟨ret_bool ?_, rfl⟩
      simp [ldR, h1]

theorem decode_big (s : ByteArray) (pos : Nat) (h : pos < s.size) (hh : 128 ≤ (s[pos]'h).toNat) : 128 ≤ ((Utf8.decode s pos).1 : Int) := by
  have := (decode_high s pos h hh).1
  omega

set_option maxHeartbeats 400000 in
theorem span_any (K : Nat) (P : Int → Bool) (hen : ∀ args w, (callFunc K args).run Tryd.prog w = .ok (.enter K args) w)
    (hP : ∀ (r : Int) (w : World), Calls Tryd.prog K #[.int .i32 r] w fun e w' => e = .returned (.bool (P r)) ∧ w = w') (hhi : ∀ r, 128 ≤ r → P r = false)
    (s : ByteArray) (w : World) :
    Calls Tryd.prog 48 #[.string s, .func (.func K) #[] #[]] w fun e w' => e = .returned (.int .i64 (run P s.data.toList)) ∧ Below w.heap.size w w' := by
  go_enter Tryd.func48, Tryd.ntmps48
  go_wp2_with fail
  go_loopw [] (fun wr => ∃ k : Nat, k ≤ s.size ∧ wr = w.iter s k ∧ run P s.data.toList = k + run P (s.data.toList.drop k)) (fun wr => s.size - wr.iterPos w.heap.size)
  case atStart => exact ⟨0, Nat.zero_le _, rfl, by simp⟩
  case round =>
    obtain ⟨k, hk, rfl, hrun⟩ := hrel
    have HR := Lib.hid hrun
    clear hrun
    by_cases hlt : k < s.size
    · have hlen : k < s.data.toList.length := by simpa using hlt
      have hb : s.data.toList[k]'hlen = s[k] := by simp [ByteArray.getElem_eq_getElem_data]
      have hd := Lib.hid (run_drop P s.data.toList k hlen)
      rw [hb] at hd
      clear hb
      have hnx : ∀ ty, (Instr.next (.pointer (some ⟨w.heap.size, 0, none⟩)) true ty).run Tryd.prog (w.iter s k) = _ := fun ty => run_next_any w s k ty hlt
      by_cases ha : (s[k]'hlt).toNat < 128
      · have he := decode_ascii s k hlt ha
        rw [he] at hnx
        clear he
        cases hp : P ((s[k]'hlt).toNat : Int)
        · go_wp2_with fail
          refine (hP _ _).mono ?_
          rintro e w' ⟨rfl, rfl⟩
          go_wp2_with fail
          go_ret
          refine ⟨ret_int ?_, (Below.refl _ w).alloc (Nat.le_refl _) _⟩
          rw [HR.out, hd.out, hp]
          simp
        · go_wp2_with fail
          refine (hP _ _).mono ?_
          rintro e w' ⟨rfl, rfl⟩
          go_wp2_with fail
          go_roundw
          case rel =>
            refine ⟨k + 1, by omega, rfl, ?_⟩
            rw [HR.out, hd.out, hp]
            simp; omega
          case measure => simp; omega
      · have hbig : 128 ≤ ((Utf8.decode s k).1 : Int) := decode_big s k hlt (by omega)
        have hp := hhi _ hbig
        have hq := Lib.hid (hhi ((s[k]'hlt).toNat : Int) (by omega))
        go_wp2_with fail
        refine (hP _ _).mono ?_
        rintro e w' ⟨rfl, rfl⟩
        go_wp2_with fail
        go_ret
        refine ⟨ret_int ?_, (Below.refl _ w).alloc (Nat.le_refl _) _⟩
        rw [HR.out, hd.out, hq.out]
        simp
    · have hnx : ∀ ty, (Instr.next (.pointer (some ⟨w.heap.size, 0, none⟩)) true ty).run Tryd.prog (w.iter s k) = _ := fun ty => run_next_end w s k ty hlt
      go_wp2
      go_ret
      refine ⟨ret_int ?_, ?_⟩
      · rw [HR.out, run_nil P _ _ (by simp; omega)]
        simp; omega
      · exact (Below.refl _ w).alloc (Nat.le_refl _) _

theorem span_blk (s : ByteArray) (w : World) : Calls Tryd.prog 48 #[.string s, .func (.func 49) #[] #[]] w fun e w' => e = .returned (.int .i64 (run blkR s.data.toList)) ∧ Below w.heap.size w w' :=
  span_any 49 blkR (enters_of Tryd.func49 (by kernel_rfl) rfl) blank_any (fun r h => by simp [blkR]; omega) s w
theorem span_ld (s : ByteArray) (w : World) : Calls Tryd.prog 48 #[.string s, .func (.func 63) #[] #[]] w fun e w' => e = .returned (.int .i64 (run ldR s.data.toList)) ∧ Below w.heap.size w w' :=
  span_any 63 ldR (enters_of Tryd.func63 (by kernel_rfl) rfl) ld_any (fun r h => by simp [ldR, lowR, upR, digR]; omega) s w
theorem span_dig (s : ByteArray) (w : World) : Calls Tryd.prog 48 #[.string s, .func (.func 76) #[] #[]] w fun e w' => e = .returned (.int .i64 (run digR s.data.toList)) ∧ Below w.heap.size w w' :=
  span_any 76 digR (enters_of Tryd.func76 (by kernel_rfl) rfl) digit_any (fun r h => by simp [digR]; omega) s w
theorem span_low (s : ByteArray) (w : World) : Calls Tryd.prog 48 #[.string s, .func (.func 74) #[] #[]] w fun e w' => e = .returned (.int .i64 (run lowR s.data.toList)) ∧ Below w.heap.size w w' :=
  span_any 74 lowR (enters_of Tryd.func74 (by kernel_rfl) rfl) small_any (fun r h => by simp [lowR]; omega) s w
end Lx
end Go.Proofs.YtnljlocogfacfaaDoor
