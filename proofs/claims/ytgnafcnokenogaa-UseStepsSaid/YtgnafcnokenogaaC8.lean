/-
  Texts that lie one behind the other: Ref RefRun RefSign RefOne Again Name Depth.
-/
import Derived.Test.YtgnafcnokenogaaC1
import Derived.OwnWalk
import Derived.Deep.QuietTactic
import Derived.BigQuiet
import Derived.Deep.RegionHeld3
import Derived.Deep.DrawnRows
namespace Go.Proofs.Ytgnafcnokenogaa
open Go.RowKit
namespace Lx
set_option maxRecDepth 100000
/-- The class of a byte. -/
def clsV (c : Int) : Int := if lowR c = true then 1 else if upR c = true then 2 else if digR c = true then 3 else if blkR c = true then 4 else 0
set_option maxHeartbeats 1000000 in
theorem class_any (c : Int) (w : World) (h0 : 0 ≤ c) (h1 : c ≤ 255) : Calls Try.prog 74 #[.int .u8 c] w fun e w' => e = .returned (.int .i64 (clsV c)) ∧ w = w' := by
  have hc : (97 ≤ c ∧ c ≤ 122) ∨ (65 ≤ c ∧ c ≤ 90) ∨ (48 ≤ c ∧ c ≤ 57) ∨ c = 32 ∨ c = 10 ∨ c = 9 ∨ (122 < c) ∨ (90 < c ∧ c < 97) ∨ (57 < c ∧ c < 65) ∨ (32 < c ∧ c < 48) ∨ (10 < c ∧ c < 32) ∨ c < 9 := by omega
  rcases hc with ⟨a, b⟩ | ⟨a, b⟩ | ⟨a, b⟩ | rfl | rfl | rfl | a | ⟨a, b⟩ | ⟨a, b⟩ | ⟨a, b⟩ | ⟨a, b⟩ | a
  all_goals
    try have n1 : (c == 32) = false := by simp; omega
    try have n2 : (c == 10) = false := by simp; omega
    try have n3 : (c == 9) = false := by simp; omega
    go_enter Try.func74, Try.ntmps74
    go_wp2
  all_goals
    go_ret
    refine ⟨ret_int ?_, rfl⟩
    first
      | rfl
      | (simp [clsV, lowR, upR, digR, blkR, *]; done)
      | (have e1 : lowR c = false := by simp [lowR]; omega
         have e2 : upR c = false := by simp [upR]; omega
         have e3 : digR c = false := by simp [digR]; omega
         have e4 : blkR c = false := by simp [blkR]; omega
         simp [clsV, e1, e2, e3, e4]; done)
      | (have e1 : lowR c = false := by simp [lowR]; omega
         have e2 : upR c = false := by simp [upR]; omega
         have e3 : digR c = true := by simp [digR]; omega
         simp [clsV, e1, e2, e3]; done)
      | (have e1 : lowR c = false := by simp [lowR]; omega
         have e2 : upR c = true := by simp [upR]; omega
         simp [clsV, e1, e2]; done)

theorem rword_any (s : ByteArray) (w : World) : Calls Try.prog 76 #[.string s] w fun e w' => e = .returned (.bool (wordS s.data.toList)) ∧ w = w' := by
  go_enter Try.func76, Try.ntmps76
  go_wp2
  all_goals
    go_ret
    refine ⟨ret_bool ?_, rfl⟩
    rw [← data_list]
    simp_all [wordS, Bool.or_assoc]

set_option maxHeartbeats 1000000 in
theorem rnumber_any (s : ByteArray) (w : World) (hd : run digR s.data.toList = s.data.toList.length) (h18 : s.size ≤ 18) :
    Calls Try.prog 75 #[.string s] w fun e w' => e = .returned (.int .i64 (numV s.data.toList)) ∧ w = w' := by
  have HD := Lib.hid hd
  clear hd
  go_enter Try.func75, Try.ntmps75
  go_wp2_with fail
  go_loop [3, 4] (fun n a => ∃ k : Nat, k ≤ s.size ∧ a = .int .i64 k ∧ n = .int .i64 (numV (s.data.toList.take k))) (fun _ a => s.size - (intOf a).toNat)
  case atStart => exact ⟨0, Nat.zero_le _, rfl, rfl⟩
  case round =>
    obtain ⟨k, hk, rfl, rfl⟩ := hrel
    by_cases hlt : k < s.size
    · have hlen : k < s.data.toList.length := by simpa using hlt
      have hb : s.data.toList[k]'hlen = s[k] := by simp [ByteArray.getElem_eq_getElem_data]
      have hmem := dig_of digR _ HD.out (s.data.toList[k]'hlen) (List.getElem_mem hlen)
      have HS := Lib.hid (take_snoc s.data.toList k hlen)
      have hbd := numV_bd k (s.data.toList.take k) (by simp; omega) (fun c hc => dig_of digR _ HD.out c (List.mem_of_mem_take hc))
      have hp := pow_le17 k (by omega)
      rw [hb] at hmem HS
      have hd2 : 48 ≤ ((s[k]'hlt).toNat : Int) ∧ ((s[k]'hlt).toNat : Int) ≤ 57 := by simpa [digR] using hmem
      obtain ⟨hd3, hd4⟩ := hd2
      obtain ⟨hb3, hb4⟩ := hbd
      have hb5 : numV (s.data.toList.take k) ≤ 100000000000000000 := by omega
      clear hp hb4 hmem hb
      obtain ⟨N, hN⟩ : ∃ N, N = numV (s.data.toList.take k) := ⟨_, rfl⟩
      rw [← hN] at hb3 hb5 ⊢
      have HNN := Lib.hid hN
      clear hN
      go_wp2_with fail
      go_round
      case rel =>
        refine ⟨k + 1, by omega, by go_num, congrArg (Value.int .i64) ?_⟩
        rw [HS.out, numV_snoc, ← HNN.out]
        omega
      case measure => simp [intOf]; omega
    · go_wp2_with fail
      go_ret
      refine ⟨ret_int ?_, rfl⟩
      rw [List.take_of_length_le (by simp; omega)]
end Lx
end Go.Proofs.Ytgnafcnokenogaa
namespace Go.Proofs.Ytgnafcnokenogaa
open Go.RowKit
namespace Lx
set_option maxRecDepth 100000
theorem run_pos2 {P : Int → Bool} {c : UInt8} {q : List UInt8} (h : 0 < run P (c :: q)) : P (c.toNat : Int) = true := by
  by_cases hc : P (c.toNat : Int) = true
  · exact hc
  · simp [run, hc] at h
theorem run_lt_at (P : Int → Bool) : ∀ (l : List UInt8) (m : Nat), m < run P l → ∃ h : m < l.length, P ((l[m]'h).toNat : Int) = true
  | [], m, h => by simp [run] at h
  | c :: l, 0, h => ⟨by simp, run_pos2 h⟩
  | c :: l, m + 1, h => by
    cases hc : P (c.toNat : Int)
    · simp [run, hc] at h
    · simp [run, hc] at h
      obtain ⟨h1, h2⟩ := run_lt_at P l m h
      exact ⟨by simp; omega, by simpa using h2⟩
theorem run_stop_at (P : Int → Bool) : ∀ (l : List UInt8) (h : run P l < l.length), P ((l[run P l]'h).toNat : Int) = false
  | [], h => by simp at h
  | c :: l, h => by
    cases hc : P (c.toNat : Int)
    · simp [run, hc]
    · have h1 : run P l < l.length := by simp [run, hc] at h; omega
      have := run_stop_at P l h1
      simpa [run, hc] using this
theorem run_min (P Q : Int → Bool) (hPQ : ∀ x, P x = true → Q x = true) : ∀ l : List UInt8, run P l ≤ run Q l
  | [] => by simp [run]
  | c :: l => by
    have := run_min P Q hPQ l
    cases hc : P (c.toNat : Int)
    · simp [run, hc]
    · simp [run, hc, hPQ _ hc, this]

set_option maxHeartbeats 2000000 in
theorem rrun_any (s : ByteArray) (k : Nat) (w : World) (hk : k ≤ s.size) (hs : s.size ≤ 140737488351232) :
    Calls Try.prog 72 #[.string s, .int .i64 k] w fun e w' => e = .returned (.tuple #[.int .i64 (run ldR (s.data.toList.drop k)), .bool (decide (run digR (s.data.toList.drop k) < run ldR (s.data.toList.drop k)))]) ∧ w = w' := by
  obtain ⟨D, hD⟩ : ∃ D, D = s.data.toList.drop k := ⟨_, rfl⟩
  have hDl : D.length = s.size - k := by rw [hD, List.length_drop, Lib.size_eq]
  have hle := run_le ldR D
  rw [← hD]
  have HD := Lib.hid hD
  have HDL := Lib.hid hDl
  rw [hDl] at hle
  clear hD hDl
  go_enter Try.func72, Try.ntmps72
  go_wp2_with fail
  go_loop [6, 7] (fun a b => ∃ m : Nat, m ≤ run ldR D ∧ a = .int .i64 m ∧ b = .bool (decide (run digR D < m))) (fun a _ => s.size - (intOf a).toNat)
  case atStart => exact ⟨0, Nat.zero_le _, rfl, by simp⟩
  case round =>
    obtain ⟨m, hm, rfl, rfl⟩ := hrel
    by_cases hlt : k + m < s.size
    · have hmD : m < D.length := by rw [HDL.out]; omega
      obtain ⟨c, hc⟩ : ∃ c, c = s[k + m]'hlt := ⟨_, rfl⟩
      have hcD : D[m]'hmD = c := by
        rw [hc]
        have h1 : D[m]'hmD = (s.data.toList.drop k)[m]'(by rw [← HD.out]; exact hmD) := by congr 1
        rw [h1, List.getElem_drop]
        simp [ByteArray.getElem_eq_getElem_data]
      have hb0 : s[k + m]'hlt = c := hc.symm
      have HCD := Lib.hid hcD
      clear hc hcD
      have hcn : (c.toNat : Int) ≤ 255 := by have := c.toNat_lt; omega
      by_cases hin : m < run ldR D
      · obtain ⟨h1, h2⟩ := run_lt_at ldR D m hin
        rw [HCD.out] at h2
        by_cases hdg : digR (c.toNat : Int) = true
        · have hcl : clsV (c.toNat : Int) = 3 := by
            simp only [digR, Bool.and_eq_true, decide_eq_true_eq] at hdg
            have e1 : lowR (c.toNat : Int) = false := by simp [lowR]; omega
            have e2 : upR (c.toNat : Int) = false := by simp [upR]; omega
            have e3 : digR (c.toNat : Int) = true := by simp [digR, hdg]
            simp [clsV, e1, e2, e3]
          have HCL := Lib.hid hcl
          have HDG := Lib.hid hdg
          clear hcl hdg h2
          cases hL : decide (run digR D < m)
          all_goals
            go_wp2_with fail
            refine (class_any _ _ (by omega) hcn).mono ?_
            rintro e w' ⟨rfl, rfl⟩
            rw [HCL.out]
            go_wp2_with fail
            go_round
            case rel =>
              refine ⟨m + 1, by omega, by go_num, congrArg Value.bool ?_⟩
              have h3 : run digR D ≠ m := by
                intro e
                have := run_stop_at digR D (by rw [e]; exact hmD)
                simp only [e] at this
                rw [HCD.out, HDG.out] at this
                cases this
              simp at hL ⊢
              omega
            case measure => simp [intOf]; omega
        · have hno : run digR D ≤ m := by
            rcases Nat.lt_or_ge m (run digR D) with h3 | h3
            · obtain ⟨_, h4⟩ := run_lt_at digR D m h3
              rw [HCD.out] at h4
              exact absurd h4 hdg
            · exact h3
          have hcl : clsV (c.toNat : Int) = 1 ∨ clsV (c.toNat : Int) = 2 := by
            simp only [ldR, Bool.or_eq_true] at h2
            cases e1 : lowR (c.toNat : Int)
            · cases e2 : upR (c.toNat : Int)
              · rw [e1, e2] at h2
                simp at h2
                exact absurd h2 hdg
              · right; simp [clsV, e1, e2]
            · left; simp [clsV, e1]
          clear hdg h2
          rcases hcl with hcl | hcl
          all_goals
            have HCL := Lib.hid hcl
            clear hcl
            cases hL : decide (run digR D < m)
            all_goals
              go_wp2_with fail
              refine (class_any _ _ (by omega) hcn).mono ?_
              rintro e w' ⟨rfl, rfl⟩
              rw [HCL.out]
              go_wp2_with fail
              go_round
              case rel =>
                refine ⟨m + 1, by omega, by go_num, congrArg Value.bool ?_⟩
                simp
                omega
              case measure => simp [intOf]; omega
      · have hme : m = run ldR D := by omega
        have hst := run_stop_at ldR D (by rw [← hme]; exact hmD)
        simp only [← hme] at hst
        rw [HCD.out] at hst
        have hcl : clsV (c.toNat : Int) = 4 ∨ clsV (c.toNat : Int) = 0 := by
          simp only [ldR, Bool.or_eq_false_iff] at hst
          obtain ⟨e1, e2, e3⟩ := hst
          cases e4 : blkR (c.toNat : Int)
          · right; simp [clsV, e1, e2, e3, e4]
          · left; simp [clsV, e1, e2, e3, e4]
        have HME := Lib.hid hme
        clear hst hme
        rcases hcl with hcl | hcl
        all_goals
          have HCL := Lib.hid hcl
          clear hcl
          go_wp2_with fail
          refine (class_any _ _ (by omega) hcn).mono ?_
          rintro e w' ⟨rfl, rfl⟩
          rw [HCL.out]
          go_wp2_with fail
          go_ret2
          have hme := HME.out
          subst hme
          exact ⟨rfl, rfl⟩
    · go_wp2_with fail
      go_ret2
      have : m = run ldR D := by omega
      subst this
      exact ⟨rfl, rfl⟩
end Lx
end Go.Proofs.Ytgnafcnokenogaa
namespace Go.Proofs.Ytgnafcnokenogaa
open Go.RowKit
namespace Lx
set_option maxRecDepth 100000
def ones : List UInt8 := [92, 46, 40, 41, 61, 123, 125, 124, 43, 45, 42, 47, 60]
theorem one_at (k : Nat) (h : k < 13) (w : World) : (Instr.index 9 (.string ⟨#[92, 46, 40, 41, 61, 123, 125, 124, 43, 45, 42, 47, 60]⟩) (.int .i64 k)).run Try.prog w = .ok (.int .u8 ((ones.getD k 0).toNat : Int)) w := by
  have i0 : (Instr.index 9 (.string ⟨#[92, 46, 40, 41, 61, 123, 125, 124, 43, 45, 42, 47, 60]⟩) (.int .i64 0)).run Try.prog w = .ok (.int .u8 ((ones.getD 0 0).toNat : Int)) w := by kernel_rfl
  have i1 : (Instr.index 9 (.string ⟨#[92, 46, 40, 41, 61, 123, 125, 124, 43, 45, 42, 47, 60]⟩) (.int .i64 1)).run Try.prog w = .ok (.int .u8 ((ones.getD 1 0).toNat : Int)) w := by kernel_rfl
  have i2 : (Instr.index 9 (.string ⟨#[92, 46, 40, 41, 61, 123, 125, 124, 43, 45, 42, 47, 60]⟩) (.int .i64 2)).run Try.prog w = .ok (.int .u8 ((ones.getD 2 0).toNat : Int)) w := by kernel_rfl
  have i3 : (Instr.index 9 (.string ⟨#[92, 46, 40, 41, 61, 123, 125, 124, 43, 45, 42, 47, 60]⟩) (.int .i64 3)).run Try.prog w = .ok (.int .u8 ((ones.getD 3 0).toNat : Int)) w := by kernel_rfl
  have i4 : (Instr.index 9 (.string ⟨#[92, 46, 40, 41, 61, 123, 125, 124, 43, 45, 42, 47, 60]⟩) (.int .i64 4)).run Try.prog w = .ok (.int .u8 ((ones.getD 4 0).toNat : Int)) w := by kernel_rfl
  have i5 : (Instr.index 9 (.string ⟨#[92, 46, 40, 41, 61, 123, 125, 124, 43, 45, 42, 47, 60]⟩) (.int .i64 5)).run Try.prog w = .ok (.int .u8 ((ones.getD 5 0).toNat : Int)) w := by kernel_rfl
  have i6 : (Instr.index 9 (.string ⟨#[92, 46, 40, 41, 61, 123, 125, 124, 43, 45, 42, 47, 60]⟩) (.int .i64 6)).run Try.prog w = .ok (.int .u8 ((ones.getD 6 0).toNat : Int)) w := by kernel_rfl
  have i7 : (Instr.index 9 (.string ⟨#[92, 46, 40, 41, 61, 123, 125, 124, 43, 45, 42, 47, 60]⟩) (.int .i64 7)).run Try.prog w = .ok (.int .u8 ((ones.getD 7 0).toNat : Int)) w := by kernel_rfl
  have i8 : (Instr.index 9 (.string ⟨#[92, 46, 40, 41, 61, 123, 125, 124, 43, 45, 42, 47, 60]⟩) (.int .i64 8)).run Try.prog w = .ok (.int .u8 ((ones.getD 8 0).toNat : Int)) w := by kernel_rfl
  have i9 : (Instr.index 9 (.string ⟨#[92, 46, 40, 41, 61, 123, 125, 124, 43, 45, 42, 47, 60]⟩) (.int .i64 9)).run Try.prog w = .ok (.int .u8 ((ones.getD 9 0).toNat : Int)) w := by kernel_rfl
  have i10 : (Instr.index 9 (.string ⟨#[92, 46, 40, 41, 61, 123, 125, 124, 43, 45, 42, 47, 60]⟩) (.int .i64 10)).run Try.prog w = .ok (.int .u8 ((ones.getD 10 0).toNat : Int)) w := by kernel_rfl
  have i11 : (Instr.index 9 (.string ⟨#[92, 46, 40, 41, 61, 123, 125, 124, 43, 45, 42, 47, 60]⟩) (.int .i64 11)).run Try.prog w = .ok (.int .u8 ((ones.getD 11 0).toNat : Int)) w := by kernel_rfl
  have i12 : (Instr.index 9 (.string ⟨#[92, 46, 40, 41, 61, 123, 125, 124, 43, 45, 42, 47, 60]⟩) (.int .i64 12)).run Try.prog w = .ok (.int .u8 ((ones.getD 12 0).toNat : Int)) w := by kernel_rfl
  match k, h with
  | 0, _ => exact i0
  | 1, _ => exact i1
  | 2, _ => exact i2
  | 3, _ => exact i3
  | 4, _ => exact i4
  | 5, _ => exact i5
  | 6, _ => exact i6
  | 7, _ => exact i7
  | 8, _ => exact i8
  | 9, _ => exact i9
  | 10, _ => exact i10
  | 11, _ => exact i11
  | 12, _ => exact i12
/-- How long the sign at the beginning is; 0: there is none. -/
def sgnV (l : List UInt8) : Nat := match signOf l with | some g => g.length | none => 0
def twoV (c : UInt8) (r : List UInt8) : Bool := (c == 45 && r.head? == some 62) || (c == 61 && r.head? == some 61)
def inV (c : UInt8) : Int := if ones.contains c = true then 1 else 0
theorem sgn_cons (c : UInt8) (r : List UInt8) : sgnV (c :: r) = if twoV c r = true then 2 else if ones.contains c = true then 1 else 0 := by
  unfold sgnV signOf signsS
  simp only [Lib.hasPrefix]
  by_cases h1 : c = 45
  · subst h1
    cases r with
    | nil => rfl
    | cons d q =>
      by_cases h2 : d = 62
      · subst h2; rfl
      · have e : ((62 : UInt8) == d) = false := by simpa using fun h => h2 h.symm
        have e2 : (d == (62 : UInt8)) = false := by simpa using h2
        simp [List.find?, List.isPrefixOf, e, twoV, ones, h2]
  · by_cases h2 : c = 61
    · subst h2
      cases r with
      | nil => rfl
      | cons d q =>
        by_cases h3 : d = 61
        · subst h3; rfl
        · have e : ((61 : UInt8) == d) = false := by simpa using fun h => h3 h.symm
          simp [List.find?, List.isPrefixOf, e, twoV, ones, h3]
    · have e1 : ((45 : UInt8) == c) = false := by simpa using fun h => h1 h.symm
      have e2 : ((61 : UInt8) == c) = false := by simpa using fun h => h2 h.symm
      have et : twoV c r = false := by simp [twoV, h1, h2]
      rw [et]
      by_cases a1 : c = 92
      · subst a1; simp [List.find?, List.isPrefixOf, ones]
      by_cases a2 : c = 46
      · subst a2; simp [List.find?, List.isPrefixOf, ones]
      by_cases a3 : c = 40
      · subst a3; simp [List.find?, List.isPrefixOf, ones]
      by_cases a4 : c = 41
      · subst a4; simp [List.find?, List.isPrefixOf, ones]
      by_cases a5 : c = 123
      · subst a5; simp [List.find?, List.isPrefixOf, ones]
      by_cases a6 : c = 125
      · subst a6; simp [List.find?, List.isPrefixOf, ones]
      by_cases a7 : c = 124
      · subst a7; simp [List.find?, List.isPrefixOf, ones]
      by_cases a8 : c = 43
      · subst a8; simp [List.find?, List.isPrefixOf, ones]
      by_cases a9 : c = 42
      · subst a9; simp [List.find?, List.isPrefixOf, ones]
      by_cases a10 : c = 47
      · subst a10; simp [List.find?, List.isPrefixOf, ones]
      by_cases a11 : c = 60
      · subst a11; simp [List.find?, List.isPrefixOf, ones]
      have n : ∀ x : UInt8, c ≠ x → (x == c) = false := fun x h => by simpa using fun h' => h h'.symm
      simp [List.find?, List.isPrefixOf, ones, e1, e2, n _ a1, n _ a2, n _ a3, n _ a4, n _ a5, n _ a6, n _ a7, n _ a8, n _ a9, n _ a10, n _ a11, a1, a2, a3, a4, a5, a6, a7, a8, a9, a10, a11, h1, h2]

theorem u8_eq (c x : UInt8) : ((x.toNat : Int) == (c.toNat : Int)) = decide (x = c) := by
  rw [Bool.eq_iff_iff]
  simp only [beq_iff_eq, decide_eq_true_eq]
  constructor
  · intro h; apply UInt8.toNat_inj.1; omega
  · rintro rfl; rfl
theorem none_of (c : UInt8) (h : ∀ j, j < 13 → ones.getD j 0 ≠ c) : ones.contains c = false := by
  have h0 := h 0 (by omega)
  have h1 := h 1 (by omega)
  have h2 := h 2 (by omega)
  have h3 := h 3 (by omega)
  have h4 := h 4 (by omega)
  have h5 := h 5 (by omega)
  have h6 := h 6 (by omega)
  have h7 := h 7 (by omega)
  have h8 := h 8 (by omega)
  have h9 := h 9 (by omega)
  have h10 := h 10 (by omega)
  have h11 := h 11 (by omega)
  have h12 := h 12 (by omega)
  simp only [ones, List.getD_cons_zero, List.getD_cons_succ] at h0 h1 h2 h3 h4 h5 h6 h7 h8 h9 h10 h11 h12
  simp [ones, Ne.symm h0, Ne.symm h1, Ne.symm h2, Ne.symm h3, Ne.symm h4, Ne.symm h5, Ne.symm h6, Ne.symm h7, Ne.symm h8, Ne.symm h9, Ne.symm h10, Ne.symm h11, Ne.symm h12]
theorem some_of (c : UInt8) (j : Nat) (hj : j < 13) (h : ones.getD j 0 = c) : ones.contains c = true := by
  rw [← h, List.getD_eq_getElem?_getD, List.getElem?_eq_getElem (show j < ones.length from hj)]
  simp

set_option maxHeartbeats 2000000 in
theorem rsign_loop (s : ByteArray) (k : Nat) (c : UInt8) (w : World) (hk : k < s.size) (hs : s.size ≤ 140737488351232) (hc : s[k]'hk = c)
    (h2 : s.size ≤ k + 1 ∨ (k + 1 < s.size ∧ ∃ d, (s.extract k (k + 2)).toList = [c, d] ∧ ([c, d] == [45, 62]) = false ∧ ([c, d] == [61, 61]) = false)) :
    Calls Try.prog 73 #[.string s, .int .i64 k] w fun e w' => e = .returned (.int .i64 (inV c)) ∧ ∃ q, w' = w.drewN q := by
  have i0 : (0 : Int) ≤ (k : Int) := by omega
  have i1 : (k : Int) < (s.size : Int) := by omega
  rcases h2 with h2 | ⟨h2, d, hcut, n1, n2⟩
  all_goals
    first
      | (have h3 : ¬ (k : Int) + 1 < (s.size : Int) := by omega)
      | (have h3 : (k : Int) + 1 < (s.size : Int) := by omega
         have e1 : (k : Int) + 2 ≤ (s.size : Int) := by omega
         have e2 : (0 : Int) ≤ (k : Int) + 2 := by omega
         have e3 : (k : Int) ≤ (k : Int) + 2 := by omega)
    go_enter Try.func73, Try.ntmps73
    go_wp2_with fail
    go_loopw [5] (fun v wr => ∃ (j q : Nat), j ≤ 13 ∧ v = .int .i64 j ∧ wr = w.drewN q ∧ Hid (∀ x, x < j → ones.getD x 0 ≠ c)) (fun v _ => 13 - (intOf v).toNat)
    case atStart => exact ⟨0, 0, by omega, rfl, rfl, fun x hx => by omega⟩
    case round =>
      obtain ⟨j, q, hj, rfl, rfl, HQ⟩ := hrel
      by_cases hlt : j < 13
      · have hix := fun W => one_at j hlt W
        by_cases hq : ones.getD j 0 = c
        · have HC := Lib.hid (some_of c j hlt hq)
          have heq : (((ones.getD j 0).toNat : Int) == (c.toNat : Int)) = true := by rw [u8_eq]; simpa using hq
          generalize ones.getD j 0 = b at hix heq
          clear hq
          go_wp2_with fail
          go_quiet (fail)
          go_wp2_with fail
          go_ret
          refine ⟨ret_int ?_, q + nq, by first | rfl | rw [World.drewN_drewN]⟩
          unfold inV; rw [HC.out]; rfl
        · have HN := Lib.hid hq
          have heq : (((ones.getD j 0).toNat : Int) == (c.toNat : Int)) = false := by rw [u8_eq]; simpa using hq
          have HNJ : Hid (∀ x, x < j + 1 → ones.getD x 0 ≠ c) := fun x hx => by
            rcases Nat.lt_or_ge x j with h | h
            · exact HQ.out x h
            · obtain rfl : x = j := by omega
              exact HN.out
          clear hq HN
          generalize ones.getD j 0 = b at hix heq
          go_wp2_with fail
          go_quiet (fail)
          go_wp2_with fail
          go_roundw
          case rel => exact ⟨j + 1, q + nq, by omega, by go_num, by first | rfl | rw [World.drewN_drewN], HNJ⟩
          case measure => simp [intOf]; omega
      · go_wp2_with fail
        go_ret
        obtain rfl : j = 13 := by omega
        refine ⟨ret_int ?_, q, rfl⟩
        unfold inV; rw [none_of c HQ.out]; rfl

set_option maxHeartbeats 1000000 in
theorem rsign_two (s : ByteArray) (k : Nat) (c d : UInt8) (w : World) (hk : k + 1 < s.size) (hs : s.size ≤ 140737488351232)
    (hcut : (s.extract k (k + 2)).toList = [c, d]) (h : (c = 45 ∧ d = 62) ∨ (c = 61 ∧ d = 61)) :
    Calls Try.prog 73 #[.string s, .int .i64 k] w fun e w' => e = .returned (.int .i64 2) ∧ w = w' := by
  have i0 : (0 : Int) ≤ (k : Int) := by omega
  have i1 : (k : Int) < (s.size : Int) := by omega
  have h3 : (k : Int) + 1 < (s.size : Int) := by omega
  have e1 : (k : Int) + 2 ≤ (s.size : Int) := by omega
  have e2 : (0 : Int) ≤ (k : Int) + 2 := by omega
  have e3 : (k : Int) ≤ (k : Int) + 2 := by omega
  rcases h with ⟨rfl, rfl⟩ | ⟨rfl, rfl⟩
  all_goals
    go_enter Try.func73, Try.ntmps73
    go_wp2_with fail
    go_ret
    exact ⟨rfl, rfl⟩

theorem rsign_any (s : ByteArray) (k : Nat) (w : World) (hk : k < s.size) (hs : s.size ≤ 140737488351232) :
    Calls Try.prog 73 #[.string s, .int .i64 k] w fun e w' => e = .returned (.int .i64 (sgnV (s.data.toList.drop k))) ∧ ∃ q, w' = w.drewN q := by
  have hlen : k < s.data.toList.length := by simpa using hk
  have hb : s.data.toList[k]'hlen = s[k]'hk := by simp [ByteArray.getElem_eq_getElem_data]
  have hD := List.drop_eq_getElem_cons hlen
  rw [hb] at hD
  by_cases h1 : k + 1 < s.size
  · have hlen1 : k + 1 < s.data.toList.length := by simpa using h1
    have hb1 : s.data.toList[k + 1]'hlen1 = s[k + 1]'h1 := by simp [ByteArray.getElem_eq_getElem_data]
    have hD1 := List.drop_eq_getElem_cons hlen1
    rw [hb1] at hD1
    rw [hD1] at hD
    have hcut : (s.extract k (k + 2)).toList = [s[k]'hk, s[k + 1]'h1] := by
      rw [data_list, Lib.extract_data, show k + 2 - k = 2 from by omega, hD]; rfl
    by_cases ht : (s[k]'hk = 45 ∧ s[k + 1]'h1 = 62) ∨ (s[k]'hk = 61 ∧ s[k + 1]'h1 = 61)
    · refine (rsign_two s k _ _ w h1 hs hcut ht).mono ?_
      rintro e w' ⟨rfl, rfl⟩
      refine ⟨ret_int ?_, 0, rfl⟩
      rw [hD, sgn_cons, if_pos (by rcases ht with ⟨a, b⟩ | ⟨a, b⟩ <;> simp [twoV, a, b])]
      rfl
    · have n1 : ([s[k]'hk, s[k + 1]'h1] == [45, 62]) = false := by
        simp only [beq_eq_false_iff_ne, ne_eq, List.cons.injEq, and_true]
        exact fun h => ht (.inl h)
      have n2 : ([s[k]'hk, s[k + 1]'h1] == [61, 61]) = false := by
        simp only [beq_eq_false_iff_ne, ne_eq, List.cons.injEq, and_true]
        exact fun h => ht (.inr h)
      refine (rsign_loop s k _ w hk hs rfl (.inr ⟨h1, _, hcut, n1, n2⟩)).mono ?_
      rintro e w' ⟨rfl, hq⟩
      refine ⟨ret_int ?_, hq⟩
      rw [hD, sgn_cons, if_neg (by
        intro h
        apply ht
        simp only [twoV, Bool.or_eq_true, Bool.and_eq_true, beq_iff_eq, List.head?_cons, Option.some.injEq] at h
        exact h)]
      unfold inV; split <;> rfl
  · refine (rsign_loop s k _ w hk hs rfl (.inl (by omega))).mono ?_
    rintro e w' ⟨rfl, hq⟩
    refine ⟨ret_int ?_, hq⟩
    rw [hD, List.drop_eq_nil_of_le (by rw [← Lib.size_eq]; omega), sgn_cons, if_neg (by simp [twoV])]
    unfold inV; split <;> rfl
end Lx
end Go.Proofs.Ytgnafcnokenogaa
namespace Go.Proofs.Ytgnafcnokenogaa
open Go.RowKit
namespace Lx
set_option maxRecDepth 100000
theorem res_tok2 {fn : Func} {p q : Tmp} (h : fn.results = #[.cell p 82, .tmp q]) {tmps : Array Value} {g : Nat} {a b c d : Value} {w : World} (hp : tmps.getD p undef = .pointer (some ⟨g, 0, none⟩)) (L : Lies w g 82 #[a, b, c, d]) :
    (results fn tmps).run Try.prog w = .ok (.tuple #[.agg #[a, b, c, d], tmps.getD q undef]) w := by
  have hl := run_loadVar_row (P := Try.prog) w g 82 82 #[a, b, c, d] (0, 0) _ L Try.underlying82 rfl (by kernel_rfl)
  have hp' : tmps[p]?.getD undef = .pointer (some ⟨g, 0, none⟩) := by simpa using hp
  simp only [results, h]
  simp [hp', asAddr, hl]
theorem cut_mid (s : ByteArray) (k n : Nat) : s.extract k (k + n) = ⟨((s.data.toList.drop k).take n).toArray⟩ := by
  rw [← toBytes (s.extract k (k + n)), Lib.extract_data, show k + n - k = n from by omega]
def noTokR (x : Int) : Value := .tuple #[.agg #[.int .i64 0, .string ⟨#[]⟩, .int .i64 0, .int .i64 0], .int .i64 x]
def tokR (kd n : Int) (t : List UInt8) (k : Nat) : Value := .tuple #[.agg #[.int .i64 kd, .string ⟨t.toArray⟩, .int .i64 n, .int .i64 k], .int .i64 0]

set_option maxHeartbeats 2000000 in
theorem one_sign (s : ByteArray) (k : Nat) (w : World) (hk : k < s.size) (hs : s.size ≤ 140737488351232) (h0 : run ldR (s.data.toList.drop k) = 0) (g : Nat) (hg : sgnV (s.data.toList.drop k) = g) (hg0 : 0 < g) (hle : k + g ≤ s.size) :
    Calls Try.prog 62 #[.string s, .int .i64 k] w fun e w' => e = .returned (tokR 5 0 ((s.data.toList.drop k).take g) k) ∧ Below w.heap.size w w' := by
  have HR := Lib.hid (rrun_any s k (w.alloc (.cells #[.int .i64 0, .string ⟨#[]⟩, .int .i64 0, .int .i64 0] 82)) (by omega) hs)
  rw [h0] at HR
  have HS := Lib.hid (rsign_any s k (w.alloc (.cells #[.int .i64 0, .string ⟨#[]⟩, .int .i64 0, .int .i64 0] 82)) hk hs)
  rw [hg] at HS
  have HC := Lib.hid (cut_mid s k g)
  have hg1 : ((g : Int) == 0) = false := by simp; omega
  have e1 : (k : Int) + (g : Int) ≤ (s.size : Int) := by omega
  have e2 : (0 : Int) ≤ (k : Int) + (g : Int) := by omega
  have e3 : (k : Int) ≤ (k : Int) + (g : Int) := by omega
  have e4 : (0 : Int) ≤ (k : Int) := by omega
  clear h0 hg
  unfold tokR
  go_enter Try.func62, Try.ntmps62
  go_wp2_with fail
  refine HR.out.mono ?_
  rintro e w' ⟨rfl, rfl⟩
  go_wp2_with fail
  refine HS.out.mono ?_
  rintro e w' ⟨rfl, q, rfl⟩
  have hL := (Lies.new w 82 #[.int .i64 0, .string ⟨#[]⟩, .int .i64 0, .int .i64 0]).drewN q
  obtain ⟨⟨c0, c1, c2, c3⟩, f0, f1, f2, f3⟩ := hL.four
  go_wp2_with fail
  refine bodyPost_ret (res_tok2 (p := 4) (q := 5) Try.results62 rfl (hL.all _ _ _ _)) rfl ⟨?_, Below.all (below_drewN ((Below.refl _ w).alloc (Nat.le_refl _) _) q) (Nat.le_refl _) _ _ _ _⟩
  rw [HC.out]; rfl
set_option maxHeartbeats 2000000 in
theorem one_none (s : ByteArray) (k : Nat) (w : World) (hk : k < s.size) (hs : s.size ≤ 140737488351232) (h0 : run ldR (s.data.toList.drop k) = 0) (hg : sgnV (s.data.toList.drop k) = 0) :
    Calls Try.prog 62 #[.string s, .int .i64 k] w fun e w' => e = .returned (noTokR 10) ∧ Below w.heap.size w w' := by
  have HR := Lib.hid (rrun_any s k (w.alloc (.cells #[.int .i64 0, .string ⟨#[]⟩, .int .i64 0, .int .i64 0] 82)) (by omega) hs)
  rw [h0] at HR
  have HS := Lib.hid (rsign_any s k (w.alloc (.cells #[.int .i64 0, .string ⟨#[]⟩, .int .i64 0, .int .i64 0] 82)) hk hs)
  rw [hg] at HS
  clear h0 hg
  unfold noTokR
  go_enter Try.func62, Try.ntmps62
  go_wp2_with fail
  refine HR.out.mono ?_
  rintro e w' ⟨rfl, rfl⟩
  go_wp2_with fail
  refine HS.out.mono ?_
  rintro e w' ⟨rfl, q, rfl⟩
  have hL := (Lies.new w 82 #[.int .i64 0, .string ⟨#[]⟩, .int .i64 0, .int .i64 0]).drewN q
  obtain ⟨⟨c0, c1, c2, c3⟩, f0, f1, f2, f3⟩ := hL.four
  go_wp2_with fail
  exact bodyPost_ret (res_tok2 (p := 4) (q := 5) Try.results62 rfl (hL.all _ _ _ _)) rfl ⟨rfl, Below.all (below_drewN ((Below.refl _ w).alloc (Nat.le_refl _) _) q) (Nat.le_refl _) _ _ _ _⟩
/-- What the walks of letters and digits share. -/
structure RunAt (s : ByteArray) (k n : Nat) (c : UInt8) (b : Bool) : Prop where
  hk : k < s.size
  hs : s.size ≤ 140737488351232
  hc : s[k]'hk = c
  hn : run ldR (s.data.toList.drop k) = n
  hb : decide (run digR (s.data.toList.drop k) < n) = b
theorem RunAt.le {s : ByteArray} {k n : Nat} {c : UInt8} {b : Bool} (h : RunAt s k n c b) : k + n ≤ s.size := by
  have := run_le ldR (s.data.toList.drop k)
  have h1 := h.hn
  have h2 := h.hk
  rw [List.length_drop, ← Lib.size_eq] at this
  omega
theorem RunAt.run {s : ByteArray} {k n : Nat} {c : UInt8} {b : Bool} (h : RunAt s k n c b) (w : World) :
    Calls Try.prog 72 #[.string s, .int .i64 k] w fun e w' => e = .returned (.tuple #[.int .i64 n, .bool b]) ∧ w = w' := by
  refine (rrun_any s k w (by have := h.hk; omega) h.hs).mono ?_
  rintro e w' ⟨rfl, rfl⟩
  exact ⟨by rw [h.hn, h.hb], rfl⟩
theorem u8_bd (c : UInt8) : (0 : Int) ≤ (c.toNat : Int) ∧ (c.toNat : Int) ≤ 255 := by have := c.toNat_lt; omega

set_option maxHeartbeats 2000000 in
theorem one_err (s : ByteArray) (k n : Nat) (c : UInt8) (b : Bool) (w : World) (h : RunAt s k n c b) (hn0 : 0 < n) (x : Int)
    (hx : (digR (c.toNat : Int) = true ∧ b = true ∧ x = 10) ∨ (digR (c.toNat : Int) = true ∧ b = false ∧ 18 < n ∧ x = 11) ∨ (digR (c.toNat : Int) = true ∧ b = false ∧ ¬ 18 < n ∧ 1 < n ∧ c = 48 ∧ x = 11) ∨
      (digR (c.toNat : Int) = false ∧ 16 < n ∧ (clsV (c.toNat : Int) == 3) = false ∧ x = 11)) :
    Calls Try.prog 62 #[.string s, .int .i64 k] w fun e w' => e = .returned (noTokR x) ∧ Below w.heap.size w w' := by
  have HR := Lib.hid h.run
  have hle := h.le
  have HC := fun w => class_any (c.toNat : Int) w (u8_bd c).1 (u8_bd c).2
  have hk := h.hk
  have hb0 : s[k]'hk = c := h.hc
  have hs := h.hs
  have hn1 : ((n : Int) == 0) = false := by simp; omega
  have e1 : (k : Int) + (n : Int) ≤ (s.size : Int) := by omega
  have e2 : (0 : Int) ≤ (k : Int) + (n : Int) := by omega
  have e3 : (k : Int) ≤ (k : Int) + (n : Int) := by omega
  have e4 : (0 : Int) ≤ (k : Int) := by omega
  have e5 : (k : Int) < (s.size : Int) := by omega
  have h3 : ∀ hd : digR (c.toNat : Int) = true, clsV (c.toNat : Int) = 3 := fun hd => by
    have a1 : lowR (c.toNat : Int) = false := by simp [digR] at hd; simp [lowR]; omega
    have a2 : upR (c.toNat : Int) = false := by simp [digR] at hd; simp [upR]; omega
    simp [clsV, a1, a2, hd]
  clear h
  unfold noTokR
  rcases hx with ⟨hd, rfl, rfl⟩ | ⟨hd, rfl, g18, rfl⟩ | ⟨hd, rfl, g18, g1, rfl, rfl⟩ | ⟨hd, g16, hc3, rfl⟩
  case inr.inr.inr =>
    have HCC := Lib.hid HC
    have g16' : (16 : Int) < (n : Int) := by omega
    generalize clsV (c.toNat : Int) = v at HCC hc3
    clear HC h3 hd
    go_enter Try.func62, Try.ntmps62
    go_wp2_with fail
    refine (HR.out _).mono ?_
    rintro e w' ⟨rfl, rfl⟩
    go_wp2_with fail
    refine (HCC.out _).mono ?_
    rintro e w' ⟨rfl, rfl⟩
    have hL := (Lies.new w 82 #[.int .i64 0, .string ⟨#[]⟩, .int .i64 0, .int .i64 0]).old (.cells #[.int .i64 0, .string (s.extract k (k + n)), .int .i64 0, .int .i64 k] 82)
    go_wp2_with fail
    exact bodyPost_ret (res_tok2 (p := 4) (q := 5) Try.results62 rfl hL) rfl ⟨rfl, ((Below.refl _ w).alloc (Nat.le_refl _) _).alloc (by simp) _⟩
  all_goals
    rw [h3 hd] at HC
    have HCC := Lib.hid HC
    clear HC h3 hd
    go_enter Try.func62, Try.ntmps62
    go_wp2_with fail
    refine (HR.out _).mono ?_
    rintro e w' ⟨rfl, rfl⟩
    go_wp2_with fail
    refine (HCC.out _).mono ?_
    rintro e w' ⟨rfl, rfl⟩
    have hL := (Lies.new w 82 #[.int .i64 0, .string ⟨#[]⟩, .int .i64 0, .int .i64 0]).old (.cells #[.int .i64 0, .string (s.extract k (k + n)), .int .i64 0, .int .i64 k] 82)
    go_wp2_with fail
    exact bodyPost_ret (res_tok2 (p := 4) (q := 5) Try.results62 rfl hL) rfl ⟨rfl, ((Below.refl _ w).alloc (Nat.le_refl _) _).alloc (by simp) _⟩
set_option maxHeartbeats 2000000 in
theorem one_num (s : ByteArray) (k n : Nat) (c : UInt8) (w : World) (h : RunAt s k n c false) (hn0 : 0 < n) (hd : digR (c.toNat : Int) = true) (h18 : ¬ 18 < n) (h0 : n ≤ 1 ∨ (1 < n ∧ ((c.toNat : Int) == 48) = false)) (hall : run digR ((s.data.toList.drop k).take n) = n) :
    Calls Try.prog 62 #[.string s, .int .i64 k] w fun e w' => e = .returned (tokR 3 (numV ((s.data.toList.drop k).take n)) ((s.data.toList.drop k).take n) k) ∧ Below w.heap.size w w' := by
  have HR := Lib.hid h.run
  have hle := h.le
  have HC := fun w => class_any (c.toNat : Int) w (u8_bd c).1 (u8_bd c).2
  have hk := h.hk
  have hb0 : s[k]'hk = c := h.hc
  have hs := h.hs
  have hn1 : ((n : Int) == 0) = false := by simp; omega
  have e1 : (k : Int) + (n : Int) ≤ (s.size : Int) := by omega
  have e2 : (0 : Int) ≤ (k : Int) + (n : Int) := by omega
  have e3 : (k : Int) ≤ (k : Int) + (n : Int) := by omega
  have e4 : (0 : Int) ≤ (k : Int) := by omega
  have e5 : (k : Int) < (s.size : Int) := by omega
  have e6 : ¬ (18 : Int) < (n : Int) := by omega
  have h3 : clsV (c.toNat : Int) = 3 := by
    have a1 : lowR (c.toNat : Int) = false := by simp [digR] at hd; simp [lowR]; omega
    have a2 : upR (c.toNat : Int) = false := by simp [digR] at hd; simp [upR]; omega
    simp [clsV, a1, a2, hd]
  rw [h3] at HC
  have HCC := Lib.hid HC
  obtain ⟨tx, htx⟩ : ∃ tx, tx = s.extract k (k + n) := ⟨_, rfl⟩
  have hdat : tx.data.toList = (s.data.toList.drop k).take n := by rw [htx, Lib.extract_data, show k + n - k = n from by omega]
  have htl : ((s.data.toList.drop k).take n).length = n := by rw [List.length_take, List.length_drop, ← Lib.size_eq]; omega
  have HNm := Lib.hid (fun w => rnumber_any tx w (by rw [hdat, hall, htl]) (by rw [Lib.size_eq, hdat, htl]; omega))
  have HTX : Hid ((⟨((s.data.toList.drop k).take n).toArray⟩ : ByteArray) = tx) := by
    show _ = _
    rw [htx, cut_mid]
  have HDT := Lib.hid hdat
  have HX := Lib.hid htx
  clear h HC h3 hd hdat htx hall htl
  unfold tokR
  rcases h0 with h0 | ⟨h0, h1⟩
  all_goals
    go_enter Try.func62, Try.ntmps62
    go_wp2_with fail
    refine (HR.out _).mono ?_
    rintro e w' ⟨rfl, rfl⟩
    go_wp2_with fail
    rw [← HX.out]
    refine (HCC.out _).mono ?_
    rintro e w' ⟨rfl, rfl⟩
    go_wp2_with fail
    refine (HNm.out _).mono ?_
    rintro e w' ⟨rfl, rfl⟩
    rw [HDT.out]
    have hL := (Lies.new w 82 #[.int .i64 3, .string tx, .int .i64 (numV ((s.data.toList.drop k).take n)), .int .i64 k]).old (.cells #[.int .i64 3, .string tx, .int .i64 (numV ((s.data.toList.drop k).take n)), .int .i64 k] 82)
    go_wp2_with fail
    exact bodyPost_ret (res_tok2 (p := 4) (q := 5) Try.results62 rfl hL) rfl ⟨by rw [HTX.out]; rfl, ((Below.refl _ w).alloc (Nat.le_refl _) _).alloc (by simp) _⟩
set_option maxHeartbeats 2000000 in
theorem one_word (s : ByteArray) (k n : Nat) (c : UInt8) (b : Bool) (w : World) (h : RunAt s k n c b) (hn0 : 0 < n) (v : Int) (hv : clsV (c.toNat : Int) = v) (h3 : (v == 3) = false) (h16 : ¬ 16 < n) (wd : Bool) (hw : wordS ((s.data.toList.drop k).take n) = wd) :
    Calls Try.prog 62 #[.string s, .int .i64 k] w fun e w' => e = .returned (tokR (cond wd 4 v) 0 ((s.data.toList.drop k).take n) k) ∧ Below w.heap.size w w' := by
  have HR := Lib.hid h.run
  have hle := h.le
  have HC := fun w => class_any (c.toNat : Int) w (u8_bd c).1 (u8_bd c).2
  have hk := h.hk
  have hb0 : s[k]'hk = c := h.hc
  have hs := h.hs
  have hn1 : ((n : Int) == 0) = false := by simp; omega
  have e1 : (k : Int) + (n : Int) ≤ (s.size : Int) := by omega
  have e2 : (0 : Int) ≤ (k : Int) + (n : Int) := by omega
  have e3 : (k : Int) ≤ (k : Int) + (n : Int) := by omega
  have e4 : (0 : Int) ≤ (k : Int) := by omega
  have e5 : (k : Int) < (s.size : Int) := by omega
  have e6 : ¬ (16 : Int) < (n : Int) := by omega
  rw [hv] at HC
  have HCC := Lib.hid HC
  obtain ⟨tx, htx⟩ : ∃ tx, tx = s.extract k (k + n) := ⟨_, rfl⟩
  have hdat : tx.data.toList = (s.data.toList.drop k).take n := by rw [htx, Lib.extract_data, show k + n - k = n from by omega]
  have HW := fun w => rword_any tx w
  rw [hdat, hw] at HW
  have HWW := Lib.hid HW
  have HTX : Hid ((⟨((s.data.toList.drop k).take n).toArray⟩ : ByteArray) = tx) := by
    show _ = _
    rw [htx, cut_mid]
  have HX := Lib.hid htx
  clear h HC hv hdat htx HW hw
  unfold tokR
  cases wd
  all_goals
    go_enter Try.func62, Try.ntmps62
    go_wp2_with fail
    refine (HR.out _).mono ?_
    rintro e w' ⟨rfl, rfl⟩
    go_wp2_with fail
    rw [← HX.out]
    refine (HCC.out _).mono ?_
    rintro e w' ⟨rfl, rfl⟩
    go_wp2_with fail
    refine (HWW.out _).mono ?_
    rintro e w' ⟨rfl, rfl⟩
  · have hL := (Lies.new w 82 #[.int .i64 v, .string tx, .int .i64 0, .int .i64 k]).old (.cells #[.int .i64 v, .string tx, .int .i64 0, .int .i64 k] 82)
    go_wp2_with fail
    exact bodyPost_ret (res_tok2 (p := 4) (q := 5) Try.results62 rfl hL) rfl ⟨by rw [HTX.out]; rfl, ((Below.refl _ w).alloc (Nat.le_refl _) _).alloc (by simp) _⟩
  · have hL := (Lies.new w 82 #[.int .i64 4, .string tx, .int .i64 0, .int .i64 k]).old (.cells #[.int .i64 4, .string tx, .int .i64 0, .int .i64 k] 82)
    go_wp2_with fail
    exact bodyPost_ret (res_tok2 (p := 4) (q := 5) Try.results62 rfl hL) rfl ⟨by rw [HTX.out]; rfl, ((Below.refl _ w).alloc (Nat.le_refl _) _).alloc (by simp) _⟩
end Lx
end Go.Proofs.Ytgnafcnokenogaa
namespace Go.Proofs.Ytgnafcnokenogaa
namespace Lx
set_option maxRecDepth 100000
theorem run_app (P : Int → Bool) (r : List UInt8) (hr : run P r = 0) : ∀ t : List UInt8, (∀ c ∈ t, P (c.toNat : Int) = true) → run P (t ++ r) = t.length
  | [], _ => by simpa using hr
  | c :: t, h => by
    have h1 := run_app P r hr t (fun d hd => h d (by simp [hd]))
    have h2 := h c (by simp)
    simp [run, h1, h2]
theorem run_take_all (P : Int → Bool) : ∀ l : List UInt8, ∀ c ∈ l.take (run P l), P (c.toNat : Int) = true
  | [], c, h => by simp at h
  | a :: l, c, h => by
    by_cases ha : P (a.toNat : Int) = true
    · simp only [run, ha, if_true, List.take_succ_cons, List.mem_cons] at h
      rcases h with rfl | h
      · exact ha
      · exact run_take_all P l c h
    · simp [run, ha] at h

/-- What may stand behind a token: nothing, or a blank. -/
def Gap (r : List UInt8) : Prop := r = [] ∨ ∃ q, r = 32 :: q
theorem gap_ld {r : List UInt8} (h : Gap r) : run ldR r = 0 := by
  rcases h with rfl | ⟨q, rfl⟩ <;> rfl

theorem sign_gap {r : List UInt8} (h : Gap r) : ∀ g ∈ signsS, run ldR (g ++ r) = 0 ∧ signOf (g ++ r) = some g := by
  rcases h with rfl | ⟨q, rfl⟩
  · intro g hg
    simp only [signsS, List.mem_cons, List.not_mem_nil, or_false] at hg
    rcases hg with rfl | rfl | rfl | rfl | rfl | rfl | rfl | rfl | rfl | rfl | rfl | rfl | rfl | rfl | rfl <;> exact ⟨rfl, rfl⟩
  · intro g hg
    simp only [signsS, List.mem_cons, List.not_mem_nil, or_false] at hg
    rcases hg with rfl | rfl | rfl | rfl | rfl | rfl | rfl | rfl | rfl | rfl | rfl | rfl | rfl | rfl | rfl <;> exact ⟨rfl, rfl⟩

theorem tok_gap {l t r : List UInt8} {kd n : Int} (h : tokK l = .ok (kd, n, t)) (hr : Gap r) : tokK (t ++ r) = .ok (kd, n, t) := by
  unfold tokK at h
  split at h
  · rename_i h0
    split at h
    · rename_i k' n' h1
      simp only [Except.ok.injEq, Prod.mk.injEq] at h
      obtain ⟨rfl, rfl, rfl⟩ := h
      have hall := run_take_all ldR l
      have hrun := run_app ldR r (gap_ld hr) (l.take (run ldR l)) hall
      have hle := run_le ldR l
      have hpos : 0 < (l.take (run ldR l)).length := by rw [List.length_take]; omega
      generalize l.take (run ldR l) = t at *
      unfold tokK
      rw [hrun, if_pos hpos, List.take_left, h1]
    · cases h
  · split at h
    · rename_i g h1
      simp only [Except.ok.injEq, Prod.mk.injEq] at h
      obtain ⟨rfl, rfl, rfl⟩ := h
      obtain ⟨h2, h3⟩ := sign_gap hr g (List.mem_of_find?_eq_some h1)
      unfold tokK
      rw [h2, if_neg (by omega), h3]
    · cases h

/-- A token that was read somewhere. -/
def Good (t : Tok) : Prop := ∃ l, tokK l = .ok (t.kind, t.n, t.text)
theorem scan_all_good : ∀ (f : Nat) (l : List UInt8) (k : Nat) (ts : List Tok), scan f l k = .ok ts → ∀ t ∈ ts, Good t := by
  intro f
  induction f with
  | zero => intro l k ts h; simp [scan] at h; subst h; simp
  | succ f ih =>
    intro l k ts h
    unfold scan at h
    split at h
    · cases h; simp
    · split at h
      · cases h
      · rename_i kd n t ht
        split at h
        · cases h
        · rename_i r hr
          cases h
          intro u hu
          rcases List.mem_cons.1 hu with rfl | hu
          · exact ⟨l, ht⟩
          · exact ih _ _ _ hr u hu

/-- The tokens' texts, with one blank between any two. -/
def textS : List Tok → List UInt8
  | [] => []
  | [t] => t.text
  | t :: u :: r => t.text ++ 32 :: textS (u :: r)
theorem good_pos {t : Tok} (h : Good t) : 0 < t.text.length := by
  obtain ⟨l, h⟩ := h
  exact (tok_text h).1
theorem blk_head {c : UInt8} {l t : List UInt8} {kd n : Int} (h : tokK (c :: l) = .ok (kd, n, t)) : blkR (c.toNat : Int) = false := by
  cases hb : blkR (c.toNat : Int) with
  | false => rfl
  | true =>
    exfalso
    have hc : c = 32 ∨ c = 10 ∨ c = 9 := by
      simp only [blkR, Bool.or_eq_true, beq_iff_eq] at hb
      rcases hb with (hb | hb) | hb
      · exact .inl (UInt8.toNat_inj.1 (by simpa using Int.ofNat_inj.1 hb))
      · exact .inr (.inl (UInt8.toNat_inj.1 (by simpa using Int.ofNat_inj.1 hb)))
      · exact .inr (.inr (UInt8.toNat_inj.1 (by simpa using Int.ofNat_inj.1 hb)))
    rcases hc with rfl | rfl | rfl <;> cases h
theorem text_blk {ts : List Tok} (h : ∀ t ∈ ts, Good t) : run blkR (textS ts) = 0 := by
  have key : ∀ (t : Tok), Good t → ∀ r, run blkR (t.text ++ r) = 0 := by
    intro t ht r
    have hp := good_pos ht
    obtain ⟨l, hl⟩ := ht
    have h2 := tok_gap (r := []) hl (.inl rfl)
    rw [List.append_nil] at h2
    cases htx : t.text with
    | nil => rw [htx] at hp; simp at hp
    | cons c q =>
      rw [htx] at h2
      have := blk_head h2
      simp [run, this]
  match ts, h with
  | [], _ => rfl
  | [t], h =>
    have := key t (h t (by simp)) []
    simpa [textS] using this
  | t :: u :: r, h => exact key t (h t (by simp)) _

theorem scan_text : ∀ (ts : List Tok), (∀ t ∈ ts, Good t) → ∀ f k, ts.length ≤ f → ∃ us, scan f (textS ts) k = .ok us ∧ us.map (fun t => (t.kind, t.text, t.n)) = ts.map (fun t => (t.kind, t.text, t.n))
  | [], _, f, k, _ => ⟨[], scan_end f k, rfl⟩
  | [t], h, f, k, hf => by
    obtain ⟨f, rfl⟩ : ∃ g, f = g + 1 := ⟨f - 1, by simp at hf; omega⟩
    have hp := good_pos (h t (by simp))
    obtain ⟨l, hl⟩ := h t (by simp)
    have h2 := tok_gap (r := []) hl (.inl rfl)
    rw [List.append_nil] at h2
    have hne : t.text ≠ [] := by intro e; rw [e] at hp; simp at hp
    refine ⟨[⟨t.kind, t.text, t.n, k⟩], ?_, rfl⟩
    simp [textS, scan, hne, h2, run, scan_end]
  | t :: u :: r, h, f, k, hf => by
    obtain ⟨f, rfl⟩ : ∃ g, f = g + 1 := ⟨f - 1, by simp at hf; omega⟩
    have hp := good_pos (h t (by simp))
    obtain ⟨l, hl⟩ := h t (by simp)
    have h2 := tok_gap (r := 32 :: textS (u :: r)) hl (.inr ⟨_, rfl⟩)
    have hb : run blkR (textS (u :: r)) = 0 := text_blk (fun x hx => h x (by simp [List.mem_cons.1 hx]))
    have hb1 : run blkR (32 :: textS (u :: r)) = 1 := by
      rw [run, hb]; rfl
    obtain ⟨us, hs, hm⟩ := scan_text (u :: r) (fun x hx => h x (by simp [List.mem_cons.1 hx])) f (k + t.text.length + 1) (by simp at hf ⊢; omega)
    refine ⟨⟨t.kind, t.text, t.n, k⟩ :: us, ?_, by simp [hm]⟩
    have hne : t.text ++ 32 :: textS (u :: r) ≠ [] := by simp
    rw [textS, scan, if_neg hne, h2]
    simp only [List.drop_left, hb1, List.drop_succ_cons, List.drop_zero, hs]

theorem textS_len : ∀ (ts : List Tok), (∀ t ∈ ts, Good t) → ts.length ≤ (textS ts).length
  | [], _ => by simp
  | [t], h => by have := good_pos (h t (by simp)); simp [textS]; omega
  | t :: u :: r, h => by
    have h1 := good_pos (h t (by simp))
    have h2 := textS_len (u :: r) (fun x hx => h x (by simp [List.mem_cons.1 hx]))
    simp [textS] at h2 ⊢
    omega
theorem textS_bound : ∀ (f : Nat) (l : List UInt8) (k : Nat) (ts : List Tok), scan f l k = .ok ts → (textS ts).length + 1 ≤ 2 * l.length + 1 := by
  intro f
  induction f with
  | zero => intro l k ts h; simp [scan] at h; subst h; simp [textS]
  | succ f ih =>
    intro l k ts h
    unfold scan at h
    split at h
    · cases h; simp [textS]
    · split at h
      · cases h
      · rename_i kd n t ht
        split at h
        · cases h
        · rename_i r hr
          cases h
          obtain ⟨h1, h2, _⟩ := tok_text ht
          have h3 := ih _ _ _ hr
          have h4 := run_le blkR (l.drop t.length)
          simp only [List.length_drop] at h3 h4
          cases r with
          | nil => simp [textS] at h3 ⊢; omega
          | cons u r => simp [textS] at h3 ⊢; omega

/-- The stage's theorem, plainly. -/
theorem allK_again {l : List UInt8} {ts : List Tok} (h : allK l = .ok ts) : ∃ us, allK (textS ts) = .ok us ∧ us.map (fun t => (t.kind, t.text, t.n)) = ts.map (fun t => (t.kind, t.text, t.n)) := by
  have hg := scan_all_good _ _ _ _ h
  obtain ⟨us, hs, hm⟩ := scan_text ts hg ((textS ts).length + 1) 0 (by have := textS_len ts hg; omega)
  refine ⟨us, ?_, hm⟩
  unfold allK
  rw [text_blk hg]
  exact hs
theorem textS_eq : ∀ (us ts : List Tok), us.map (fun t => (t.kind, t.text, t.n)) = ts.map (fun t => (t.kind, t.text, t.n)) → textS us = textS ts
  | [], [], _ => rfl
  | [], _ :: _, h => by simp at h
  | _ :: _, [], h => by simp at h
  | [a], [b], h => by simp at h; simp [textS, h.2.1]
  | [a], b :: c :: r, h => by simp at h
  | a :: b :: r, [c], h => by simp at h
  | a :: b :: r, c :: d :: q, h => by
    simp only [List.map_cons, List.cons.injEq, Prod.mk.injEq] at h
    have := textS_eq (b :: r) (d :: q) (by simp only [List.map_cons, List.cons.injEq, Prod.mk.injEq]; exact h.2)
    simp [textS, this, h.1.2.1]
theorem numK_err {l : List UInt8} {x : Int} (h : numK l = .error x) : x = 10 ∨ x = 11 := by
  unfold numK at h
  split at h
  · cases h; exact .inl rfl
  · split at h
    · cases h; exact .inr rfl
    · cases h
theorem runK_err {l : List UInt8} {x : Int} (h : runK l = .error x) : x = 10 ∨ x = 11 := by
  unfold runK at h
  split at h
  · exact numK_err h
  · split at h
    · cases h; exact .inr rfl
    · split at h
      · cases h
      · split at h <;> cases h
theorem tokK_err {l : List UInt8} {x : Int} (h : tokK l = .error x) : x = 10 ∨ x = 11 := by
  unfold tokK at h
  split at h
  · split at h
    · cases h
    · rename_i h1
      cases h
      exact runK_err h1
  · split at h
    · cases h
    · cases h; exact .inl rfl
theorem scan_err : ∀ (f : Nat) (l : List UInt8) (k : Nat) (p x : Int), scan f l k = .error (p, x) → x = 10 ∨ x = 11 := by
  intro f
  induction f with
  | zero => intro l k p x h; simp [scan] at h
  | succ f ih =>
    intro l k p x h
    unfold scan at h
    split at h
    · cases h
    · split at h
      · rename_i h1
        cases h
        exact tokK_err h1
      · split at h
        · rename_i h1
          cases h
          exact ih _ _ _ _ h1
        · cases h
theorem err_code {l : List UInt8} {p x : Int} (h : allK l = .error (p, x)) : x = 10 ∨ x = 11 := scan_err _ _ _ _ _ h
end Lx
end Go.Proofs.Ytgnafcnokenogaa
namespace Go.Proofs.Ytgnafcnokenogaa
namespace Lx
set_option maxRecDepth 100000
/-- The program's reckoning, and the reference's. -/
def isTokV (l : List UInt8) (k : Int) : Bool := match allK l with | .ok [t] => decide (t.kind = k) && (t.text == l) | _ => false
def refTokV (l : List UInt8) (k : Int) : Bool := match tokK l with | .ok (kd, _, t) => decide (kd = k) && (t == l) | .error _ => false
def kindV (k : Int) (l : List UInt8) : Bool := if k = 1 then nameV l else conV l

theorem tok_cons {c : UInt8} {r : List UInt8} {kd n : Int} (h : tokK (c :: r) = .ok (kd, n, c :: r)) : allK (c :: r) = .ok [⟨kd, c :: r, n, 0⟩] := by
  have hb := blk_head h
  have h0 : run blkR (c :: r) = 0 := by simp [run, hb]
  unfold allK
  rw [h0, List.drop_zero]
  simp only [List.length_cons]
  rw [scan]
  simp only [h]
  have hd : List.drop (c :: r).length (c :: r) = [] := List.drop_length
  rw [hd]
  simp [run, scan_end]
theorem all_single {l : List UInt8} {t : Tok} (hl : l ≠ []) (h : allK l = .ok [t]) (ht : t.text = l) : ∃ n, tokK l = .ok (t.kind, n, l) := by
  unfold allK at h
  rw [scan] at h
  split at h
  · cases h
  · split at h
    · cases h
    · rename_i kd n x hx
      have h1 := tok_text hx
      split at h
      · cases h
      · rename_i rest hr
        have h2 := Except.ok.inj h
        have h3 := (List.cons.inj h2).1
        rw [← h3] at ht ⊢
        have ht' : x = l := ht
        rw [ht'] at h1 hx
        have hlen := h1.2.1
        simp only [List.length_drop] at hlen
        have hpos := List.length_pos_iff.2 hl
        have h0 : run blkR l = 0 := by omega
        rw [h0, List.drop_zero] at hx
        exact ⟨n, hx⟩
theorem allK_nil : allK [] = .ok [] := rfl
theorem isTok_ref (l : List UInt8) (k : Int) (hl : l ≠ []) : isTokV l k = refTokV l k := by
  unfold isTokV refTokV
  cases ht : tokK l with
  | error x =>
    simp only
    split
    · rename_i t ha
      by_cases he : t.text = l
      · obtain ⟨n, h⟩ := all_single hl ha he
        rw [ht] at h; cases h
      · simp [he]
    · rfl
  | ok r =>
    obtain ⟨kd, n, x⟩ := r
    simp only
    by_cases hx : x = l
    · subst hx
      obtain ⟨c, q, rfl⟩ := List.exists_cons_of_ne_nil hl
      rw [tok_cons ht]
    · have e : (x == l) = false := by simpa using hx
      rw [e, Bool.and_false]
      split
      · rename_i t ha
        by_cases he : t.text = l
        · obtain ⟨n', h⟩ := all_single hl ha he
          rw [ht] at h
          simp only [Except.ok.injEq, Prod.mk.injEq] at h
          exact absurd h.2.2 hx
        · simp [he]
      · rfl
theorem isTok_nil (k : Int) : isTokV [] k = false := rfl

theorem run_pos_iff (P : Int → Bool) (c : UInt8) (r : List UInt8) : (0 < run P (c :: r)) ↔ P (c.toNat : Int) = true := by
  cases h : P (c.toNat : Int) <;> simp [run, h]
theorem numK_kind {l : List UInt8} {kd n : Int} (h : numK l = .ok (kd, n)) : kd = 3 := by
  unfold numK at h
  split at h
  · cases h
  · split at h
    · cases h
    · cases h; rfl
theorem refTok_kind (l : List UInt8) (k : Int) (hk : k = 1 ∨ k = 2) (hl : l ≠ []) : refTokV l k = kindV k l := by
  obtain ⟨c, q, rfl⟩ := List.exists_cons_of_ne_nil hl
  have hle := run_le ldR (c :: q)
  unfold refTokV
  by_cases hw : run ldR (c :: q) = (c :: q).length
  · have hp : 0 < run ldR (c :: q) := by rw [hw]; simp
    have ht : (c :: q).take (run ldR (c :: q)) = c :: q := by rw [hw]; exact List.take_length
    have hL : ldR (c.toNat : Int) = true := (run_pos_iff _ _ _).1 hp
    unfold tokK
    rw [if_pos hp, ht]
    unfold kindV nameV conV
    rw [hw]
    unfold runK
    simp only [run_pos_iff]
    by_cases hd : digR (c.toNat : Int) = true
    · have e1 : lowR (c.toNat : Int) = false := by simp [digR] at hd; simp [lowR]; omega
      have e2 : upR (c.toNat : Int) = false := by simp [digR] at hd; simp [upR]; omega
      rw [if_pos hd]
      cases hn : numK (c :: q) with
      | error x => simp [e1, e2]
      | ok r =>
        obtain ⟨kd, n⟩ := r
        have := numK_kind hn
        subst this
        rcases hk with rfl | rfl <;> simp [e1, e2]
    · rw [if_neg hd]
      by_cases h16 : 16 < (c :: q).length
      · rw [if_pos h16]
        have e : decide ((c :: q).length ≤ 16) = false := by simp only [decide_eq_false_iff_not]; omega
        rcases hk with rfl | rfl <;> simp only [e] <;> simp
      · rw [if_neg h16]
        have e : decide ((c :: q).length ≤ 16) = true := by simp only [decide_eq_true_eq]; omega
        by_cases hwd : wordS (c :: q) = true
        · rw [if_pos hwd]
          have hlow : lowR (c.toNat : Int) = true := by
            simp [wordS] at hwd
            rcases hwd with ⟨rfl, _⟩ | ⟨rfl, _⟩ | ⟨rfl, _⟩ | ⟨rfl, _⟩ | ⟨rfl, _⟩ <;> rfl
          have hup : upR (c.toNat : Int) = false := by simp [lowR] at hlow; simp [upR]; omega
          rcases hk with rfl | rfl <;> simp [hwd, hup]
        · rw [if_neg hwd]
          have hwd' : wordS (c :: q) = false := by simpa using hwd
          cases hlow : lowR (c.toNat : Int)
          · have hup : upR (c.toNat : Int) = true := by
              simp [ldR, hlow, hd] at hL
              exact hL
            rcases hk with rfl | rfl <;> simp only [e, hup, hwd'] <;> simp
          · have hup : upR (c.toNat : Int) = false := by simp [lowR] at hlow; simp [upR]; omega
            rcases hk with rfl | rfl <;> simp only [e, hup, hwd'] <;> simp
  · have hf : kindV k (c :: q) = false := by
      unfold kindV nameV conV
      have e : decide (run ldR (c :: q) = (c :: q).length) = false := by simpa using hw
      rcases hk with rfl | rfl <;> simp only [e] <;> simp
    rw [hf]
    cases ht : tokK (c :: q) with
    | error x => rfl
    | ok r =>
      obtain ⟨kd, n, x⟩ := r
      simp only
      unfold tokK at ht
      split at ht
      · split at ht
        · simp only [Except.ok.injEq, Prod.mk.injEq] at ht
          obtain ⟨rfl, rfl, rfl⟩ := ht
          have e : ((c :: q).take (run ldR (c :: q)) == c :: q) = false := by
            rw [beq_eq_false_iff_ne]
            intro e
            have := congrArg List.length e
            rw [List.length_take] at this
            omega
          rw [e, Bool.and_false]
        · cases ht
      · split at ht
        · simp only [Except.ok.injEq, Prod.mk.injEq] at ht
          obtain ⟨rfl, rfl, rfl⟩ := ht
          rcases hk with rfl | rfl <;> rfl
        · cases ht
theorem isTok_kind (l : List UInt8) (k : Int) (hk : k = 1 ∨ k = 2) : isTokV l k = kindV k l := by
  by_cases hl : l = []
  · subst hl; rcases hk with rfl | rfl <;> rfl
  · rw [isTok_ref l k hl, refTok_kind l k hk hl]
theorem kindV_long (l : List UInt8) (k : Int) (h : 16 < l.length) : kindV k l = false := by
  unfold kindV nameV conV
  have e : decide (l.length ≤ 16) = false := by simp only [decide_eq_false_iff_not]; omega
  split <;> simp [e]
end Lx
end Go.Proofs.Ytgnafcnokenogaa
namespace Go.Proofs.Ytgnafcnokenogaa
open Go.RowKit
namespace Lx
set_option maxRecDepth 100000
theorem below_al {w wr w2 : World} {o : Obj} (hbw : Below w.heap.size w wr) (hb2 : Below (wr.alloc o).heap.size (wr.alloc o) w2) : Below w.heap.size w w2 :=
  (hbw.alloc hbw.size _).trans (hb2.mono (by have := hbw.size; simp; omega))
end Lx
end Go.Proofs.Ytgnafcnokenogaa
