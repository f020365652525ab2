/-
  Walk of the reference's sign: how long the sign at a place is.
-/
import Derived.Test.YtnljlocogfacfaaDoorRefRun
import Derived.Deep.QuietTactic
import Derived.BigQuiet
namespace Go.Proofs.YtnljlocogfacfaaDoor
open Go.RowKit
namespace Lx
set_option maxRecDepth 100000
def ones : List UInt8 := [92, 46, 40, 41, 61, 123, 125, 124, 43, 45, 42, 47, 60]
theorem one_at (k : Nat) (h : k < 13) (w : World) : (Instr.index 9 (.string ⟨#[92, 46, 40, 41, 61, 123, 125, 124, 43, 45, 42, 47, 60]⟩) (.int .i64 k)).run Tryd.prog w = .ok (.int .u8 ((ones.getD k 0).toNat : Int)) w := by
  have i0 : (Instr.index 9 (.string ⟨#[92, 46, 40, 41, 61, 123, 125, 124, 43, 45, 42, 47, 60]⟩) (.int .i64 0)).run Tryd.prog w = .ok (.int .u8 ((ones.getD 0 0).toNat : Int)) w := by kernel_rfl
  have i1 : (Instr.index 9 (.string ⟨#[92, 46, 40, 41, 61, 123, 125, 124, 43, 45, 42, 47, 60]⟩) (.int .i64 1)).run Tryd.prog w = .ok (.int .u8 ((ones.getD 1 0).toNat : Int)) w := by kernel_rfl
  have i2 : (Instr.index 9 (.string ⟨#[92, 46, 40, 41, 61, 123, 125, 124, 43, 45, 42, 47, 60]⟩) (.int .i64 2)).run Tryd.prog w = .ok (.int .u8 ((ones.getD 2 0).toNat : Int)) w := by kernel_rfl
  have i3 : (Instr.index 9 (.string ⟨#[92, 46, 40, 41, 61, 123, 125, 124, 43, 45, 42, 47, 60]⟩) (.int .i64 3)).run Tryd.prog w = .ok (.int .u8 ((ones.getD 3 0).toNat : Int)) w := by kernel_rfl
  have i4 : (Instr.index 9 (.string ⟨#[92, 46, 40, 41, 61, 123, 125, 124, 43, 45, 42, 47, 60]⟩) (.int .i64 4)).run Tryd.prog w = .ok (.int .u8 ((ones.getD 4 0).toNat : Int)) w := by kernel_rfl
  have i5 : (Instr.index 9 (.string ⟨#[92, 46, 40, 41, 61, 123, 125, 124, 43, 45, 42, 47, 60]⟩) (.int .i64 5)).run Tryd.prog w = .ok (.int .u8 ((ones.getD 5 0).toNat : Int)) w := by kernel_rfl
  have i6 : (Instr.index 9 (.string ⟨#[92, 46, 40, 41, 61, 123, 125, 124, 43, 45, 42, 47, 60]⟩) (.int .i64 6)).run Tryd.prog w = .ok (.int .u8 ((ones.getD 6 0).toNat : Int)) w := by kernel_rfl
  have i7 : (Instr.index 9 (.string ⟨#[92, 46, 40, 41, 61, 123, 125, 124, 43, 45, 42, 47, 60]⟩) (.int .i64 7)).run Tryd.prog w = .ok (.int .u8 ((ones.getD 7 0).toNat : Int)) w := by kernel_rfl
  have i8 : (Instr.index 9 (.string ⟨#[92, 46, 40, 41, 61, 123, 125, 124, 43, 45, 42, 47, 60]⟩) (.int .i64 8)).run Tryd.prog w = .ok (.int .u8 ((ones.getD 8 0).toNat : Int)) w := by kernel_rfl
  have i9 : (Instr.index 9 (.string ⟨#[92, 46, 40, 41, 61, 123, 125, 124, 43, 45, 42, 47, 60]⟩) (.int .i64 9)).run Tryd.prog w = .ok (.int .u8 ((ones.getD 9 0).toNat : Int)) w := by kernel_rfl
  have i10 : (Instr.index 9 (.string ⟨#[92, 46, 40, 41, 61, 123, 125, 124, 43, 45, 42, 47, 60]⟩) (.int .i64 10)).run Tryd.prog w = .ok (.int .u8 ((ones.getD 10 0).toNat : Int)) w := by kernel_rfl
  have i11 : (Instr.index 9 (.string ⟨#[92, 46, 40, 41, 61, 123, 125, 124, 43, 45, 42, 47, 60]⟩) (.int .i64 11)).run Tryd.prog w = .ok (.int .u8 ((ones.getD 11 0).toNat : Int)) w := by kernel_rfl
  have i12 : (Instr.index 9 (.string ⟨#[92, 46, 40, 41, 61, 123, 125, 124, 43, 45, 42, 47, 60]⟩) (.int .i64 12)).run Tryd.prog w = .ok (.int .u8 ((ones.getD 12 0).toNat : Int)) w := by kernel_rfl
  match k, h with
  | 0, _ => exact i0
  | 1, _ => exact i1
  | 2, _ => exact i2
  | 3, _ => exact i3
  | 4, _ => exact i4
  | 5, _ => exact i5
  | 6, _ => exact i6
  | 7, _ => exact i7
  | 8, _ => exact i8
  | 9, _ => exact i9
  | 10, _ => exact i10
  | 11, _ => exact i11
  | 12, _ => exact i12
/-- How long the sign at the beginning is; 0: there is none. -/
def sgnV (l : List UInt8) : Nat := match signOf l with | some g => g.length | none => 0
def twoV (c : UInt8) (r : List UInt8) : Bool := (c == 45 && r.head? == some 62) || (c == 61 && r.head? == some 61)
def inV (c : UInt8) : Int := if ones.contains c = true then 1 else 0
theorem sgn_cons (c : UInt8) (r : List UInt8) : sgnV (c :: r) = if twoV c r = true then 2 else if ones.contains c = true then 1 else 0 := by
  unfold sgnV signOf signsS
  simp only [Lib.hasPrefix]
  by_cases h1 : c = 45
  · subst h1
    cases r with
    | nil => rfl
    | cons d q =>
      by_cases h2 : d = 62
      · subst h2; rfl
      · have e : ((62 : UInt8) == d) = false := by simpa using fun h => h2 h.symm
        have e2 : (d == (62 : UInt8)) = false := by simpa using h2
        simp [List.find?, List.isPrefixOf, e, twoV, ones, h2]
  · by_cases h2 : c = 61
    · subst h2
      cases r with
      | nil => rfl
      | cons d q =>
        by_cases h3 : d = 61
        · subst h3; rfl
        · have e : ((61 : UInt8) == d) = false := by simpa using fun h => h3 h.symm
          simp [List.find?, List.isPrefixOf, e, twoV, ones, h3]
    · have e1 : ((45 : UInt8) == c) = false := by simpa using fun h => h1 h.symm
      have e2 : ((61 : UInt8) == c) = false := by simpa using fun h => h2 h.symm
      have et : twoV c r = false := by simp [twoV, h1, h2]
      rw [et]
      by_cases a1 : c = 92
      · subst a1; simp [List.find?, List.isPrefixOf, ones]
      by_cases a2 : c = 46
      · subst a2; simp [List.find?, List.isPrefixOf, ones]
      by_cases a3 : c = 40
      · subst a3; simp [List.find?, List.isPrefixOf, ones]
      by_cases a4 : c = 41
      · subst a4; simp [List.find?, List.isPrefixOf, ones]
      by_cases a5 : c = 123
      · subst a5; simp [List.find?, List.isPrefixOf, ones]
      by_cases a6 : c = 125
      · subst a6; simp [List.find?, List.isPrefixOf, ones]
      by_cases a7 : c = 124
      · subst a7; simp [List.find?, List.isPrefixOf, ones]
      by_cases a8 : c = 43
      · subst a8; simp [List.find?, List.isPrefixOf, ones]
      by_cases a9 : c = 42
      · subst a9; simp [List.find?, List.isPrefixOf, ones]
      by_cases a10 : c = 47
      · subst a10; simp [List.find?, List.isPrefixOf, ones]
      by_cases a11 : c = 60
      · subst a11; simp [List.find?, List.isPrefixOf, ones]
      have n : ∀ x : UInt8, c ≠ x → (x == c) = false := fun x h => by simpa using fun h' => h h'.symm
      simp [List.find?, List.isPrefixOf, ones, e1, e2, n _ a1, n _ a2, n _ a3, n _ a4, n _ a5, n _ a6, n _ a7, n _ a8, n _ a9, n _ a10, n _ a11, a1, a2, a3, a4, a5, a6, a7, a8, a9, a10, a11, h1, h2]

theorem u8_eq (c x : UInt8) : ((x.toNat : Int) == (c.toNat : Int)) = decide (x = c) := by
  rw [Bool.eq_iff_iff]
  simp only [beq_iff_eq, decide_eq_true_eq]
  constructor
  · intro h; apply UInt8.toNat_inj.1; omega
  · rintro rfl; rfl
theorem none_of (c : UInt8) (h : ∀ j, j < 13 → ones.getD j 0 ≠ c) : ones.contains c = false := by
  have h0 := h 0 (by omega)
  have h1 := h 1 (by omega)
  have h2 := h 2 (by omega)
  have h3 := h 3 (by omega)
  have h4 := h 4 (by omega)
  have h5 := h 5 (by omega)
  have h6 := h 6 (by omega)
  have h7 := h 7 (by omega)
  have h8 := h 8 (by omega)
  have h9 := h 9 (by omega)
  have h10 := h 10 (by omega)
  have h11 := h 11 (by omega)
  have h12 := h 12 (by omega)
  simp only [ones, List.getD_cons_zero, List.getD_cons_succ] at h0 h1 h2 h3 h4 h5 h6 h7 h8 h9 h10 h11 h12
  simp [ones, Ne.symm h0, Ne.symm h1, Ne.symm h2, Ne.symm h3, Ne.symm h4, Ne.symm h5, Ne.symm h6, Ne.symm h7, Ne.symm h8, Ne.symm h9, Ne.symm h10, Ne.symm h11, Ne.symm h12]
theorem some_of (c : UInt8) (j : Nat) (hj : j < 13) (h : ones.getD j 0 = c) : ones.contains c = true := by
  rw [← h, List.getD_eq_getElem?_getD, List.getElem?_eq_getElem (show j < ones.length from hj)]
  simp

set_option maxHeartbeats 2000000 in
theorem rsign_loop (s : ByteArray) (k : Nat) (c : UInt8) (w : World) (hk : k < s.size) (hs : s.size ≤ 140737488351232) (hc : s[k]'hk = c)
    (h2 : s.size ≤ k + 1 ∨ (k + 1 < s.size ∧ ∃ d, (s.extract k (k + 2)).toList = [c, d] ∧ ([c, d] == [45, 62]) = false ∧ ([c, d] == [61, 61]) = false)) :
    Calls Tryd.prog 52 #[.string s, .int .i64 k] w fun e w' => e = .returned (.int .i64 (inV c)) ∧ ∃ q, w' = w.drewN q := by
  have i0 : (0 : Int) ≤ (k : Int) := by omega
  have i1 : (k : Int) < (s.size : Int) := by omega
  rcases h2 with h2 | ⟨h2, d, hcut, n1, n2⟩
  all_goals
    first
      | (have h3 : ¬ (k : Int) + 1 < (s.size : Int) := by omega)
      | (have h3 : (k : Int) + 1 < (s.size : Int) := by omega
         have e1 : (k : Int) + 2 ≤ (s.size : Int) := by omega
         have e2 : (0 : Int) ≤ (k : Int) + 2 := by omega
         have e3 : (k : Int) ≤ (k : Int) + 2 := by omega)
    go_enter Tryd.func52, Tryd.ntmps52
    go_wp2_with fail
    go_loopw [5] (fun v wr => ∃ (j q : Nat), j ≤ 13 ∧ v = .int .i64 j ∧ wr = w.drewN q ∧ Hid (∀ x, x < j → ones.getD x 0 ≠ c)) (fun v _ => 13 - (intOf v).toNat)
    case atStart => exact ⟨0, 0, by omega, rfl, rfl, fun x hx => by omega⟩
    case round =>
      obtain ⟨j, q, hj, rfl, rfl, HQ⟩ := hrel
      by_cases hlt : j < 13
      · have hix := fun W => one_at j hlt W
        by_cases hq : ones.getD j 0 = c
        · have HC := Lib.hid (some_of c j hlt hq)
          have heq : (((ones.getD j 0).toNat : Int) == (c.toNat : Int)) = true := by rw [u8_eq]; simpa using hq
          generalize ones.getD j 0 = b at hix heq
          clear hq
          go_wp2_with fail
          go_quiet (fail)
          go_wp2_with fail
          go_ret
          refine ⟨ret_int ?_, q + nq, by first | rfl | rw [World.drewN_drewN]⟩
          unfold inV; rw [HC.out]; rfl
        · have HN := Lib.hid hq
          have heq : (((ones.getD j 0).toNat : Int) == (c.toNat : Int)) = false := by rw [u8_eq]; simpa using hq
          have HNJ : Hid (∀ x, x < j + 1 → ones.getD x 0 ≠ c) := fun x hx => by
            rcases Nat.lt_or_ge x j with h | h
            · exact HQ.out x h
            · obtain rfl : x = j := by omega
              exact HN.out
          clear hq HN
          generalize ones.getD j 0 = b at hix heq
          go_wp2_with fail
          go_quiet (fail)
          go_wp2_with fail
          go_roundw
          case rel => exact ⟨j + 1, q + nq, by omega, by go_num, by first | rfl | rw [World.drewN_drewN], HNJ⟩
          case measure => simp [intOf]; omega
      · go_wp2_with fail
        go_ret
        obtain rfl : j = 13 := by omega
        refine ⟨ret_int ?_, q, rfl⟩
        unfold inV; rw [none_of c HQ.out]; rfl

set_option maxHeartbeats 1000000 in
theorem rsign_two (s : ByteArray) (k : Nat) (c d : UInt8) (w : World) (hk : k + 1 < s.size) (hs : s.size ≤ 140737488351232)
    (hcut : (s.extract k (k + 2)).toList = [c, d]) (h : (c = 45 ∧ d = 62) ∨ (c = 61 ∧ d = 61)) :
    Calls Tryd.prog 52 #[.string s, .int .i64 k] w fun e w' => e = .returned (.int .i64 2) ∧ w = w' := by
  have i0 : (0 : Int) ≤ (k : Int) := by omega
  have i1 : (k : Int) < (s.size : Int) := by omega
  have h3 : (k : Int) + 1 < (s.size : Int) := by omega
  have e1 : (k : Int) + 2 ≤ (s.size : Int) := by omega
  have e2 : (0 : Int) ≤ (k : Int) + 2 := by omega
  have e3 : (k : Int) ≤ (k : Int) + 2 := by omega
  rcases h with ⟨rfl, rfl⟩ | ⟨rfl, rfl⟩
  all_goals
    go_enter Tryd.func52, Tryd.ntmps52
    go_wp2_with fail
    go_ret
    exact ⟨rfl, rfl⟩

theorem rsign_any (s : ByteArray) (k : Nat) (w : World) (hk : k < s.size) (hs : s.size ≤ 140737488351232) :
    Calls Tryd.prog 52 #[.string s, .int .i64 k] w fun e w' => e = .returned (.int .i64 (sgnV (s.data.toList.drop k))) ∧ ∃ q, w' = w.drewN q := by
  have hlen : k < s.data.toList.length := by simpa using hk
  have hb : s.data.toList[k]'hlen = s[k]'hk := by simp [ByteArray.getElem_eq_getElem_data]
  have hD := List.drop_eq_getElem_cons hlen
  rw [hb] at hD
  by_cases h1 : k + 1 < s.size
  · have hlen1 : k + 1 < s.data.toList.length := by simpa using h1
    have hb1 : s.data.toList[k + 1]'hlen1 = s[k + 1]'h1 := by simp [ByteArray.getElem_eq_getElem_data]
    have hD1 := List.drop_eq_getElem_cons hlen1
    rw [hb1] at hD1
    rw [hD1] at hD
    have hcut : (s.extract k (k + 2)).toList = [s[k]'hk, s[k + 1]'h1] := by
      rw [data_list, Lib.extract_data, show k + 2 - k = 2 from by omega, hD]; rfl
    by_cases ht : (s[k]'hk = 45 ∧ s[k + 1]'h1 = 62) ∨ (s[k]'hk = 61 ∧ s[k + 1]'h1 = 61)
    · refine (rsign_two s k _ _ w h1 hs hcut ht).mono ?_
      rintro e w' ⟨rfl, rfl⟩
      refine ⟨ret_int ?_, 0, rfl⟩
      rw [hD, sgn_cons, if_pos (by rcases ht with ⟨a, b⟩ | ⟨a, b⟩ <;> simp [twoV, a, b])]
      rfl
    · have n1 : ([s[k]'hk, s[k + 1]'h1] == [45, 62]) = false := by
        simp only [beq_eq_false_iff_ne, ne_eq, List.cons.injEq, and_true]
        exact fun h => ht (.inl h)
      have n2 : ([s[k]'hk, s[k + 1]'h1] == [61, 61]) = false := by
        simp only [beq_eq_false_iff_ne, ne_eq, List.cons.injEq, and_true]
        exact fun h => ht (.inr h)
      refine (rsign_loop s k _ w hk hs rfl (.inr ⟨h1, _, hcut, n1, n2⟩)).mono ?_
      rintro e w' ⟨rfl, hq⟩
      refine ⟨ret_int ?_, hq⟩
      rw [hD, sgn_cons, if_neg (by
        intro h
        apply ht
        simp only [twoV, Bool.or_eq_true, Bool.and_eq_true, beq_iff_eq, List.head?_cons, Option.some.injEq] at h
        exact h)]
      unfold inV; split <;> rfl
  · refine (rsign_loop s k _ w hk hs rfl (.inl (by omega))).mono ?_
    rintro e w' ⟨rfl, hq⟩
    refine ⟨ret_int ?_, hq⟩
    rw [hD, List.drop_eq_nil_of_le (by rw [← Lib.size_eq]; omega), sgn_cons, if_neg (by simp [twoV])]
    unfold inV; split <;> rfl
end Lx
end Go.Proofs.YtnljlocogfacfaaDoor
