/-
  Walk of the law LexSpaces.
-/
import Derived.Test.YthfchcnmedklbaaDoorLawBoth
import Derived.Test.YthfchcnmedklbaaDoorGap
import Derived.Deep.RegionWith
import Derived.Test.YthfchcnmedklbaaDoorLawAgain
namespace Go.Proofs.YthfchcnmedklbaaDoor
open Go.RowKit
namespace Lx
abbrev gapB (i : Nat) : ByteArray := ⟨(gapS i).toArray⟩
theorem gap_step (i : Nat) (c : UInt8) (h : (i % 3 = 0 ∧ c = 32) ∨ (i % 3 = 1 ∧ c = 10) ∨ (i % 3 = 2 ∧ c = 9)) : (⟨(gapS i).toArray⟩ : ByteArray) ++ (⟨#[c]⟩ : ByteArray) = ⟨(gapS (i + 1)).toArray⟩ := by
  rw [← toBytes ((⟨(gapS i).toArray⟩ : ByteArray) ++ (⟨#[c]⟩ : ByteArray)), Joins.data_append, gapS]
  rcases h with ⟨h, rfl⟩ | ⟨h, rfl⟩ | ⟨h, rfl⟩ <;> rw [h] <;> rfl
theorem cut0 (w : World) : (Instr.slice 9 (.string ⟨#[32, 10, 9]⟩) (some (.int .i64 0)) (some (.int .i64 1)) none).run Tryd.prog w = .ok (.string ⟨#[32]⟩) w := by kernel_rfl
theorem cut1 (w : World) : (Instr.slice 9 (.string ⟨#[32, 10, 9]⟩) (some (.int .i64 1)) (some (.int .i64 2)) none).run Tryd.prog w = .ok (.string ⟨#[10]⟩) w := by kernel_rfl
theorem cut2 (w : World) : (Instr.slice 9 (.string ⟨#[32, 10, 9]⟩) (some (.int .i64 2)) (some (.int .i64 3)) none).run Tryd.prog w = .ok (.string ⟨#[9]⟩) w := by kernel_rfl

set_option maxHeartbeats 2000000 in
theorem spaces_big (s : ByteArray) (n : Int) (w : World) (hg : Signs w) (h : 1000 < s.size ∨ (s.size ≤ 1000 ∧ n < 0) ∨ (s.size ≤ 1000 ∧ 0 ≤ n ∧ 50 < n)) :
    Calls Tryd.prog 7 #[.string s, .int .i64 n] w fun e w' => e = .returned (.bool true) ∧ Below w.heap.size w w' := by
  have hpos := hg.pos
  rcases h with h | ⟨h, h2⟩ | ⟨h, h2, h3⟩
  all_goals
    go_enter Tryd.func7, Tryd.ntmps7
    go_wp2_with fail
    refine (fixed_any _ hg).mono ?_
    rintro e w1 ⟨rfl, hb1⟩
    have hg1 := hg.below hb1 hpos
    go_wp2_with fail
    refine (fixed_any _ hg1).mono ?_
    rintro e w2 ⟨rfl, hb2⟩
    go_wp2_with fail
    go_ret
    exact ⟨rfl, hb1.trans (hb2.mono hb1.size)⟩

set_option maxHeartbeats 2000000 in
theorem spaces_bad (s : ByteArray) (N : Nat) (w : World) (hg : Signs w) (h : s.size ≤ 1000) (hN : N ≤ 50) (p x : Int) (hx : (x == 0) = false) (hk : allK s.data.toList = .error (p, x)) :
    Calls Tryd.prog 7 #[.string s, .int .i64 N] w fun e w' => e = .returned (.bool true) ∧ Below w.heap.size w w' := by
  have hpos := hg.pos
  have hx2 : (x != 0) = true := by simp [bne, hx]
  obtain ⟨j, rfl, hjl⟩ := allK_place hk
  rw [← Lib.size_eq] at hjl
  have hka : allK ((⟨(gapS N).toArray⟩ : ByteArray) ++ s).data.toList = .error ((j : Int) + N, x) := by
    rw [Joins.data_append]
    show allK (gapS N ++ s.data.toList) = _
    rw [allK_gap_ahead, hk]; rfl
  have hkb : allK (s ++ (⟨(gapS N).toArray⟩ : ByteArray)).data.toList = .error ((j : Int), x) := by
    rw [Joins.data_append]
    show allK (s.data.toList ++ gapS N) = _
    rw [allK_gap_behind, hk]
  have hsa : ((⟨(gapS N).toArray⟩ : ByteArray) ++ s).size ≤ 60000 := by
    rw [Lib.size_eq, Joins.data_append, List.length_append, ← Lib.size_eq s]
    show (gapS N).length + _ ≤ _
    rw [gapS_length]; omega
  have hsb : (s ++ (⟨(gapS N).toArray⟩ : ByteArray)).size ≤ 60000 := by
    rw [Lib.size_eq, Joins.data_append, List.length_append, ← Lib.size_eq s]
    show _ + (gapS N).length ≤ _
    rw [gapS_length]; omega
  have HK := Lib.hid hk
  have HA := Lib.hid hka
  have HB := Lib.hid hkb
  have HSA := Lib.hid hsa
  have HSB := Lib.hid hsb
  clear hk hka hkb hsa hsb
  go_enter Tryd.func7, Tryd.ntmps7
  go_wp2_with fail
  refine (fixed_any _ hg).mono ?_
  rintro e w1 ⟨rfl, hb1⟩
  have hg1 := hg.below hb1 hpos
  have hs1 := hb1.size
  go_wp2_with fail
  go_loop [5, 6] (fun v a => ∃ i : Nat, i ≤ N ∧ a = .int .i64 i ∧ v = .string ⟨(gapS i).toArray⟩) (fun _ a => N - (intOf a).toNat)
  case atStart => exact ⟨0, by omega, rfl, rfl⟩
  case round =>
    obtain ⟨i, hi, rfl, rfl⟩ := hrel
    by_cases hlt : i < N
    · obtain ⟨gi, hgi⟩ : ∃ gi : ByteArray, gi = ⟨(gapS i).toArray⟩ := ⟨_, rfl⟩
      rw [← hgi]
      have hgs : gi.size ≤ 50 := by
        rw [hgi, Lib.size_eq]
        show (gapS i).length ≤ 50
        rw [gapS_length]; omega
      have HGI := Lib.hid hgi
      clear hgi
      have hr3 : i % 3 = 0 ∨ i % 3 = 1 ∨ i % 3 = 2 := by omega
      rcases hr3 with hr | hr | hr
      · have hri : (i : Int) % 3 = 0 := by omega
        have HG := Lib.hid (gap_step i 32 (.inl ⟨hr, rfl⟩))
        have hc := cut0
        clear hr
        go_wp2_with fail
        go_round
        case rel => exact ⟨i + 1, by omega, by go_num, by rw [HGI.out, HG.out]⟩
        case measure => simp [intOf]; omega
      · have hri : (i : Int) % 3 = 1 := by omega
        have HG := Lib.hid (gap_step i 10 (.inr (.inl ⟨hr, rfl⟩)))
        have hc := cut1
        clear hr
        go_wp2_with fail
        go_round
        case rel => exact ⟨i + 1, by omega, by go_num, by rw [HGI.out, HG.out]⟩
        case measure => simp [intOf]; omega
      · have hri : (i : Int) % 3 = 2 := by omega
        have HG := Lib.hid (gap_step i 9 (.inr (.inr ⟨hr, rfl⟩)))
        have hc := cut2
        clear hr
        go_wp2_with fail
        go_round
        case rel => exact ⟨i + 1, by omega, by go_num, by rw [HGI.out, HG.out]⟩
        case measure => simp [intOf]; omega
    · obtain rfl : i = N := by omega
      obtain ⟨gi, hgi⟩ : ∃ gi : ByteArray, gi = ⟨(gapS i).toArray⟩ := ⟨_, rfl⟩
      rw [← hgi] at HA HB HSA HSB ⊢
      have hgs : gi.size ≤ 50 := by
        rw [hgi, Lib.size_eq]
        show (gapS i).length ≤ 50
        rw [gapS_length]; omega
      clear hgi
      go_wp2_with fail
      refine (all_bad s j x _ (by omega) hg1 HK.out).mono ?_
      rintro e w2 ⟨rfl, hb2⟩
      have hg2 := hg1.below hb2 (by omega)
      have hB2 := hb1.trans (hb2.mono hs1)
      have hs2 := hb2.size
      clear hb1 hb2 hg1
      go_wp2_with fail
      refine (all_bad (gi ++ s) ((j : Int) + i) x _ HSA.out hg2 HA.out).mono ?_
      rintro e w3 ⟨rfl, hb3⟩
      have hg3 := hg2.below hb3 (by omega)
      have hB3 := hB2.trans (hb3.mono (by omega))
      have hs3 := hb3.size
      clear hB2 hb3 hg2
      go_wp2_with fail
      refine (all_bad (s ++ gi) (j : Int) x _ HSB.out hg3 HB.out).mono ?_
      rintro e w4 ⟨rfl, hb4⟩
      have hB4 := hB3.trans (hb4.mono (by omega))
      clear hB3 hb4 hg3
      have hxx : (x == x) = true := by simp
      have hjj : ((j : Int) == (j : Int)) = true := by simp
      have hji : ((j : Int) + (i : Int) == (j : Int) + (i : Int)) = true := by simp
      go_wp2_with fail
      go_ret
      exact ⟨ret_bool (by simp), hB4⟩
end Lx
end Go.Proofs.YthfchcnmedklbaaDoor
