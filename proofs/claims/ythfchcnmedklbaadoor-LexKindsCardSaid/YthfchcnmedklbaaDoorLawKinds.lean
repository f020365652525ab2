/-
  Walk of the law LexKinds.
-/
import Derived.Test.YthfchcnmedklbaaDoorFixed
import Derived.Test.YthfchcnmedklbaaDoorKinds
import Derived.Test.YthfchcnmedklbaaDoorLawAgain
namespace Go.Proofs.YthfchcnmedklbaaDoor
open Go.RowKit
namespace Lx
set_option maxHeartbeats 2000000 in
theorem kinds_big (s : ByteArray) (w : World) (hg : Signs w) (h : 2000 < s.size) :
    Calls Tryd.prog 8 #[.string s] w fun e w' => e = .returned (.bool true) ∧ Below w.heap.size w w' := by
  have hpos := hg.pos
  go_enter Tryd.func8, Tryd.ntmps8
  go_wp2_with fail
  refine (fixed_any _ hg).mono ?_
  rintro e w1 ⟨rfl, hb1⟩
  have hg1 := hg.below hb1 hpos
  go_wp2_with fail
  refine (fixed_any _ hg1).mono ?_
  rintro e w2 ⟨rfl, hb2⟩
  go_wp2_with fail
  go_ret
  exact ⟨rfl, hb1.trans (hb2.mono hb1.size)⟩

set_option maxHeartbeats 2000000 in
theorem kinds_bad (s : ByteArray) (w : World) (hg : Signs w) (h : s.size ≤ 2000) (p x : Int) (hk : allK s.data.toList = .error (p, x)) :
    Calls Tryd.prog 8 #[.string s] w fun e w' => e = .returned (.bool true) ∧ Below w.heap.size w w' := by
  have hpos := hg.pos
  have HK := Lib.hid hk
  clear hk
  go_enter Tryd.func8, Tryd.ntmps8
  go_wp2_with fail
  refine (fixed_any _ hg).mono ?_
  rintro e w1 ⟨rfl, hb1⟩
  have hg1 := hg.below hb1 hpos
  go_wp2_with fail
  refine (all_bad s p x _ (by omega) hg1 HK.out).mono ?_
  rintro e w2 ⟨rfl, hb2⟩
  have hB2 := hb1.trans (hb2.mono hb1.size)
  clear hb1 hb2 hg1
  go_wp2_with fail
  go_loop [6] (fun v => v = .int .i64 0) (fun _ => 0)
  case atStart => rfl
  case round =>
    subst hrel
    go_wp2_with fail
    go_ret
    exact ⟨rfl, hB2⟩

theorem word_q (c : UInt8) (q : List UInt8) (b : Bool) (hb : wordS (c :: q) = b) (w : World) : Calls Tryd.prog 15 #[.string ⟨(c :: q).toArray⟩] w fun e w' => e = .returned (.bool b) ∧ w' = w := by
  refine (word_any _ w).mono ?_
  rintro e w' ⟨rfl, rfl⟩
  exact ⟨by rw [← hb], rfl⟩

set_option maxHeartbeats 4000000 in
set_option maxRecDepth 100000 in
theorem kinds_ok (s : ByteArray) (w : World) (hg : Signs w) (h : s.size ≤ 2000) (ts : List Tok) (hk : allK s.data.toList = .ok ts) :
    Calls Tryd.prog 8 #[.string s] w fun e w' => e = .returned (.bool true) ∧ Below w.heap.size w w' := by
  have hpos := hg.pos
  obtain ⟨n, hn⟩ : ∃ n, ts.length = n := ⟨_, rfl⟩
  have hn2 : n ≤ 2000 := by have := (allK_places hk).2; rw [← Lib.size_eq] at this; omega
  have HG := Lib.hid (scan_all_good _ _ _ _ hk)
  have HK := Lib.hid hk
  have HN := Lib.hid hn
  have hn3 : n ≤ ts.length := by omega
  have hn4 : ts.length ≤ n := by omega
  clear hk hn
  go_enter Tryd.func8, Tryd.ntmps8
  go_wp2_with fail
  refine (fixed_any _ hg).mono ?_
  rintro e w1 ⟨rfl, hb1⟩
  have hg1 := hg.below hb1 hpos
  go_wp2_with fail
  refine (all_row s ts n HN.out _ (by omega) hg1 HK.out).mono ?_
  rintro e w2 ⟨A2, c2, rfl, hr2, hb2⟩
  have hB2 := hb1.trans (hb2.mono hb1.size)
  clear hb1 hb2 hg1 hg
  go_wp2_with fail
  go_loopw [6] (fun v wr => ∃ i : Nat, i ≤ n ∧ v = .int .i64 i ∧ Below w2.heap.size w2 wr) (fun v _ => n - (intOf v).toNat)
  case atStart => exact ⟨0, by omega, rfl, Below.refl _ _⟩
  case round =>
    obtain ⟨i, hi, rfl, hbw⟩ := hrel
    have hbs := hbw.size
    by_cases hlt : i < n
    · have hia : i < ts.length := by omega
      obtain ⟨g, o, hA, d0, d1, d2, d3⟩ := (hr2.below hbw (Nat.le_refl _)).at_ hia
      subst hA
      obtain ⟨c, q, htx, hkd⟩ := good_kind (HG.out _ (List.getElem_mem hia))
      rw [htx] at d1
      have HTX := Lib.hid htx
      clear htx hr2
      have hsz0 : 0 < (⟨(c :: q).toArray⟩ : ByteArray).size := by rw [Lib.size_eq]; simp
      have hb0 : (⟨(c :: q).toArray⟩ : ByteArray)[0]'hsz0 = c := rfl
      generalize (ts[i]'hia).kind = kd at hkd d0
      generalize (ts[i]'hia).n = nn at hkd d2
      generalize (ts[i]'hia).place = pl at d3
      rcases hkd with ⟨rfl, k1, k2, k3, k4, k5, k6⟩ | ⟨rfl, k1, k2, k3, rfl, k6⟩ | ⟨rfl, k1, k2, k3, rfl, k6⟩ | ⟨rfl, k1, k2, k3, rfl, k6⟩ | ⟨rfl, k1, k3, rfl, k6⟩
      · have HW := Lib.hid k3
        have HV := Lib.hid k4
        have HD := Lib.hid k5
        have k7 : q.length + 1 ≤ 18 := by simpa using k6
        clear k3 k4 k5 k6
        go_wp2_with fail
        go_quiet ((go_at_call 15; exact Calls.quiet_of_same (word_q c q _ HW.out _)))
        go_wp2_with fail
        go_loop [12, 13] (fun a b => ∃ k : Nat, k ≤ q.length + 1 ∧ b = .int .i64 k ∧ a = .int .i64 (numV ((c :: q).take k))) (fun _ b => q.length + 1 - (intOf b).toNat)
        case atStart => exact ⟨0, by omega, rfl, rfl⟩
        case round =>
          obtain ⟨k, hk, rfl, rfl⟩ := hrel
          by_cases hkl : k < q.length + 1
          · have hkl2 : k < (c :: q).length := by simpa using hkl
            have hsk : k < (⟨(c :: q).toArray⟩ : ByteArray).size := by rw [Lib.size_eq]; exact hkl2
            have hdig := dig_of digR _ HD.out ((c :: q)[k]'hkl2) (List.getElem_mem hkl2)
            have HS := Lib.hid (take_snoc (c :: q) k hkl2)
            have hbd := numV_bd k ((c :: q).take k) (by rw [List.length_take]; omega) (fun x hx => dig_of digR _ HD.out x (List.mem_of_mem_take hx))
            have hp := pow_le17 k (by omega)
            obtain ⟨d, hd⟩ : ∃ d, d = (c :: q)[k]'hkl2 := ⟨_, rfl⟩
            have hbk : (⟨(c :: q).toArray⟩ : ByteArray)[k]'hsk = d := by rw [hd]; rfl
            rw [← hd] at hdig HS
            have hd2 : 48 ≤ (d.toNat : Int) ∧ (d.toNat : Int) ≤ 57 := by simpa [digR] using hdig
            obtain ⟨hd3, hd4⟩ := hd2
            obtain ⟨hb3, hb4⟩ := hbd
            have hb5 : numV ((c :: q).take k) ≤ 100000000000000000 := by omega
            clear hp hb4 hdig hd
            obtain ⟨N, hN⟩ : ∃ N, N = numV ((c :: q).take k) := ⟨_, rfl⟩
            rw [← hN] at hb3 hb5 ⊢
            have HNN := Lib.hid hN
            clear hN
            go_wp2_with fail
            go_round
            case rel =>
              refine ⟨k + 1, by omega, by go_num, congrArg (Value.int .i64) ?_⟩
              rw [HS.out, numV_snoc, ← HNN.out]
              omega
            case measure => simp [intOf]; omega
          · obtain rfl : k = q.length + 1 := by omega
            have HT := Lib.hid (List.take_of_length_le (l := c :: q) (i := q.length + 1) (by simp))
            rw [HT.out, ← HV.out]
            go_wp2_with fail
            go_roundw
            case rel => exact ⟨i + 1, by omega, by go_num, below_drewN (hbw.alloc hbs _) _⟩
            case measure => simp [intOf]; omega
      · have HW := Lib.hid k3
        have k7 : q.length + 1 ≤ 18 := by simpa using k6
        clear k3 k6
        have f90 : decide ((c.toNat : Int) ≤ 90) = false := decide_eq_false (by omega)
        have f57 : decide ((c.toNat : Int) ≤ 57) = false := decide_eq_false (by omega)
        go_wp2_with fail
        go_quiet ((go_at_call 15; exact Calls.quiet_of_same (word_q c q _ HW.out _)))
        go_wp2_with fail
        go_loop [12, 13] (fun a b => a = .int .i64 0 ∧ b = .int .i64 0) (fun _ _ => 0)
        case atStart => exact ⟨rfl, rfl⟩
        case round =>
          obtain ⟨rfl, rfl⟩ := hrel
          go_wp2_with fail
          go_roundw
          case rel => exact ⟨i + 1, by omega, by go_num, below_drewN (hbw.alloc hbs _) _⟩
          case measure => simp [intOf]; omega
      · have HW := Lib.hid k3
        have k7 : q.length + 1 ≤ 18 := by simpa using k6
        clear k3 k6
        have f90 : decide ((c.toNat : Int) ≤ 90) = false := decide_eq_false (by omega)
        have f57 : decide ((c.toNat : Int) ≤ 57) = false := decide_eq_false (by omega)
        go_wp2_with fail
        go_quiet ((go_at_call 15; exact Calls.quiet_of_same (word_q c q _ HW.out _)))
        go_wp2_with fail
        go_loop [12, 13] (fun a b => a = .int .i64 0 ∧ b = .int .i64 0) (fun _ _ => 0)
        case atStart => exact ⟨rfl, rfl⟩
        case round =>
          obtain ⟨rfl, rfl⟩ := hrel
          go_wp2_with fail
          go_roundw
          case rel => exact ⟨i + 1, by omega, by go_num, below_drewN (hbw.alloc hbs _) _⟩
          case measure => simp [intOf]; omega
      · have HW := Lib.hid k3
        have k7 : q.length + 1 ≤ 18 := by simpa using k6
        clear k3 k6
        have f57 : decide ((c.toNat : Int) ≤ 57) = false := decide_eq_false (by omega)
        go_wp2_with fail
        go_quiet ((go_at_call 15; exact Calls.quiet_of_same (word_q c q _ HW.out _)))
        go_wp2_with fail
        go_loop [12, 13] (fun a b => a = .int .i64 0 ∧ b = .int .i64 0) (fun _ _ => 0)
        case atStart => exact ⟨rfl, rfl⟩
        case round =>
          obtain ⟨rfl, rfl⟩ := hrel
          go_wp2_with fail
          go_roundw
          case rel => exact ⟨i + 1, by omega, by go_num, below_drewN (hbw.alloc hbs _) _⟩
          case measure => simp [intOf]; omega
      · rcases k1 with k1 | ⟨k1, k2⟩ | ⟨k1, k2⟩ | k1
        · have HW := Lib.hid k3
          have k7 : q.length + 1 ≤ 18 := by simpa using k6
          clear k3 k6
          go_wp2_with fail
          go_quiet ((go_at_call 15; exact Calls.quiet_of_same (word_q c q _ HW.out _)))
          go_wp2_with fail
          go_loop [12, 13] (fun a b => a = .int .i64 0 ∧ b = .int .i64 0) (fun _ _ => 0)
          case atStart => exact ⟨rfl, rfl⟩
          case round =>
            obtain ⟨rfl, rfl⟩ := hrel
            go_wp2_with fail
            go_roundw
            case rel => exact ⟨i + 1, by omega, by go_num, below_drewN (hbw.alloc hbs _) _⟩
            case measure => simp [intOf]; omega
        · have HW := Lib.hid k3
          have k7 : q.length + 1 ≤ 18 := by simpa using k6
          clear k3 k6
          have f57 : decide ((c.toNat : Int) ≤ 57) = false := decide_eq_false (by omega)
          go_wp2_with fail
          go_quiet ((go_at_call 15; exact Calls.quiet_of_same (word_q c q _ HW.out _)))
          go_wp2_with fail
          go_loop [12, 13] (fun a b => a = .int .i64 0 ∧ b = .int .i64 0) (fun _ _ => 0)
          case atStart => exact ⟨rfl, rfl⟩
          case round =>
            obtain ⟨rfl, rfl⟩ := hrel
            go_wp2_with fail
            go_roundw
            case rel => exact ⟨i + 1, by omega, by go_num, below_drewN (hbw.alloc hbs _) _⟩
            case measure => simp [intOf]; omega
        · have HW := Lib.hid k3
          have k7 : q.length + 1 ≤ 18 := by simpa using k6
          clear k3 k6
          have f90 : decide ((c.toNat : Int) ≤ 90) = false := decide_eq_false (by omega)
          have f57 : decide ((c.toNat : Int) ≤ 57) = false := decide_eq_false (by omega)
          go_wp2_with fail
          go_quiet ((go_at_call 15; exact Calls.quiet_of_same (word_q c q _ HW.out _)))
          go_wp2_with fail
          go_loop [12, 13] (fun a b => a = .int .i64 0 ∧ b = .int .i64 0) (fun _ _ => 0)
          case atStart => exact ⟨rfl, rfl⟩
          case round =>
            obtain ⟨rfl, rfl⟩ := hrel
            go_wp2_with fail
            go_roundw
            case rel => exact ⟨i + 1, by omega, by go_num, below_drewN (hbw.alloc hbs _) _⟩
            case measure => simp [intOf]; omega
        · have HW := Lib.hid k3
          have k7 : q.length + 1 ≤ 18 := by simpa using k6
          clear k3 k6
          have f122 : decide ((c.toNat : Int) ≤ 122) = false := decide_eq_false (by omega)
          have f90 : decide ((c.toNat : Int) ≤ 90) = false := decide_eq_false (by omega)
          have f57 : decide ((c.toNat : Int) ≤ 57) = false := decide_eq_false (by omega)
          go_wp2_with fail
          go_quiet ((go_at_call 15; exact Calls.quiet_of_same (word_q c q _ HW.out _)))
          go_wp2_with fail
          go_loop [12, 13] (fun a b => a = .int .i64 0 ∧ b = .int .i64 0) (fun _ _ => 0)
          case atStart => exact ⟨rfl, rfl⟩
          case round =>
            obtain ⟨rfl, rfl⟩ := hrel
            go_wp2_with fail
            go_roundw
            case rel => exact ⟨i + 1, by omega, by go_num, below_drewN (hbw.alloc hbs _) _⟩
            case measure => simp [intOf]; omega
    · go_wp2_with fail
      go_ret
      exact ⟨rfl, hB2.trans (hbw.mono hB2.size)⟩
theorem lawKinds_any (s : ByteArray) (w : World) (hg : Signs w) : Calls Tryd.prog 8 #[.string s] w fun e w' => e = .returned (.bool true) ∧ Below w.heap.size w w' := by
  by_cases h : 2000 < s.size
  · exact kinds_big s w hg h
  · cases hk : allK s.data.toList with
    | ok ts => exact kinds_ok s w hg (by omega) ts hk
    | error px => exact kinds_bad s w hg (by omega) px.1 px.2 hk
end Lx
end Go.Proofs.YthfchcnmedklbaaDoor
