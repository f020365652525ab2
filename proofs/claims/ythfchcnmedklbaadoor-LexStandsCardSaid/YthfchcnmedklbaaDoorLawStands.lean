/-
  Walk of the law LexStands.
-/
import Derived.Test.YthfchcnmedklbaaDoorFixed
import Derived.Test.YthfchcnmedklbaaDoorStandsP
import Derived.Test.YthfchcnmedklbaaDoorLawAgain
import Derived.WalkSpells
import Derived.IntWalk
namespace Go.Proofs.YthfchcnmedklbaaDoor
open Go.RowKit
namespace Lx
theorem upto_data (s : ByteArray) (j : Nat) : (s.extract 0 j).data.toList = s.data.toList.take j := by
  rw [Lib.extract_data]
  simp
set_option maxHeartbeats 2000000 in
set_option maxRecDepth 100000 in
theorem stands_big (s : ByteArray) (w : World) (hg : Signs w) (h : 2000 < s.size) :
    Calls Tryd.prog 5 #[.string s] w fun e w' => e = .returned (.bool true) ∧ Below w.heap.size w w' := by
  have hpos := hg.pos
  go_enter Tryd.func5, Tryd.ntmps5
  go_wp2_with fail
  refine (fixed_any _ hg).mono ?_
  rintro e w1 ⟨rfl, hb1⟩
  have hg1 := hg.below hb1 hpos
  go_wp2_with fail
  refine (fixed_any _ hg1).mono ?_
  rintro e w2 ⟨rfl, hb2⟩
  go_wp2_with fail
  go_ret
  exact ⟨rfl, hb1.trans (hb2.mono hb1.size)⟩

set_option maxHeartbeats 2000000 in
set_option maxRecDepth 100000 in
theorem stands_bad (s : ByteArray) (w : World) (hg : Signs w) (h : s.size ≤ 2000) (j : Nat) (x : Int) (hj : j < s.size) (hx : x = 10 ∨ x = 11) (hk : allK s.data.toList = .error ((j : Int), x)) :
    Calls Tryd.prog 5 #[.string s] w fun e w' => e = .returned (.bool true) ∧ Below w.heap.size w w' := by
  have hpos := hg.pos
  obtain ⟨us, hu⟩ := allK_upto hk
  rw [← upto_data] at hu
  have hus : (s.extract 0 j).size ≤ 60000 := by
    rw [Lib.size_eq, upto_data, List.length_take]; omega
  obtain ⟨n, hn⟩ : ∃ n, us.length = n := ⟨_, rfl⟩
  have HU := Lib.hid hu
  have HK := Lib.hid hk
  have HN := Lib.hid hn
  have HS := Lib.hid hus
  clear hu hk hn hus
  rcases hx with rfl | rfl
  all_goals
    go_enter Tryd.func5, Tryd.ntmps5
    go_wp2_with fail
    refine (fixed_any _ hg).mono ?_
    rintro e w1 ⟨rfl, hb1⟩
    have hg1 := hg.below hb1 hpos
    have hs1 := hb1.size
    go_wp2_with fail
    refine (all_bad s j _ _ (by omega) hg1 HK.out).mono ?_
    rintro e w2 ⟨rfl, hb2⟩
    have hg2 := hg1.below hb2 (by omega)
    have hB2 := hb1.trans (hb2.mono hs1)
    have hs2 := hb2.size
    clear hb1 hb2 hg1
    have hmm : (max (0 : Int) (min (j : Int) (s.size : Int))).toNat = j := by omega
    have HM := Lib.hid hmm
    clear hmm
    go_wp2_with fail
    rw [HM.out]
    refine (all_row (s.extract 0 j) us n HN.out _ HS.out hg2 HU.out).mono ?_
    rintro e w3 ⟨A3, c3, rfl, _, hb3⟩
    have hB3 := hB2.trans (hb3.mono (by omega))
    clear hB2 hb3 hg2
    go_wp2_with fail
    go_ret
    exact ⟨ret_bool (by first | rfl | (simp; omega)), hB3⟩

theorem blank_val {d : UInt8} (h : blkR (d.toNat : Int) = true) : d = 32 ∨ d = 10 ∨ d = 9 := by
  simp only [blkR, Bool.or_eq_true, beq_iff_eq] at h
  rcases h with (h | h) | h
  · exact .inl (UInt8.toNat_inj.1 (by simpa using Int.ofNat_inj.1 h))
  · exact .inr (.inl (UInt8.toNat_inj.1 (by simpa using Int.ofNat_inj.1 h)))
  · exact .inr (.inr (UInt8.toNat_inj.1 (by simpa using Int.ofNat_inj.1 h)))

set_option maxHeartbeats 4000000 in
set_option maxRecDepth 100000 in
theorem stands_ok (s : ByteArray) (w : World) (hg : Signs w) (h : s.size ≤ 2000) (ts : List Tok) (hk : allK s.data.toList = .ok ts) :
    Calls Tryd.prog 5 #[.string s] w fun e w' => e = .returned (.bool true) ∧ Below w.heap.size w w' := by
  have hpos := hg.pos
  obtain ⟨n, hn⟩ : ∃ n, ts.length = n := ⟨_, rfl⟩
  have hn2 : n ≤ 2000 := by have := (allK_places hk).2; rw [← Lib.size_eq] at this; omega
  have HL := Lib.hid (allK_lay hk)
  have HK := Lib.hid hk
  have HN := Lib.hid hn
  have HSZ := Lib.hid (Lib.size_eq s)
  have hn3 : n ≤ ts.length := by omega
  have hn4 : ts.length ≤ n := by omega
  clear hk hn
  go_enter Tryd.func5, Tryd.ntmps5
  go_wp2_with fail
  refine (fixed_any _ hg).mono ?_
  rintro e w1 ⟨rfl, hb1⟩
  have hg1 := hg.below hb1 hpos
  go_wp2_with fail
  refine (all_row s ts n HN.out _ (by omega) hg1 HK.out).mono ?_
  rintro e w2 ⟨A2, c2, rfl, hr2, hb2⟩
  have hB2 := hb1.trans (hb2.mono hb1.size)
  clear hb1 hb2 hg1 hg
  go_wp2_with fail
  go_loopw [9, 10] (fun a v wr => ∃ (i k q : Nat), i ≤ n ∧ v = .int .i64 i ∧ a = .int .i64 k ∧ wr = w2.drewN q ∧ Hid (Lay s.data.toList k (ts.drop i))) (fun _ v _ => n - (intOf v).toNat)
  case atStart => exact ⟨0, 0, 0, by omega, rfl, rfl, rfl, HL.out⟩
  case round =>
    obtain ⟨i, k, q, hi, rfl, rfl, rfl, HLay⟩ := hrel
    by_cases hlt : i < n
    · have hia : i < ts.length := by omega
      obtain ⟨g, o, hA, d0, d1, d2, d3⟩ := hr2.at_ hia
      subst hA
      have hlay := HLay.out
      rw [List.drop_eq_getElem_cons hia] at hlay
      obtain ⟨p, hp, hkp, hpl, htl, hbl, htx, hrest⟩ := hlay
      rw [← HSZ.out] at hpl
      rw [hp] at d3
      obtain ⟨tx, htxx⟩ : ∃ tx, tx = (ts[i]'hia).text := ⟨_, rfl⟩
      rw [← htxx] at d1 hpl htl htx hrest
      have HB := Lib.hid hbl
      have HTX := Lib.hid htx
      have HR := Lib.hid hrest
      clear hp hbl htx hrest htxx hr2
      have f1 : decide ((p : Int) < (k : Int)) = false := decide_eq_false (by omega)
      have f2 : decide ((s.size : Int) < (p : Int) + (tx.length : Int)) = false := decide_eq_false (by omega)
      have f3 : tx.isEmpty = false := by cases tx with | nil => simp at htl | cons _ _ => rfl
      have hw0 : (0 : Int) ≤ (i : Int) := by omega
      have hw1 : (i : Int) < (n : Int) := by omega
      have HWR := Lib.hid (IntWalk.i64_in ((p : Int) + (tx.length : Int)) (by omega))
      go_wp2_with fail
      have hwr := HWR.out
      go_quiet (fail)
      clear hwr
      have hcut : (s.extract p (p + tx.length)).toList = tx := by
        rw [data_list, Lib.extract_data, show p + tx.length - p = tx.length from by omega]
        exact HTX.out
      have HCUT := Lib.hid hcut
      clear hcut
      go_wp2_with fail
      go_loop [9] (fun v => ∃ m : Nat, k ≤ m ∧ m ≤ p ∧ v = .int .i64 m) (fun v => p - (intOf v).toNat)
      case atStart => exact ⟨k, by omega, by omega, rfl⟩
      case round =>
        obtain ⟨m, hkm, hmp, rfl⟩ := hrel
        by_cases hmlt : m < p
        · have hms : m < s.size := by omega
          have hml : m < s.data.toList.length := by rw [← HSZ.out]; exact hms
          obtain ⟨d, hd⟩ : ∃ d, d = s[m]'hms := ⟨_, rfl⟩
          have hdb := HB.out m hkm hmlt hml
          have hbb : s.data.toList[m]'hml = s[m]'hms := by simp [ByteArray.getElem_eq_getElem_data]
          rw [hbb, ← hd] at hdb
          clear hbb
          have hb0 : s[m]'hms = d := hd.symm
          clear hd
          have hd3 := blank_val hdb
          clear hdb
          rcases hd3 with rfl | rfl | rfl
          all_goals
            go_wp2_with fail
            go_round
            case rel => exact ⟨m + 1, by omega, by omega, by go_num⟩
            case measure => simp [intOf]; omega
        · obtain rfl : m = p := by omega
          have hcut := HCUT.out
          go_wp2_with fail
          have hwr := HWR.out
          go_quiet (fail)
          clear hwr hcut
          go_wp2_with fail
          go_roundw
          case rel => exact ⟨i + 1, m + tx.length, _, by omega, by go_num, by go_num, rfl, HR⟩
          case measure => simp [intOf]; omega
    · obtain rfl : i = n := by omega
      have hlay := HLay.out
      rw [List.drop_eq_nil_of_le (by omega)] at hlay
      obtain ⟨hkl, hbl⟩ := hlay
      rw [← HSZ.out] at hkl
      have HB := Lib.hid hbl
      clear hbl hr2
      go_wp2_with fail
      go_loop [9] (fun v => ∃ m : Nat, k ≤ m ∧ m ≤ s.size ∧ v = .int .i64 m) (fun v => s.size - (intOf v).toNat)
      case atStart => exact ⟨k, by omega, by omega, rfl⟩
      case round =>
        obtain ⟨m, hkm, hmp, rfl⟩ := hrel
        by_cases hms : m < s.size
        · have hml : m < s.data.toList.length := by rw [← HSZ.out]; exact hms
          obtain ⟨d, hd⟩ : ∃ d, d = s[m]'hms := ⟨_, rfl⟩
          have hdb := HB.out m hkm hml
          have hbb : s.data.toList[m]'hml = s[m]'hms := by simp [ByteArray.getElem_eq_getElem_data]
          rw [hbb, ← hd] at hdb
          clear hbb
          have hb0 : s[m]'hms = d := hd.symm
          clear hd
          have hd3 := blank_val hdb
          clear hdb
          rcases hd3 with rfl | rfl | rfl
          all_goals
            go_wp2_with fail
            go_round
            case rel => exact ⟨m + 1, by omega, by omega, by go_num⟩
            case measure => simp [intOf]; omega
        · go_wp2_with fail
          go_ret
          exact ⟨rfl, below_drewN hB2 q⟩
theorem lawStands_any (s : ByteArray) (w : World) (hg : Signs w) : Calls Tryd.prog 5 #[.string s] w fun e w' => e = .returned (.bool true) ∧ Below w.heap.size w w' := by
  by_cases h : 2000 < s.size
  · exact stands_big s w hg h
  · cases hk : allK s.data.toList with
    | ok ts => exact stands_ok s w hg (by omega) ts hk
    | error px =>
      obtain ⟨p, x⟩ := px
      obtain ⟨j, rfl, hj⟩ := allK_place hk
      rw [← Lib.size_eq] at hj
      exact stands_bad s w hg (by omega) j x hj (err_code hk) hk
end Lx
end Go.Proofs.YthfchcnmedklbaaDoor
