/-
  Texts that lie one behind the other: NlB.
-/
import Derived.Test.YtlamjjkcbadibaaC1
namespace Go.Proofs.Ytlamjjkcbadibaa
open Go.RowKit
namespace Lx
set_option maxRecDepth 100000
set_option maxHeartbeats 4000000 in
theorem rnode_any (x : Nd) (B C : Option Addr) (b c : Nat) (w : World) (hI : NdIn w AnyB x B C) : Calls Try.prog 14 #[ndv x B b C c] w fun e w' => e = .returned (.bool (nodeV x)) ∧ Below w.heap.size w w' := by
  obtain ⟨k, lv, n, s, al, tp⟩ := x
  obtain ⟨⟨hs, hal, hto⟩, hA, _⟩ := hI
  simp only at hs hal hto hA
  obtain ⟨w1, hw1⟩ : ∃ w1, w1 = (w.alloc (.cells #[.int .i64 k, .int .i64 lv, .int .i64 n, .string s, .slice B al.length (capN al.length b), .slice C tp.length (capN tp.length c)] 25)) := ⟨_, rfl⟩
  have hb : Below w.heap.size w w1 := by rw [hw1]; exact (Below.refl _ w).alloc (Nat.le_refl _) _
  have L : Lies w1 w.heap.size 25 #[.int .i64 k, .int .i64 lv, .int .i64 n, .string s, .slice B al.length (capN al.length b), .slice C tp.length (capN tp.length c)] := by rw [hw1]; exact Lies.new _ _ _
  have c0 := L.cell 0
  have c1 := L.cell 1
  have c2 := L.cell 2
  have c3 := L.cell 3
  have c4 := L.cell 4
  have c5 := L.cell 5
  simp at c0 c1 c2 c3 c4 c5
  rw [nodeV_eq]
  unfold ndv
  go_enter Try.func14, Try.ntmps14
  go_upto_region 1 with fail
  rw [← hw1]
  clear hw1
  generalize hV : Value.agg #[.int .i64 k, .int .i64 lv, .int .i64 n, .string s, .slice B al.length (capN al.length b), .slice C tp.length (capN tp.length c)] = V0
  clear hV
  have hse : s.toList.isEmpty = decide (s = ⟨#[]⟩) := empty_dec s
  go_cut [32] from 5 to 32 (fun v wx => v = .bool (n1 k lv) ∧ w1 = wx)
  case first =>
    go_wp2_with fail
    all_goals
      go_meet
      refine ⟨?_, rfl⟩
      refine congrArg Value.bool ?_
      rw [Bool.eq_iff_iff]
      simp only [n1, Bool.or_eq_true, decide_eq_true_eq, true_iff]
      first | omega | (simp only [decide_eq_true_eq, decide_eq_false_iff_not] at *; omega)
  case rest =>
    obtain ⟨rfl, rfl⟩ := hcut
    cases h1 : n1 k lv with
    | true =>
      go_wp2_with fail
      go_ret
      exact ⟨rfl, hb⟩
    | false =>
      have H1 := Lib.hid h1
      clear h1
      go_upto_region 3 with fail
      go_cut [64] from 33 to 64 (fun v wx => v = .bool (n3 k n s) ∧ w1 = wx)
      case first =>
        go_wp2_with fail
        all_goals
          go_meet
          refine ⟨?_, rfl⟩
          refine congrArg Value.bool ?_
          clear c0 c1 c2 c3 c4 c5 L hA
          go_light
          grind [n3, hasNameK, hasNumK]
      case rest =>
        obtain ⟨rfl, rfl⟩ := hcut
        cases h3 : n3 k n s with
        | true =>
          go_wp2_with fail
          go_ret
          exact ⟨rfl, hb⟩
        | false =>
          have H3 := Lib.hid h3
          clear h3
          go_upto_region 5 with fail
          go_cut [107] from 65 to 107 (fun v wx => v = .bool (n5 k al.length tp.length) ∧ w1 = wx)
          case first =>
            go_wp2_with fail
            all_goals
              go_meet
              refine ⟨?_, rfl⟩
              clear c0 c1 c2 c3 c4 c5 L hA
              go_light
              first | (refine congrArg Value.bool ?_; grind [n5]) | (exfalso; grind)
          case rest =>
            obtain ⟨rfl, rfl⟩ := hcut
            cases h5 : n5 k al.length tp.length with
            | true =>
              go_wp2_with fail
              go_ret
              exact ⟨rfl, hb⟩
            | false =>
              have H5 := Lib.hid h5
              clear h5
              have HA := Lib.hid hA

              clear hA hs hto
              go_wp2_with fail
              go_loopw [3] (fun x wr => ∃ i : Nat, i ≤ al.length ∧ x = .int .i64 i ∧ Hid (altsFrom [] al = altsFrom (al.take i) (al.drop i)) ∧ Below w1.heap.size w1 wr) (fun x _ => al.length - (intOf x).toNat)
              case atStart => exact ⟨0, Nat.zero_le _, rfl, Lib.hid (by simp), Below.refl _ _⟩
              case round =>
                rename World => wo
                obtain ⟨i, hi, rfl, hR, hbr⟩ := hrel
                have hw1s := ncell_lt c4
                have e4 := (hbr.cell (p := ⟨w.heap.size, 4, none⟩) hw1s).trans c4
                by_cases hlt : i < al.length
                · obtain ⟨g, o, ⟨rfl, _⟩, d0, d1, _⟩ := HA.out i hlt
                  have hgw := ncell_lt d0
                  have hb2 : Below w.heap.size w wo := hb.trans (hbr.mono hb.size)
                  replace d0 := (hb2.cell (p := ⟨g, o + i * 2, none⟩) hgw).trans d0
                  replace d1 := (hb2.cell (p := ⟨g, o + i * 2 + 1, none⟩) hgw).trans d1
                  obtain ⟨a, ha⟩ : ∃ a, a = al[i]'hlt := ⟨_, rfl⟩
                  rw [← ha] at d0 d1
                  have Ha := Lib.hid ha
                  obtain ⟨an, aN⟩ := a
                  simp only at d0 d1
                  have hsa : an.toList.isEmpty = decide (an = ⟨#[]⟩) := empty_dec an
                  clear ha
                  go_upto_region 10 with fail
                  go_cut [139] from 108 to 157 (fun v wx => v = .bool (!altOne (an, aN)) ∧ wo = wx)
                  case first =>
                    go_wp2_with fail
                    all_goals
                      go_meet
                      refine ⟨?_, rfl⟩
                      clear c0 c1 c2 c3 c4 c5 e4 d0 d1 L HA Ha hR
                      go_light
                      refine congrArg Value.bool ?_
                      grind [altOne]
                  case rest =>
                    obtain ⟨rfl, rfl⟩ := hcut
                    cases h9 : altOne (an, aN) with
                    | false =>
                      go_wp2_with fail
                      go_ret
                      refine ⟨nret_bool ?_, hb2⟩
                      rw [hR.out, List.drop_eq_getElem_cons hlt, altsFrom, ← Ha.out, h9]
                      simp
                    | true =>
                      have H9 := Lib.hid h9
                      clear h9
                      go_wp2_with fail
                      go_loopw [4] (fun x wr => ∃ j : Nat, j ≤ i ∧ x = .int .i64 j ∧ Hid (twinIn an (al.take j) = false) ∧ Below wo.heap.size wo wr) (fun x _ => i - (intOf x).toNat)
                      case atStart => exact ⟨0, Nat.zero_le _, rfl, Lib.hid (by simp [twinIn]), Below.refl _ _⟩
                      case round =>
                        obtain ⟨j, hj, rfl, hW, hbj⟩ := hrel
                        have hwrs := ncell_lt e4
                        have f4 := (hbj.cell (p := ⟨w.heap.size, 4, none⟩) hwrs).trans e4
                        by_cases hlt2 : j < i
                        · obtain ⟨g', o', hgo, q0, q1, _⟩ := HA.out j (by omega)
                          cases hgo.1
                          have hgw' := ncell_lt q0
                          have hb3 : Below w.heap.size w wr := hb2.trans (hbj.mono hb2.size)
                          replace q0 := (hb3.cell (p := ⟨g, o + j * 2, none⟩) hgw').trans q0
                          have dd0 := (hbj.cell (p := ⟨g, o + i * 2, none⟩) (ncell_lt d0)).trans d0
                          obtain ⟨bn, hbn⟩ : ∃ bn, bn = (al[j]'(by omega)).1 := ⟨_, rfl⟩
                          rw [← hbn] at q0
                          have Hbn := Lib.hid hbn
                          have hjl : j < al.length := by omega
                          have hq := strN_q bn an
                          clear hbn q1 hgw'
                          go_upto_region 15 with fail
                          cases hE : decide (bn = an) with
                          | true =>
                            rw [hE] at hq
                            go_region
                            all_goals
                              go_wp2_with fail
                              go_ret
                              refine ⟨nret_bool ?_, hb3.drew⟩
                              have h6 : twinIn an (al.take i) = true := by
                                rw [twinIn, List.any_eq_true]
                                exact ⟨al[j]'hjl, List.mem_take_iff_getElem.2 ⟨j, by omega, rfl⟩, by rw [← Hbn.out]; exact hE⟩
                              rw [hR.out, List.drop_eq_getElem_cons hlt, altsFrom, ← Ha.out, h6]
                              simp
                          | false =>
                            rw [hE] at hq
                            go_region
                            all_goals
                              go_wp2_with fail
                              go_roundw
                              case rel =>
                                go_light
                                refine ⟨j + 1, by omega, by go_num, Lib.hid ?_, hbj.drew⟩
                                rw [List.take_succ_eq_append_getElem hjl, twinIn, List.any_append]
                                have h7 : (al.take j).any (fun b => decide (b.1 = an)) = false := hW.out
                                rw [h7]
                                simp [← Hbn.out]
                                exact of_decide_eq_false hE
                              case measure => simp [intOf]; omega
                        · go_wp2_with fail
                          go_roundw
                          case rel =>
                            go_light
                            have hji : j = i := by omega
                            subst hji
                            refine ⟨j + 1, by omega, by go_num, Lib.hid ?_, hbr.trans (hbj.mono hbr.size)⟩
                            have hjl : j < al.length := hlt
                            rw [hR.out, List.drop_eq_getElem_cons hlt, altsFrom, List.take_succ_eq_append_getElem hlt, ← Ha.out, H9.out, hW.out]
                            simp
                          case measure => simp [intOf]; omega
                · go_wp2_with fail
                  go_ret
                  refine ⟨nret_bool ?_, hb.trans (hbr.mono hb.size)⟩
                  rw [H1.out, H3.out, H5.out, hR.out, List.drop_eq_nil_of_le (by omega), altsFrom]
                  rfl
end Lx
end Go.Proofs.Ytlamjjkcbadibaa
