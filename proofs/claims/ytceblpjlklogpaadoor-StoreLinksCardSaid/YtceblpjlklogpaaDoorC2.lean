/-
  Texts that lie one behind the other: NlE NlF NlG NlH NlI.
-/
import Derived.Test.YtceblpjlklogpaaDoorC1
import Derived.Laws.StructEq
namespace Go.Proofs.YtceblpjlklogpaaDoor
open Go.RowKit
namespace Lx
set_option maxRecDepth 100000
theorem n1_most (k l : Int) : n1 k l = (!decide (0 ≤ k ∧ k < 14) || (decide (l < 0) || decide ((if k = 0 ∨ k = 1 then (0 : Int) else 60) < l))) := by
  rw [Bool.eq_iff_iff]
  simp only [n1, Bool.or_eq_true, Bool.not_eq_true', decide_eq_true_eq, decide_eq_false_iff_not]
  split <;> omega
theorem n3_is (k n : Int) (s : ByteArray) : n3 k n s = ((!decide (s = ⟨#[]⟩)) != hasNameK k || (!(n == 0) && !hasNumK k)) := by
  rw [Bool.eq_iff_iff]
  simp [n3]
theorem end9 (al : List (ByteArray × Int)) (tp : List (Int × Int)) : (decide (1 ≤ al.length ∧ al.length ≤ 8) && altsFrom [] al) = (!n5 9 al.length tp.length && altsFrom [] al) := by
  congr 1
  grind [n5]
theorem end8 (tp : List (Int × Int)) (h : decide (1 ≤ (tp.length : Int)) = true) : decide ((tp.length : Int) ≤ 9) = (!n5 8 0 tp.length && altsFrom [] []) := by
  have := of_decide_eq_true h
  grind [n5, altsFrom]
theorem end8f (al : List (ByteArray × Int)) (tp : List (Int × Int)) (h : decide (1 ≤ (tp.length : Int)) = false) : false = (!n5 8 al.length tp.length && altsFrom [] al) := by
  have := of_decide_eq_false h
  have h1 : n5 8 al.length tp.length = true := by
    grind [n5]
  rw [h1]
  rfl
theorem end8a (al : List (ByteArray × Int)) (tp : List (Int × Int)) (h : ¬ al.length = 0) : false = (!n5 8 al.length tp.length && altsFrom [] al) := by
  have h1 : n5 8 al.length tp.length = true := by
    grind [n5]
  rw [h1]
  rfl
theorem endk (k : Int) (al : List (ByteArray × Int)) (tp : List (Int × Int)) (h8 : ¬ k = 8) (h9 : ¬ k = 9) : ((al.length : Int) == 0) = (!n5 k al.length tp.length && altsFrom [] al) := by
  cases al with
  | nil =>
    have h1 : n5 k 0 tp.length = false := by
      grind [n5]
    simp only [List.length_nil]
    rw [h1]
    rfl
  | cons a r =>
    have h1 : n5 k (a :: r).length tp.length = true := by
      grind [n5]
    rw [h1]
    simp
    omega
set_option maxHeartbeats 8000000 in
theorem mayIf_any (x : Nd) (B C : Option Addr) (b c : Nat) (w : World) (hI : NdIn w AnyB x B C) : Calls Tryd.prog 26 #[ndv x B b C c] w fun e w' => e = .returned (.bool (nodeV x)) ∧ Below w.heap.size w w' := by
  obtain ⟨k, lv, n, s, al, tp⟩ := x
  obtain ⟨⟨hs, hal, hto⟩, hA, _⟩ := hI
  simp only at hs hal hto hA
  obtain ⟨w1, hw1⟩ : ∃ w1, w1 = (w.alloc (.cells #[.int .i64 k, .int .i64 lv, .int .i64 n, .string s, .slice B al.length (capN al.length b), .slice C tp.length (capN tp.length c)] 28)) := ⟨_, rfl⟩
  have hb : Below w.heap.size w w1 := by rw [hw1]; exact (Below.refl _ w).alloc (Nat.le_refl _) _
  have L : Lies w1 w.heap.size 28 #[.int .i64 k, .int .i64 lv, .int .i64 n, .string s, .slice B al.length (capN al.length b), .slice C tp.length (capN tp.length c)] := by rw [hw1]; exact Lies.new _ _ _
  have c0 := L.cell 0
  have c1 := L.cell 1
  have c2 := L.cell 2
  have c3 := L.cell 3
  have c4 := L.cell 4
  have c5 := L.cell 5
  simp at c0 c1 c2 c3 c4 c5
  have q0 := Abv.cell c0
  have q1 := Abv.cell c1
  have q2 := Abv.cell c2
  have q3 := Abv.cell c3
  rw [nodeV_eq, n1_most, n3_is]
  obtain ⟨ml, hml⟩ : ∃ ml : Int, ml = (if k = 0 ∨ k = 1 then (0 : Int) else 60) := ⟨_, rfl⟩
  rw [← hml]
  obtain ⟨β, hβ⟩ : ∃ β, β = (!(!decide (0 ≤ k ∧ k < 14) || (decide (lv < 0) || decide (ml < lv))) && (!((!decide (s = ⟨#[]⟩)) != hasNameK k || (!(n == 0) && !hasNumK k)) && (!n5 k al.length tp.length && altsFrom [] al))) := ⟨_, rfl⟩
  rw [← hβ]
  have HB := Lib.hid hβ
  clear hβ
  unfold ndv
  go_enter Tryd.func26, Tryd.ntmps26
  go_upto_region 1 with fail
  rw [← hw1]
  clear hw1
  generalize hV : Value.agg #[.int .i64 k, .int .i64 lv, .int .i64 n, .string s, .slice B al.length (capN al.length b), .slice C tp.length (capN tp.length c)] = V0
  clear hV
  have hse : s.toList.isEmpty = decide (s = ⟨#[]⟩) := empty_dec s
  have hK := fun V : Abv w1 => isKind_any k V.1
  have hM := fun V : Abv w1 => mostLevel_any k V.1
  rw [← hml] at hM
  clear hml
  have q4 := Abv.cell c4
  have q5 := Abv.cell c5
  clear c0 c1 c2 c3 c4 c5
  cases h1 : decide (0 ≤ k ∧ k < 14) with
  | false =>
    rw [h1] at hK
    refine region_calm (by kernel_rfl) (by kernel_rfl) ?_
    repeat (go_big_quiet_step (first | exact calm_same (hK _) | exact calm_same (hM _)))
    refine wpQuiet_nil ?_
    rintro _ ⟨V, rfl⟩
    go_wp2_with fail
    go_ret
    exact ⟨nret_bool (by rw [HB.out]; simp [h1]), hb.trans (V.2.mono hb.size)⟩
  | true =>
    rw [h1] at hK
    cases h2 : decide (lv < 0) with
    | true =>
      refine region_calm (by kernel_rfl) (by kernel_rfl) ?_
      repeat (go_big_quiet_step (first | exact calm_same (hK _) | exact calm_same (hM _)))
      refine wpQuiet_nil ?_
      rintro _ ⟨V, rfl⟩
      go_wp2_with fail
      go_ret
      exact ⟨nret_bool (by rw [HB.out]; simp [h1, h2]), hb.trans (V.2.mono hb.size)⟩
    | false =>
      cases h3 : decide (ml < lv) with
      | true =>
        refine region_calm (by kernel_rfl) (by kernel_rfl) ?_
        repeat (go_big_quiet_step (first | exact calm_same (hK _) | exact calm_same (hM _)))
        refine wpQuiet_nil ?_
        rintro _ ⟨V, rfl⟩
        go_wp2_with fail
        go_ret
        exact ⟨nret_bool (by rw [HB.out]; simp [h1, h2, h3]), hb.trans (V.2.mono hb.size)⟩
      | false =>
        refine region_calm (by kernel_rfl) (by kernel_rfl) ?_
        repeat (go_big_quiet_step (first | exact calm_same (hK _) | exact calm_same (hM _)))
        refine wpQuiet_nil ?_
        rintro _ ⟨V, rfl⟩
        have H1 := Lib.hid h1
        clear h1
        have H2 := Lib.hid h2
        clear h2
        have H3 := Lib.hid h3
        clear h3
        clear hK hM
        go_upto_region 3 with fail
        have p0 := q0 V
        have p1 := q1 V
        have p2 := q2 V
        have p3 := q3 V
        have p4 := q4 V
        have p5 := q5 V
        have hb1 := hb.trans (V.2.mono hb.size)
        have hA1 : AltIn V.1 AnyB al B := hA.below hb1 (Nat.le_refl _)
        obtain ⟨W, hW⟩ : ∃ W, W = V.1 := ⟨_, rfl⟩
        rw [← hW] at p0 p1 p2 p3 p4 p5 hb1 hA1 ⊢
        clear hW V q0 q1 q2 q3 q4 q5
        have q0 := Abv.cell p0
        have q1 := Abv.cell p1
        have q2 := Abv.cell p2
        have q3 := Abv.cell p3
        have q4 := Abv.cell p4
        have q5 := Abv.cell p5
        have hN := fun V : Abv W => hasName_any k V.1
        have hU := fun V : Abv W => hasNumber_any k V.1
        clear p0 p1 p2 p3 p4 p5
        cases h4 : hasNameK k with
        | false =>
          rw [h4] at hN
          cases h5 : decide (s = ⟨#[]⟩) with
          | false =>
            rw [h5] at hse
            refine region_calm (by kernel_rfl) (by kernel_rfl) ?_
            repeat (go_big_quiet_step (first | exact calm_same (hN _) | exact calm_same (hU _)))
            refine wpQuiet_nil ?_
            rintro _ ⟨V2, rfl⟩
            go_wp2_with fail
            go_ret
            exact ⟨nret_bool (by rw [HB.out]; simp [H1.out, H2.out, H3.out, h4, h5]), hb1.trans (V2.2.mono hb1.size)⟩
          | true =>
            rw [h5] at hse
            cases h6 : (n == 0) with
            | true =>
              have h6b : (n != 0) = false := by simp [bne, h6]
              refine region_calm (by kernel_rfl) (by kernel_rfl) ?_
              repeat (go_big_quiet_step (first | exact calm_same (hN _) | exact calm_same (hU _)))
              refine wpQuiet_nil ?_
              rintro _ ⟨V2, rfl⟩
              have H4 := Lib.hid h4
              clear h4
              have H5 := Lib.hid h5
              clear h5
              have H6 := Lib.hid h6
              clear h6
              clear h6b
              have p0 := q0 V2
              have p4 := q4 V2
              have p5 := q5 V2
              have hb2 := hb1.trans (V2.2.mono hb1.size)
              have hA2 : AltIn V2.1 AnyB al B := hA1.below (V2.2) (Nat.le_refl _)
              clear q0 q1 q2 q3 q4 q5 hN hU
              have p00 := V2.2
              obtain ⟨W2, hW2⟩ : ∃ W2, W2 = V2.1 := ⟨_, rfl⟩
              rw [← hW2] at p0 p4 p5 hb2 hA2 ⊢
              clear hW2 p00 V2
              by_cases k9 : k = 9
              · subst k9
                have HC := Lib.hid (altsMay_any al B al.length (capN al.length b) W2 rfl hal (le_capN _ _) hA2)
                clear hA hA1 hA2
                go_wp2_with fail
                refine HC.out.mono ?_
                rintro e w3 ⟨rfl, hb3⟩
                go_wp2_with fail
                go_ret
                refine ⟨nret_bool ?_, hb2.trans (hb3.mono hb2.size)⟩
                rw [HB.out, H1.out, H2.out, H3.out, H4.out, H5.out, H6.out]
                exact (by rw [Bool.decide_and] : _ = (decide (1 ≤ al.length ∧ al.length ≤ 8) && altsFrom [] al)).trans (end9 al tp)
              · have k9' : (k == 9) = false := by simpa using k9
                by_cases k8 : k = 8
                · subst k8
                  by_cases a0 : al.length = 0
                  · have a0' : ((al.length : Int) == 0) = true := by simp [a0]
                    have a1 := List.eq_nil_of_length_eq_zero a0
                    cases t1 : decide (1 ≤ (tp.length : Int)) with
                    | true =>
                      clear a0
                      go_wp2_with fail
                      go_ret
                      refine ⟨nret_bool ?_, hb2⟩
                      rw [HB.out, H1.out, H2.out, H3.out, H4.out, H5.out, H6.out]
                      subst a1
                      exact end8 tp t1
                    | false =>
                      clear a0
                      go_wp2_with fail
                      go_ret
                      refine ⟨nret_bool ?_, hb2⟩
                      rw [HB.out, H1.out, H2.out, H3.out, H4.out, H5.out, H6.out]
                      exact end8f al tp t1
                  · have a0' : ((al.length : Int) == 0) = false := by simp; intro e; exact a0 (by simp [e])
                    go_wp2_with fail
                    go_ret
                    refine ⟨nret_bool ?_, hb2⟩
                    rw [HB.out, H1.out, H2.out, H3.out, H4.out, H5.out, H6.out]
                    exact end8a al tp a0
                · have k8' : (k == 8) = false := by simpa using k8
                  go_wp2_with fail
                  go_ret
                  refine ⟨nret_bool ?_, hb2⟩
                  rw [HB.out, H1.out, H2.out, H3.out, H4.out, H5.out, H6.out]
                  exact endk k al tp k8 k9
            | false =>
              have h6b : (n != 0) = true := by simp [bne, h6]
              cases h7 : hasNumK k with
              | false =>
                rw [h7] at hU
                refine region_calm (by kernel_rfl) (by kernel_rfl) ?_
                repeat (go_big_quiet_step (first | exact calm_same (hN _) | exact calm_same (hU _)))
                refine wpQuiet_nil ?_
                rintro _ ⟨V2, rfl⟩
                go_wp2_with fail
                go_ret
                exact ⟨nret_bool (by rw [HB.out]; simp [H1.out, H2.out, H3.out, h4, h5, h6, h7]), hb1.trans (V2.2.mono hb1.size)⟩
              | true =>
                rw [h7] at hU
                refine region_calm (by kernel_rfl) (by kernel_rfl) ?_
                repeat (go_big_quiet_step (first | exact calm_same (hN _) | exact calm_same (hU _)))
                refine wpQuiet_nil ?_
                rintro _ ⟨V2, rfl⟩
                have H4 := Lib.hid h4
                clear h4
                have H5 := Lib.hid h5
                clear h5
                have H6 := Lib.hid h6
                clear h6
                have H7 := Lib.hid h7
                clear h7
                clear h6b
                have p0 := q0 V2
                have p4 := q4 V2
                have p5 := q5 V2
                have hb2 := hb1.trans (V2.2.mono hb1.size)
                have hA2 : AltIn V2.1 AnyB al B := hA1.below (V2.2) (Nat.le_refl _)
                clear q0 q1 q2 q3 q4 q5 hN hU
                have p00 := V2.2
                obtain ⟨W2, hW2⟩ : ∃ W2, W2 = V2.1 := ⟨_, rfl⟩
                rw [← hW2] at p0 p4 p5 hb2 hA2 ⊢
                clear hW2 p00 V2
                by_cases k9 : k = 9
                · subst k9
                  have HC := Lib.hid (altsMay_any al B al.length (capN al.length b) W2 rfl hal (le_capN _ _) hA2)
                  clear hA hA1 hA2
                  go_wp2_with fail
                  refine HC.out.mono ?_
                  rintro e w3 ⟨rfl, hb3⟩
                  go_wp2_with fail
                  go_ret
                  refine ⟨nret_bool ?_, hb2.trans (hb3.mono hb2.size)⟩
                  rw [HB.out, H1.out, H2.out, H3.out, H4.out, H5.out, H6.out, H7.out]
                  exact (by rw [Bool.decide_and] : _ = (decide (1 ≤ al.length ∧ al.length ≤ 8) && altsFrom [] al)).trans (end9 al tp)
                · have k9' : (k == 9) = false := by simpa using k9
                  by_cases k8 : k = 8
                  · subst k8
                    by_cases a0 : al.length = 0
                    · have a0' : ((al.length : Int) == 0) = true := by simp [a0]
                      have a1 := List.eq_nil_of_length_eq_zero a0
                      cases t1 : decide (1 ≤ (tp.length : Int)) with
                      | true =>
                        clear a0
                        go_wp2_with fail
                        go_ret
                        refine ⟨nret_bool ?_, hb2⟩
                        rw [HB.out, H1.out, H2.out, H3.out, H4.out, H5.out, H6.out, H7.out]
                        subst a1
                        exact end8 tp t1
                      | false =>
                        clear a0
                        go_wp2_with fail
                        go_ret
                        refine ⟨nret_bool ?_, hb2⟩
                        rw [HB.out, H1.out, H2.out, H3.out, H4.out, H5.out, H6.out, H7.out]
                        exact end8f al tp t1
                    · have a0' : ((al.length : Int) == 0) = false := by simp; intro e; exact a0 (by simp [e])
                      go_wp2_with fail
                      go_ret
                      refine ⟨nret_bool ?_, hb2⟩
                      rw [HB.out, H1.out, H2.out, H3.out, H4.out, H5.out, H6.out, H7.out]
                      exact end8a al tp a0
                  · have k8' : (k == 8) = false := by simpa using k8
                    go_wp2_with fail
                    go_ret
                    refine ⟨nret_bool ?_, hb2⟩
                    rw [HB.out, H1.out, H2.out, H3.out, H4.out, H5.out, H6.out, H7.out]
                    exact endk k al tp k8 k9
        | true =>
          rw [h4] at hN
          cases h5 : decide (s = ⟨#[]⟩) with
          | true =>
            rw [h5] at hse
            refine region_calm (by kernel_rfl) (by kernel_rfl) ?_
            repeat (go_big_quiet_step (first | exact calm_same (hN _) | exact calm_same (hU _)))
            refine wpQuiet_nil ?_
            rintro _ ⟨V2, rfl⟩
            go_wp2_with fail
            go_ret
            exact ⟨nret_bool (by rw [HB.out]; simp [H1.out, H2.out, H3.out, h4, h5]), hb1.trans (V2.2.mono hb1.size)⟩
          | false =>
            rw [h5] at hse
            cases h6 : (n == 0) with
            | true =>
              have h6b : (n != 0) = false := by simp [bne, h6]
              refine region_calm (by kernel_rfl) (by kernel_rfl) ?_
              repeat (go_big_quiet_step (first | exact calm_same (hN _) | exact calm_same (hU _)))
              refine wpQuiet_nil ?_
              rintro _ ⟨V2, rfl⟩
              have H4 := Lib.hid h4
              clear h4
              have H5 := Lib.hid h5
              clear h5
              have H6 := Lib.hid h6
              clear h6
              clear h6b
              have p0 := q0 V2
              have p4 := q4 V2
              have p5 := q5 V2
              have hb2 := hb1.trans (V2.2.mono hb1.size)
              have hA2 : AltIn V2.1 AnyB al B := hA1.below (V2.2) (Nat.le_refl _)
              clear q0 q1 q2 q3 q4 q5 hN hU
              have p00 := V2.2
              obtain ⟨W2, hW2⟩ : ∃ W2, W2 = V2.1 := ⟨_, rfl⟩
              rw [← hW2] at p0 p4 p5 hb2 hA2 ⊢
              clear hW2 p00 V2
              by_cases k9 : k = 9
              · subst k9
                have HC := Lib.hid (altsMay_any al B al.length (capN al.length b) W2 rfl hal (le_capN _ _) hA2)
                clear hA hA1 hA2
                go_wp2_with fail
                refine HC.out.mono ?_
                rintro e w3 ⟨rfl, hb3⟩
                go_wp2_with fail
                go_ret
                refine ⟨nret_bool ?_, hb2.trans (hb3.mono hb2.size)⟩
                rw [HB.out, H1.out, H2.out, H3.out, H4.out, H5.out, H6.out]
                exact (by rw [Bool.decide_and] : _ = (decide (1 ≤ al.length ∧ al.length ≤ 8) && altsFrom [] al)).trans (end9 al tp)
              · have k9' : (k == 9) = false := by simpa using k9
                by_cases k8 : k = 8
                · subst k8
                  by_cases a0 : al.length = 0
                  · have a0' : ((al.length : Int) == 0) = true := by simp [a0]
                    have a1 := List.eq_nil_of_length_eq_zero a0
                    cases t1 : decide (1 ≤ (tp.length : Int)) with
                    | true =>
                      clear a0
                      go_wp2_with fail
                      go_ret
                      refine ⟨nret_bool ?_, hb2⟩
                      rw [HB.out, H1.out, H2.out, H3.out, H4.out, H5.out, H6.out]
                      subst a1
                      exact end8 tp t1
                    | false =>
                      clear a0
                      go_wp2_with fail
                      go_ret
                      refine ⟨nret_bool ?_, hb2⟩
                      rw [HB.out, H1.out, H2.out, H3.out, H4.out, H5.out, H6.out]
                      exact end8f al tp t1
                  · have a0' : ((al.length : Int) == 0) = false := by simp; intro e; exact a0 (by simp [e])
                    go_wp2_with fail
                    go_ret
                    refine ⟨nret_bool ?_, hb2⟩
                    rw [HB.out, H1.out, H2.out, H3.out, H4.out, H5.out, H6.out]
                    exact end8a al tp a0
                · have k8' : (k == 8) = false := by simpa using k8
                  go_wp2_with fail
                  go_ret
                  refine ⟨nret_bool ?_, hb2⟩
                  rw [HB.out, H1.out, H2.out, H3.out, H4.out, H5.out, H6.out]
                  exact endk k al tp k8 k9
            | false =>
              have h6b : (n != 0) = true := by simp [bne, h6]
              cases h7 : hasNumK k with
              | false =>
                rw [h7] at hU
                refine region_calm (by kernel_rfl) (by kernel_rfl) ?_
                repeat (go_big_quiet_step (first | exact calm_same (hN _) | exact calm_same (hU _)))
                refine wpQuiet_nil ?_
                rintro _ ⟨V2, rfl⟩
                go_wp2_with fail
                go_ret
                exact ⟨nret_bool (by rw [HB.out]; simp [H1.out, H2.out, H3.out, h4, h5, h6, h7]), hb1.trans (V2.2.mono hb1.size)⟩
              | true =>
                rw [h7] at hU
                refine region_calm (by kernel_rfl) (by kernel_rfl) ?_
                repeat (go_big_quiet_step (first | exact calm_same (hN _) | exact calm_same (hU _)))
                refine wpQuiet_nil ?_
                rintro _ ⟨V2, rfl⟩
                have H4 := Lib.hid h4
                clear h4
                have H5 := Lib.hid h5
                clear h5
                have H6 := Lib.hid h6
                clear h6
                have H7 := Lib.hid h7
                clear h7
                clear h6b
                have p0 := q0 V2
                have p4 := q4 V2
                have p5 := q5 V2
                have hb2 := hb1.trans (V2.2.mono hb1.size)
                have hA2 : AltIn V2.1 AnyB al B := hA1.below (V2.2) (Nat.le_refl _)
                clear q0 q1 q2 q3 q4 q5 hN hU
                have p00 := V2.2
                obtain ⟨W2, hW2⟩ : ∃ W2, W2 = V2.1 := ⟨_, rfl⟩
                rw [← hW2] at p0 p4 p5 hb2 hA2 ⊢
                clear hW2 p00 V2
                by_cases k9 : k = 9
                · subst k9
                  have HC := Lib.hid (altsMay_any al B al.length (capN al.length b) W2 rfl hal (le_capN _ _) hA2)
                  clear hA hA1 hA2
                  go_wp2_with fail
                  refine HC.out.mono ?_
                  rintro e w3 ⟨rfl, hb3⟩
                  go_wp2_with fail
                  go_ret
                  refine ⟨nret_bool ?_, hb2.trans (hb3.mono hb2.size)⟩
                  rw [HB.out, H1.out, H2.out, H3.out, H4.out, H5.out, H6.out, H7.out]
                  exact (by rw [Bool.decide_and] : _ = (decide (1 ≤ al.length ∧ al.length ≤ 8) && altsFrom [] al)).trans (end9 al tp)
                · have k9' : (k == 9) = false := by simpa using k9
                  by_cases k8 : k = 8
                  · subst k8
                    by_cases a0 : al.length = 0
                    · have a0' : ((al.length : Int) == 0) = true := by simp [a0]
                      have a1 := List.eq_nil_of_length_eq_zero a0
                      cases t1 : decide (1 ≤ (tp.length : Int)) with
                      | true =>
                        clear a0
                        go_wp2_with fail
                        go_ret
                        refine ⟨nret_bool ?_, hb2⟩
                        rw [HB.out, H1.out, H2.out, H3.out, H4.out, H5.out, H6.out, H7.out]
                        subst a1
                        exact end8 tp t1
                      | false =>
                        clear a0
                        go_wp2_with fail
                        go_ret
                        refine ⟨nret_bool ?_, hb2⟩
                        rw [HB.out, H1.out, H2.out, H3.out, H4.out, H5.out, H6.out, H7.out]
                        exact end8f al tp t1
                    · have a0' : ((al.length : Int) == 0) = false := by simp; intro e; exact a0 (by simp [e])
                      go_wp2_with fail
                      go_ret
                      refine ⟨nret_bool ?_, hb2⟩
                      rw [HB.out, H1.out, H2.out, H3.out, H4.out, H5.out, H6.out, H7.out]
                      exact end8a al tp a0
                  · have k8' : (k == 8) = false := by simpa using k8
                    go_wp2_with fail
                    go_ret
                    refine ⟨nret_bool ?_, hb2⟩
                    rw [HB.out, H1.out, H2.out, H3.out, H4.out, H5.out, H6.out, H7.out]
                    exact endk k al tp k8 k9
end Lx
end Go.Proofs.YtceblpjlklogpaaDoor
namespace Go.Proofs.YtceblpjlklogpaaDoor
open Go.RowKit
namespace Lx
set_option maxRecDepth 100000
/-- Node i of a row, as it lies. -/
theorem NdsIn.get {w : World} {X : Nat → Prop} {l : List Nd} {A : Option Addr} (h : NdsIn w X l A) (i : Nat) (hi : i < l.length) : ∃ (g o : Nat) (x : Nd) (B : Option Addr) (b : Nat) (C : Option Addr) (c : Nat), x = ndAt l i ∧ A = some ⟨g, o, none⟩ ∧ X g ∧
    (w.cell? ⟨g, o + i * 6, none⟩ = some (.int .i64 x.kind) ∧ w.cell? ⟨g, o + i * 6 + 1, none⟩ = some (.int .i64 x.level) ∧ w.cell? ⟨g, o + i * 6 + 2, none⟩ = some (.int .i64 x.n) ∧
    w.cell? ⟨g, o + i * 6 + 3, none⟩ = some (.string x.name) ∧ w.cell? ⟨g, o + i * 6 + 4, none⟩ = some (.slice B x.alts.length (capN x.alts.length b)) ∧
    w.cell? ⟨g, o + i * 6 + 5, none⟩ = some (.slice C x.to.length (capN x.to.length c))) ∧ NdIn w X x B C := by
  obtain ⟨g, o, B, b, C, c, ⟨e, hX⟩, h6, hn⟩ := h i hi
  exact ⟨g, o, l[i]'hi, B, b, C, c, (ndAt_lt hi).symm, e, hX, h6, hn⟩
set_option maxHeartbeats 4000000 in
theorem may_any (x : Nd) (B C : Option Addr) (b c : Nat) (w : World) (hI : NdIn w AnyB x B C) (hT : PTab w) : Calls Tryd.prog 30 #[ndv x B b C c] w fun e w' => e = .returned (.bool (nodeV x && decide (x.to.length = x.ports))) ∧ Below w.heap.size w w' := by
  obtain ⟨k, lv, n, s, al, tp⟩ := x
  obtain ⟨w1, hw1⟩ : ∃ w1, w1 = (w.alloc (.cells #[.int .i64 k, .int .i64 lv, .int .i64 n, .string s, .slice B al.length (capN al.length b), .slice C tp.length (capN tp.length c)] 28)) := ⟨_, rfl⟩
  have hb : Below w.heap.size w w1 := by rw [hw1]; exact (Below.refl _ w).alloc (Nat.le_refl _) _
  have L : Lies w1 w.heap.size 28 #[.int .i64 k, .int .i64 lv, .int .i64 n, .string s, .slice B al.length (capN al.length b), .slice C tp.length (capN tp.length c)] := by rw [hw1]; exact Lies.new _ _ _
  have c0 := L.cell 0
  have c1 := L.cell 1
  have c2 := L.cell 2
  have c3 := L.cell 3
  have c4 := L.cell 4
  have c5 := L.cell 5
  simp at c0 c1 c2 c3 c4 c5
  have q0 := Abv.cell c0
  have q1 := Abv.cell c1
  have q2 := Abv.cell c2
  have q3 := Abv.cell c3
  have q4 := Abv.cell c4
  have q5 := Abv.cell c5
  have hY : ∀ V : Abv w1, Calls Tryd.prog 26 #[.agg #[.int .i64 k, .int .i64 lv, .int .i64 n, .string s, .slice B al.length (capN al.length b), .slice C tp.length (capN tp.length c)]] V.1 fun e w' => e = .returned (.bool (nodeV ⟨k, lv, n, s, al, tp⟩)) ∧ Below V.1.heap.size V.1 w' :=
    fun V => mayIf_any ⟨k, lv, n, s, al, tp⟩ B C b c V.1 ((hI.below hb (Nat.le_refl _)).below V.2 (Nat.le_refl _))
  have hP : ∀ V : Abv w1, Calls Tryd.prog 21 #[.agg #[.int .i64 k, .int .i64 lv, .int .i64 n, .string s, .slice B al.length (capN al.length b), .slice C tp.length (capN tp.length c)]] V.1 fun e w' => e = .returned (.int .i64 (Nd.ports ⟨k, lv, n, s, al, tp⟩)) ∧ Below V.1.heap.size V.1 w' :=
    fun V => ports_any ⟨k, lv, n, s, al, tp⟩ B C b c V.1 hI.1 ((hT.below hb (Nat.le_refl _)).below V.2 (Nat.le_refl _))
  obtain ⟨β, hβ⟩ : ∃ β, β = (nodeV ⟨k, lv, n, s, al, tp⟩ && decide (tp.length = Nd.ports ⟨k, lv, n, s, al, tp⟩)) := ⟨_, rfl⟩
  rw [show (nodeV ⟨k, lv, n, s, al, tp⟩ && decide ((⟨k, lv, n, s, al, tp⟩ : Nd).to.length = Nd.ports ⟨k, lv, n, s, al, tp⟩)) = β from hβ.symm]
  obtain ⟨m, hm⟩ : ∃ m, m = Nd.ports ⟨k, lv, n, s, al, tp⟩ := ⟨_, rfl⟩
  rw [← hm] at hP hβ
  have HB := Lib.hid hβ
  clear hβ hm
  unfold ndv
  go_enter Tryd.func30, Tryd.ntmps30
  go_upto_region 1 with fail
  rw [← hw1]
  clear hw1 hI hT
  cases hv : nodeV ⟨k, lv, n, s, al, tp⟩ with
  | true =>
    rw [hv] at hY
    have HV := Lib.hid hv
    clear hv
    refine region_calm (by kernel_rfl) (by kernel_rfl) ?_
    repeat (go_big_quiet_step (first | exact calm_of (hY _) | exact calm_of (hP _)))
    refine wpQuiet_nil ?_
    rintro _ ⟨V, rfl⟩
    go_wp2_with fail
    go_ret
    refine ⟨nret_bool ?_, hb.trans (V.2.mono hb.size)⟩
    rw [HB.out, HV.out, Bool.true_and]
    rw [Bool.eq_iff_iff]
    simp
    omega
  | false =>
    rw [hv] at hY
    have HV := Lib.hid hv
    clear hv
    refine region_calm (by kernel_rfl) (by kernel_rfl) ?_
    repeat (go_big_quiet_step (first | exact calm_of (hY _) | exact calm_of (hP _)))
    refine wpQuiet_nil ?_
    rintro _ ⟨V, rfl⟩
    go_wp2_with fail
    go_ret
    refine ⟨nret_bool ?_, hb.trans (V.2.mono hb.size)⟩
    rw [HB.out, HV.out, Bool.false_and]
end Lx
end Go.Proofs.YtceblpjlklogpaaDoor
namespace Go.Proofs.YtceblpjlklogpaaDoor
open Go.RowKit
namespace Lx
set_option maxRecDepth 100000
set_option maxHeartbeats 4000000 in
theorem isThere_any (l : List Nd) (A : Option Addr) (m c : Nat) (a b : Int) (w : World) (hm : m = l.length) (hN : NdsIn w AnyB l A) : Calls Tryd.prog 41 #[.slice A m c, .agg #[.int .i64 a, .int .i64 b]] w fun e w' => e = .returned (.bool (hasV l (a, b))) ∧ Below w.heap.size w w' := by
  obtain ⟨w1, hw1⟩ : ∃ w1, w1 = (w.alloc (.cells #[.int .i64 a, .int .i64 b] 46)) := ⟨_, rfl⟩
  have hb : Below w.heap.size w w1 := by rw [hw1]; exact (Below.refl _ w).alloc (Nat.le_refl _) _
  have L : Lies w1 w.heap.size 46 #[.int .i64 a, .int .i64 b] := by rw [hw1]; exact Lies.new _ _ _
  have q0 := Abv.cell (L.cell 0)
  have q1 := Abv.cell (L.cell 1)
  simp at q0 q1
  have HN := Lib.hid hN
  have HM := Lib.hid hm
  clear hN hm
  obtain ⟨β, hβ⟩ : ∃ β, β = hasV l (a, b) := ⟨_, rfl⟩
  rw [← hβ]
  have HB := Lib.hid hβ
  clear hβ
  go_enter Tryd.func41, Tryd.ntmps41
  go_upto_region 1 with fail
  rw [← hw1]
  clear hw1
  by_cases k1 : 0 ≤ a
  · have j1 : decide (0 ≤ a) = true := decide_eq_true k1
    by_cases k2 : a < (m : Int)
    · have j2 : decide (a < (m : Int)) = true := decide_eq_true k2
      by_cases k3 : 0 ≤ b
      · have j3 : decide (0 ≤ b) = true := decide_eq_true k3
        obtain ⟨i, rfl⟩ : ∃ i : Nat, a = (i : Int) := ⟨a.toNat, by omega⟩
        have hi : i < l.length := by have := HM.out; omega
        obtain ⟨g, o, x, B, bb, C, cc, hx, hA, _, ⟨_, _, _, _, _, x5⟩, _⟩ := NdsIn.get HN.out i hi
        subst hA
        have z5 := Abv.cell ((hb.cell (p := ⟨g, o + i * 6 + 5, none⟩) (ncell_lt x5)).trans x5)
        have HX := Lib.hid hx
        have him : i < m := by omega
        clear x5 hx k2
        refine region_calm (by kernel_rfl) (by kernel_rfl) ?_
        repeat (go_big_quiet_step (fail))
        refine wpQuiet_nil ?_
        rintro _ ⟨V, rfl⟩
        go_wp2_with fail
        go_ret
        refine ⟨nret_bool ?_, hb.trans (V.2.mono hb.size)⟩
        rw [HB.out, hasV, Int.toNat_natCast, ← HX.out]
        have := HM.out
        rw [Bool.eq_iff_iff]
        simp only [decide_eq_true_eq]
        omega
      · have j3 : decide (0 ≤ b) = false := decide_eq_false k3
        refine region_calm (by kernel_rfl) (by kernel_rfl) ?_
        repeat (go_big_quiet_step (fail))
        refine wpQuiet_nil ?_
        rintro _ ⟨V, rfl⟩
        go_wp2_with fail
        go_ret
        refine ⟨nret_bool ?_, hb.trans (V.2.mono hb.size)⟩
        rw [HB.out, hasV]
        exact (decide_eq_false (by omega)).symm
    · have j2 : decide (a < (m : Int)) = false := decide_eq_false k2
      refine region_calm (by kernel_rfl) (by kernel_rfl) ?_
      repeat (go_big_quiet_step (fail))
      refine wpQuiet_nil ?_
      rintro _ ⟨V, rfl⟩
      go_wp2_with fail
      go_ret
      refine ⟨nret_bool ?_, hb.trans (V.2.mono hb.size)⟩
      rw [HB.out, hasV]
      exact (decide_eq_false (by have := HM.out; omega)).symm
  · have j1 : decide (0 ≤ a) = false := decide_eq_false k1
    refine region_calm (by kernel_rfl) (by kernel_rfl) ?_
    repeat (go_big_quiet_step (fail))
    refine wpQuiet_nil ?_
    rintro _ ⟨V, rfl⟩
    go_wp2_with fail
    go_ret
    refine ⟨nret_bool ?_, hb.trans (V.2.mono hb.size)⟩
    rw [HB.out, hasV]
    exact (decide_eq_false (by omega)).symm
set_option maxHeartbeats 4000000 in
theorem has_any (l : List Nd) (A : Option Addr) (m c : Nat) (cap a b : Int) (w : World) (hm : m = l.length) (hN : NdsIn w AnyB l A) : Calls Tryd.prog 23 #[.agg #[.slice A m c, .int .i64 cap], .agg #[.int .i64 a, .int .i64 b]] w fun e w' => e = .returned (.bool (hasV l (a, b))) ∧ Below w.heap.size w w' := by
  obtain ⟨w1, hw1⟩ : ∃ w1, w1 = ((w.alloc (.cells #[.slice A m c, .int .i64 cap] 24)).alloc (.cells #[.int .i64 a, .int .i64 b] 46)) := ⟨_, rfl⟩
  have hb : Below w.heap.size w w1 := by rw [hw1]; exact ((Below.refl _ w).alloc (Nat.le_refl _) _).alloc (by simp) _
  have L0 : Lies w1 w.heap.size 24 #[.slice A m c, .int .i64 cap] := by rw [hw1]; exact (Lies.new _ _ _).old _
  have L : Lies w1 (w.heap.size + 1) 46 #[.int .i64 a, .int .i64 b] := by rw [hw1]; simpa using Lies.new (w.alloc (.cells #[.slice A m c, .int .i64 cap] 24)) 46 #[.int .i64 a, .int .i64 b]
  have q0 := Abv.cell (L.cell 0)
  have q1 := Abv.cell (L.cell 1)
  have q2 := Abv.cell (L0.cell 0)
  simp at q0 q1 q2
  have HN := Lib.hid hN
  have HM := Lib.hid hm
  clear hN hm
  obtain ⟨β, hβ⟩ : ∃ β, β = hasV l (a, b) := ⟨_, rfl⟩
  rw [← hβ]
  have HB := Lib.hid hβ
  clear hβ
  go_enter Tryd.func23, Tryd.ntmps23
  go_upto_region 1 with fail
  rw [← hw1]
  clear hw1
  by_cases k1 : 0 ≤ a
  · have j1 : decide (0 ≤ a) = true := decide_eq_true k1
    by_cases k2 : a < (m : Int)
    · have j2 : decide (a < (m : Int)) = true := decide_eq_true k2
      by_cases k3 : 0 ≤ b
      · have j3 : decide (0 ≤ b) = true := decide_eq_true k3
        obtain ⟨i, rfl⟩ : ∃ i : Nat, a = (i : Int) := ⟨a.toNat, by omega⟩
        have hi : i < l.length := by have := HM.out; omega
        obtain ⟨g, o, x, B, bb, C, cc, hx, hA, _, ⟨_, _, _, _, _, x5⟩, _⟩ := NdsIn.get HN.out i hi
        subst hA
        have z5 := Abv.cell ((hb.cell (p := ⟨g, o + i * 6 + 5, none⟩) (ncell_lt x5)).trans x5)
        have HX := Lib.hid hx
        have him : i < m := by omega
        clear x5 hx k2
        refine region_calm (by kernel_rfl) (by kernel_rfl) ?_
        repeat (go_big_quiet_step (fail))
        refine wpQuiet_nil ?_
        rintro _ ⟨V, rfl⟩
        go_wp2_with fail
        go_ret
        refine ⟨nret_bool ?_, hb.trans (V.2.mono hb.size)⟩
        rw [HB.out, hasV, Int.toNat_natCast, ← HX.out]
        have := HM.out
        rw [Bool.eq_iff_iff]
        simp only [decide_eq_true_eq]
        omega
      · have j3 : decide (0 ≤ b) = false := decide_eq_false k3
        refine region_calm (by kernel_rfl) (by kernel_rfl) ?_
        repeat (go_big_quiet_step (fail))
        refine wpQuiet_nil ?_
        rintro _ ⟨V, rfl⟩
        go_wp2_with fail
        go_ret
        refine ⟨nret_bool ?_, hb.trans (V.2.mono hb.size)⟩
        rw [HB.out, hasV]
        exact (decide_eq_false (by omega)).symm
    · have j2 : decide (a < (m : Int)) = false := decide_eq_false k2
      refine region_calm (by kernel_rfl) (by kernel_rfl) ?_
      repeat (go_big_quiet_step (fail))
      refine wpQuiet_nil ?_
      rintro _ ⟨V, rfl⟩
      go_wp2_with fail
      go_ret
      refine ⟨nret_bool ?_, hb.trans (V.2.mono hb.size)⟩
      rw [HB.out, hasV]
      exact (decide_eq_false (by have := HM.out; omega)).symm
  · have j1 : decide (0 ≤ a) = false := decide_eq_false k1
    refine region_calm (by kernel_rfl) (by kernel_rfl) ?_
    repeat (go_big_quiet_step (fail))
    refine wpQuiet_nil ?_
    rintro _ ⟨V, rfl⟩
    go_wp2_with fail
    go_ret
    refine ⟨nret_bool ?_, hb.trans (V.2.mono hb.size)⟩
    rw [HB.out, hasV]
    exact (decide_eq_false (by omega)).symm
end Lx
end Go.Proofs.YtceblpjlklogpaaDoor
namespace Go.Proofs.YtceblpjlklogpaaDoor
open Go.RowKit
namespace Lx
set_option maxRecDepth 100000
theorem toAt_get {l : List Nd} {i k : Nat} (hk : k < (ndAt l i).to.length) : toAt l ((i : Int), (k : Int)) = (ndAt l i).to[k]'hk := by
  simp [toAt, hk]
set_option maxHeartbeats 8000000 in
theorem isLinked_any (l : List Nd) (A : Option Addr) (m c i : Nat) (w : World) (hm : m = l.length) (hi : i < m) (hN : NdsIn w AnyB l A) : Calls Tryd.prog 31 #[.slice A m c, .int .i64 i] w fun e w' => e = .returned (.bool (linkedV l i)) ∧ Below w.heap.size w w' := by
  have hil : i < l.length := by omega
  obtain ⟨g, o, x, B, bb, C, cc, hx, rfl, _, ⟨_, _, _, _, _, x5⟩, hI⟩ := NdsIn.get hN i hil
  have HX := Lib.hid hx
  have HI := Lib.hid hI
  have htl := hI.1.2.2
  obtain ⟨mt, hmt⟩ : ∃ mt, mt = x.to.length := ⟨_, rfl⟩
  rw [← hmt] at x5 htl
  have HMT := Lib.hid hmt
  have HN := Lib.hid hN
  have HM := Lib.hid hm
  clear hx hI hmt hN hm hil
  go_enter Tryd.func31, Tryd.ntmps31
  go_wp2_with fail
  go_loopw [14] (fun y wr => ∃ k : Nat, k ≤ mt ∧ y = .int .i64 k ∧ Hid (∀ j, j < k → portOk l i j = true) ∧ Below w.heap.size w wr) (fun y _ => mt - (intOf y).toNat)
  case atStart => exact ⟨0, Nat.zero_le _, rfl, Lib.hid (fun j hj => absurd hj (Nat.not_lt_zero _)), Below.refl _ _⟩
  case round =>
    obtain ⟨k, hk, rfl, hP, hbr⟩ := hrel
    by_cases hlt : k < mt
    · have hkl : k < x.to.length := by have := HMT.out; omega
      obtain ⟨g2, o2, ⟨rfl, _⟩, d0, d1⟩ := HI.out.2.2 k hkl
      replace d0 := (hbr.cell (p := ⟨g2, o2 + k * 2, none⟩) (ncell_lt d0)).trans d0
      replace d1 := (hbr.cell (p := ⟨g2, o2 + k * 2 + 1, none⟩) (ncell_lt d1)).trans d1
      obtain ⟨a, ha⟩ : ∃ a, a = (x.to[k]'hkl).1 := ⟨_, rfl⟩
      obtain ⟨b, hb⟩ : ∃ b, b = (x.to[k]'hkl).2 := ⟨_, rfl⟩
      rw [← ha] at d0
      rw [← hb] at d1
      have HQ : Hid (toAt l ((i : Int), (k : Int)) = (a, b)) := Lib.hid (by rw [toAt_get (by rw [← HX.out]; exact hkl), ha, hb]; simp only [← HX.out])
      clear ha hb
      obtain ⟨W, hW⟩ : ∃ W, W = ((wr.alloc (.cells #[.int .i64 a, .int .i64 b] 46)).alloc (.cells #[.int .i64 i, .int .i64 k] 46)) := ⟨_, rfl⟩
      have hbW : Below wr.heap.size wr W := by rw [hW]; exact ((Below.refl _ wr).alloc (Nat.le_refl _) _).alloc (by simp) _
      have L0 : Lies W wr.heap.size 46 #[.int .i64 a, .int .i64 b] := by rw [hW]; exact (Lies.new _ _ _).old _
      have L1 : Lies W (wr.heap.size + 1) 46 #[.int .i64 i, .int .i64 k] := by rw [hW]; simpa using Lies.new (wr.alloc (.cells #[.int .i64 a, .int .i64 b] 46)) 46 #[.int .i64 i, .int .i64 k]
      have q0 := Abv.cell (L0.cell 0)
      have q1 := Abv.cell (L0.cell 1)
      have q2 := Abv.cell (L1.cell 0)
      have q3 := Abv.cell (L1.cell 1)
      simp at q0 q1 q2 q3
      have hwW := hbr.trans (hbW.mono hbr.size)
      have HT : ∀ V : Abv W, Calls Tryd.prog 41 #[.slice (some ⟨g, o, none⟩) m c, .agg #[.int .i64 a, .int .i64 b]] V.1 fun e w' => e = .returned (.bool (hasV l (a, b))) ∧ Below V.1.heap.size V.1 w' :=
        fun V => isThere_any l (some ⟨g, o, none⟩) m c a b V.1 HM.out ((HN.out.below hwW (Nat.le_refl _)).below V.2 (Nat.le_refl _))
      go_upto_region 5 with fail
      rw [← hW]
      clear hW d0 d1 L0 L1
      have HS : Hid (portOk l i k = (!((a, b) == ((i : Int), (k : Int))) && (hasV l (a, b) && toAt l (a, b) == ((i : Int), (k : Int))))) := Lib.hid (by rw [portOk, HQ.out])
      by_cases e1 : a = (i : Int)
      · subst e1
        by_cases e2 : b = (k : Int)
        · subst e2
          refine region_calm (by kernel_rfl) (by kernel_rfl) ?_
          repeat (go_big_quiet_step (fail))
          refine wpQuiet_nil ?_
          rintro _ ⟨V, rfl⟩
          go_wp2_with fail
          go_ret
          refine ⟨nret_bool ?_, hwW.trans (V.2.mono hwW.size)⟩
          have h9 : portOk l i k = false := by rw [HS.out]; simp
          rw [linkedV, ← HX.out]
          exact (decide_eq_false (fun h => by rw [h k hkl] at h9; cases h9)).symm
        · have H1 : Hid ((((i : Int), b) == ((i : Int), (k : Int))) = false) := Lib.hid (by simpa using e2)
          cases h2 : hasV l ((i : Int), b) with
          | false =>
            rw [h2] at HT
            refine region_calm (by kernel_rfl) (by kernel_rfl) ?_
            repeat (go_big_quiet_step (exact calm_of (HT _)))
            refine wpQuiet_nil ?_
            rintro _ ⟨V, rfl⟩
            go_wp2_with fail
            go_ret
            refine ⟨nret_bool ?_, hwW.trans (V.2.mono hwW.size)⟩
            have h9 : portOk l i k = false := by rw [HS.out, h2]; simp
            rw [linkedV, ← HX.out]
            exact (decide_eq_false (fun h => by rw [h k hkl] at h9; cases h9)).symm
          | true =>
            rw [h2] at HT
            obtain ⟨r0, r1, r2, r3⟩ := of_decide_eq_true h2
            simp only at r0 r1 r2 r3
            obtain ⟨k2, rfl⟩ : ∃ k2 : Nat, b = (k2 : Int) := ⟨b.toNat, by omega⟩
            have hi2l : i < l.length := by omega
            obtain ⟨g3, o3, x2, B2, bb2, C2, cc2, hx2, hgo, _, ⟨_, _, _, _, _, y5⟩, hI2⟩ := NdsIn.get HN.out i hi2l
            cases hgo
            have hk2l : k2 < x2.to.length := by
              rw [Int.toNat_natCast, ← hx2] at r3
              omega
            obtain ⟨g4, o4, ⟨rfl, _⟩, f0, f1⟩ := hI2.2.2 k2 hk2l
            have z5 := Abv.cell ((hwW.cell (p := ⟨g, o + i * 6 + 5, none⟩) (ncell_lt y5)).trans y5)
            have z0 := Abv.cell ((hwW.cell (p := ⟨g4, o4 + k2 * 2, none⟩) (ncell_lt f0)).trans f0)
            have z1 := Abv.cell ((hwW.cell (p := ⟨g4, o4 + k2 * 2 + 1, none⟩) (ncell_lt f1)).trans f1)
            obtain ⟨ta, hta⟩ : ∃ ta, ta = (x2.to[k2]'hk2l).1 := ⟨_, rfl⟩
            obtain ⟨tb, htb⟩ : ∃ tb, tb = (x2.to[k2]'hk2l).2 := ⟨_, rfl⟩
            obtain ⟨mt2, hmt2⟩ : ∃ mt2, mt2 = x2.to.length := ⟨_, rfl⟩
            rw [← hta] at z0
            rw [← htb] at z1
            rw [← hmt2] at z5
            have HQ2 : Hid (toAt l ((i : Int), (k2 : Int)) = (ta, tb)) := Lib.hid (by rw [toAt_get (by rw [← hx2]; exact hk2l), hta, htb]; simp only [← hx2])
            have hi2m : i < m := by have := HM.out; omega
            have hk2m : k2 < mt2 := by omega
            have hcap2 := le_capN mt2 cc2
            have H2 := Lib.hid h2
            clear hta htb hmt2 hx2 y5 f0 f1 r0 r1 r2 r3 hI2 hk2l hi2l h2
            by_cases k1 : ta = (i : Int)
            · by_cases k2 : tb = (k : Int)
              · subst k1 k2
                refine region_calm (by kernel_rfl) (by kernel_rfl) ?_
                repeat (go_big_quiet_step (exact calm_of (HT _)))
                refine wpQuiet_nil ?_
                rintro _ ⟨V, rfl⟩
                go_wp2_with fail
                go_roundw
                case rel =>
                  have hOK : portOk l i k = true := by rw [HS.out, H2.out, HQ2.out, H1.out]; simp
                  go_light
                  refine ⟨k + 1, by omega, by go_num, Lib.hid (fun j hj => ?_), hwW.trans (V.2.mono hwW.size)⟩
                  by_cases e : j = k
                  · subst e; exact hOK
                  · exact hP.out j (by omega)
                case measure => simp [intOf]; omega
              · subst k1
                refine region_calm (by kernel_rfl) (by kernel_rfl) ?_
                repeat (go_big_quiet_step (exact calm_of (HT _)))
                refine wpQuiet_nil ?_
                rintro _ ⟨V, rfl⟩
                go_wp2_with fail
                go_ret
                refine ⟨nret_bool ?_, hwW.trans (V.2.mono hwW.size)⟩
                have h9 : portOk l i k = false := by rw [HS.out, H2.out, HQ2.out, H1.out]; simp; exact k2
                rw [linkedV, ← HX.out]
                exact (decide_eq_false (fun h => by rw [h k hkl] at h9; cases h9)).symm
            · refine region_calm (by kernel_rfl) (by kernel_rfl) ?_
              repeat (go_big_quiet_step (exact calm_of (HT _)))
              refine wpQuiet_nil ?_
              rintro _ ⟨V, rfl⟩
              go_wp2_with fail
              go_ret
              refine ⟨nret_bool ?_, hwW.trans (V.2.mono hwW.size)⟩
              have h9 : portOk l i k = false := by rw [HS.out, H2.out, HQ2.out, H1.out]; simp; intro h; exact absurd h k1
              rw [linkedV, ← HX.out]
              exact (decide_eq_false (fun h => by rw [h k hkl] at h9; cases h9)).symm
      · have H1 : Hid (((a, b) == ((i : Int), (k : Int))) = false) := Lib.hid (by simp; intro h; exact absurd h e1)
        cases h2 : hasV l (a, b) with
        | false =>
          rw [h2] at HT
          refine region_calm (by kernel_rfl) (by kernel_rfl) ?_
          repeat (go_big_quiet_step (exact calm_of (HT _)))
          refine wpQuiet_nil ?_
          rintro _ ⟨V, rfl⟩
          go_wp2_with fail
          go_ret
          refine ⟨nret_bool ?_, hwW.trans (V.2.mono hwW.size)⟩
          have h9 : portOk l i k = false := by rw [HS.out, h2]; simp
          rw [linkedV, ← HX.out]
          exact (decide_eq_false (fun h => by rw [h k hkl] at h9; cases h9)).symm
        | true =>
          rw [h2] at HT
          obtain ⟨r0, r1, r2, r3⟩ := of_decide_eq_true h2
          simp only at r0 r1 r2 r3
          obtain ⟨i2, rfl⟩ : ∃ i2 : Nat, a = (i2 : Int) := ⟨a.toNat, by omega⟩
          obtain ⟨k2, rfl⟩ : ∃ k2 : Nat, b = (k2 : Int) := ⟨b.toNat, by omega⟩
          have hi2l : i2 < l.length := by omega
          obtain ⟨g3, o3, x2, B2, bb2, C2, cc2, hx2, hgo, _, ⟨_, _, _, _, _, y5⟩, hI2⟩ := NdsIn.get HN.out i2 hi2l
          cases hgo
          have hk2l : k2 < x2.to.length := by
            rw [Int.toNat_natCast, ← hx2] at r3
            omega
          obtain ⟨g4, o4, ⟨rfl, _⟩, f0, f1⟩ := hI2.2.2 k2 hk2l
          have z5 := Abv.cell ((hwW.cell (p := ⟨g, o + i2 * 6 + 5, none⟩) (ncell_lt y5)).trans y5)
          have z0 := Abv.cell ((hwW.cell (p := ⟨g4, o4 + k2 * 2, none⟩) (ncell_lt f0)).trans f0)
          have z1 := Abv.cell ((hwW.cell (p := ⟨g4, o4 + k2 * 2 + 1, none⟩) (ncell_lt f1)).trans f1)
          obtain ⟨ta, hta⟩ : ∃ ta, ta = (x2.to[k2]'hk2l).1 := ⟨_, rfl⟩
          obtain ⟨tb, htb⟩ : ∃ tb, tb = (x2.to[k2]'hk2l).2 := ⟨_, rfl⟩
          obtain ⟨mt2, hmt2⟩ : ∃ mt2, mt2 = x2.to.length := ⟨_, rfl⟩
          rw [← hta] at z0
          rw [← htb] at z1
          rw [← hmt2] at z5
          have HQ2 : Hid (toAt l ((i2 : Int), (k2 : Int)) = (ta, tb)) := Lib.hid (by rw [toAt_get (by rw [← hx2]; exact hk2l), hta, htb]; simp only [← hx2])
          have hi2m : i2 < m := by have := HM.out; omega
          have hk2m : k2 < mt2 := by omega
          have hcap2 := le_capN mt2 cc2
          have H2 := Lib.hid h2
          clear hta htb hmt2 hx2 y5 f0 f1 r0 r1 r2 r3 hI2 hk2l hi2l h2
          by_cases k1 : ta = (i : Int)
          · by_cases k2 : tb = (k : Int)
            · subst k1 k2
              refine region_calm (by kernel_rfl) (by kernel_rfl) ?_
              repeat (go_big_quiet_step (exact calm_of (HT _)))
              refine wpQuiet_nil ?_
              rintro _ ⟨V, rfl⟩
              go_wp2_with fail
              go_roundw
              case rel =>
                have hOK : portOk l i k = true := by rw [HS.out, H2.out, HQ2.out, H1.out]; simp
                go_light
                refine ⟨k + 1, by omega, by go_num, Lib.hid (fun j hj => ?_), hwW.trans (V.2.mono hwW.size)⟩
                by_cases e : j = k
                · subst e; exact hOK
                · exact hP.out j (by omega)
              case measure => simp [intOf]; omega
            · subst k1
              refine region_calm (by kernel_rfl) (by kernel_rfl) ?_
              repeat (go_big_quiet_step (exact calm_of (HT _)))
              refine wpQuiet_nil ?_
              rintro _ ⟨V, rfl⟩
              go_wp2_with fail
              go_ret
              refine ⟨nret_bool ?_, hwW.trans (V.2.mono hwW.size)⟩
              have h9 : portOk l i k = false := by rw [HS.out, H2.out, HQ2.out, H1.out]; simp; exact k2
              rw [linkedV, ← HX.out]
              exact (decide_eq_false (fun h => by rw [h k hkl] at h9; cases h9)).symm
          · refine region_calm (by kernel_rfl) (by kernel_rfl) ?_
            repeat (go_big_quiet_step (exact calm_of (HT _)))
            refine wpQuiet_nil ?_
            rintro _ ⟨V, rfl⟩
            go_wp2_with fail
            go_ret
            refine ⟨nret_bool ?_, hwW.trans (V.2.mono hwW.size)⟩
            have h9 : portOk l i k = false := by rw [HS.out, H2.out, HQ2.out, H1.out]; simp; intro h; exact absurd h k1
            rw [linkedV, ← HX.out]
            exact (decide_eq_false (fun h => by rw [h k hkl] at h9; cases h9)).symm
    · go_wp2_with fail
      go_ret
      refine ⟨nret_bool ?_, hbr⟩
      rw [linkedV, ← HX.out]
      exact (decide_eq_true (fun j hj => hP.out j (by have := HMT.out; omega))).symm
end Lx
end Go.Proofs.YtceblpjlklogpaaDoor
namespace Go.Proofs.YtceblpjlklogpaaDoor
open Go.RowKit
namespace Lx
set_option maxRecDepth 100000
theorem ndUsed (l : List Nd) (i : Nat) (h : i < l.length) : usedV (l.take (i + 1)) = usedV (l.take i) + (if (ndAt l i).kind = 0 then 0 else 1) := by
  rw [usedV_take l i h, ndAt_lt h]
set_option maxHeartbeats 4000000 in
theorem used_any (l : List Nd) (A : Option Addr) (m c : Nat) (cap : Int) (w : World) (hm : m = l.length) (hl : m ≤ 140737488351232) (hN : NdsIn w AnyB l A) : Calls Tryd.prog 15 #[.agg #[.slice A m c, .int .i64 cap]] w fun e w' => e = .returned (.int .i64 (usedV l)) ∧ Below w.heap.size w w' := by
  have hb : Below w.heap.size w (w.alloc (.cells #[.slice A m c, .int .i64 cap] 24)) := (Below.refl _ w).alloc (Nat.le_refl _) _
  have HN := Lib.hid hN
  have HM := Lib.hid hm
  clear hN hm
  go_enter Tryd.func15, Tryd.ntmps15
  go_wp2_with fail
  go_loopw [3, 9] (fun v y wr => ∃ i : Nat, i ≤ m ∧ y = .int .i64 i ∧ v = .int .i64 (usedV (l.take i)) ∧ Below w.heap.size w wr) (fun _ y _ => m - (intOf y).toNat)
  case atStart => exact ⟨0, Nat.zero_le _, rfl, by simp [usedV], hb⟩
  case round =>
    obtain ⟨i, hi, rfl, rfl, hbr⟩ := hrel
    by_cases hlt : i < m
    · have hil : i < l.length := by have := HM.out; omega
      obtain ⟨g, o, x, B, bb, C, cc, hx, rfl, _, ⟨x0, x1, x2, x3, x4, x5⟩, hI⟩ := NdsIn.get (HN.out.below hbr (Nat.le_refl _)) i hil
      have hU := ndUsed l i hil
      have hU2 := usedV_le (l.take i)
      have hU3 : (l.take i).length ≤ i := by simp; omega
      rw [← hx] at hU
      obtain ⟨u1, hu1⟩ : ∃ u, u = usedV (l.take i) := ⟨_, rfl⟩
      rw [← hu1] at hU hU2 ⊢
      have HU := Lib.hid hU
      clear hx hI hU hu1
      have HC := Lib.hid (isFree_any x B C bb cc (wr.alloc (.cells #[.int .i64 x.kind, .int .i64 x.level, .int .i64 x.n, .string x.name, .slice B x.alts.length (capN x.alts.length bb), .slice C x.to.length (capN x.to.length cc)] 28)))
      unfold ndv at HC
      have hb1 : Below wr.heap.size wr (wr.alloc (.cells #[.int .i64 x.kind, .int .i64 x.level, .int .i64 x.n, .string x.name, .slice B x.alts.length (capN x.alts.length bb), .slice C x.to.length (capN x.to.length cc)] 28)) := (Below.refl _ wr).alloc (Nat.le_refl _) _
      have HB1 := Lib.hid (hbr.trans (hb1.mono hbr.size))
      clear hb1
      cases hk : (x.kind == 0) with
      | true =>
        rw [hk] at HC
        have HK := Lib.hid hk
        clear hk
        go_wp2_with fail
        refine HC.out.mono ?_
        rintro e w2 ⟨rfl, hb2⟩
        go_wp2_with fail
        go_roundw
        case rel =>
          go_light
          refine ⟨i + 1, by omega, by go_num, ?_, HB1.out.trans (hb2.mono HB1.out.size)⟩
          rw [HU.out, if_pos (by simpa using HK.out)]
          rfl
        case measure => simp [intOf]; omega
      | false =>
        rw [hk] at HC
        have HK := Lib.hid hk
        clear hk
        go_wp2_with fail
        refine HC.out.mono ?_
        rintro e w2 ⟨rfl, hb2⟩
        go_wp2_with fail
        go_roundw
        case rel =>
          go_light
          refine ⟨i + 1, by omega, by go_num, ?_, HB1.out.trans (hb2.mono HB1.out.size)⟩
          rw [HU.out, if_neg (by simpa using HK.out)]
          go_num
        case measure => simp [intOf]; omega
    · go_wp2_with fail
      go_ret
      refine ⟨nret_int ?_, hbr⟩
      rw [List.take_of_length_le (by have := HM.out; omega)]
end Lx
end Go.Proofs.YtceblpjlklogpaaDoor
