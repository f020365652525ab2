/-
  Texts that lie one behind the other: NlR.
-/
import Derived.Test.YtceblpjlklogpaaDoorC3
import Derived.Test.YtceblpjlklogpaaDoorC7
import Derived.Test.YtceblpjlklogpaaDoorC4
namespace Go.Proofs.YtceblpjlklogpaaDoor
open Go.RowKit
namespace Lx
set_option maxRecDepth 100000
theorem check_bad {l : List Nd} {cap : Int} {i k : Nat} (hi : i < l.length) (hk : k < (ndAt l i).to.length) (h : portOk l i k = false) : (120 : Int) = checkI l cap :=
  checkI_no fun h8 => by
    have h7 := (at_node (h8.2.2.2.2.2 i hi)).2.2.2
    rw [linkedV, decide_eq_true_eq] at h7
    have := h7 k hk
    rw [h] at this
    cases this
set_option maxHeartbeats 16000000 in
theorem rcheck_any (l : List Nd) (A : Option Addr) (m c : Nat) (cap : Int) (w : World) (hm : m = l.length) (hl : m ≤ 140737488351232) (hN : NdsIn w AnyB l A) : Calls Tryd.prog 10 #[.agg #[.slice A m c, .int .i64 cap]] w fun e w' => e = .returned (.int .i64 (checkI l cap)) ∧ Below w.heap.size w w' := by
  obtain ⟨w1, hw1⟩ : ∃ w1, w1 = (w.alloc (.cells #[.slice A m c, .int .i64 cap] 24)) := ⟨_, rfl⟩
  have hb : Below w.heap.size w w1 := by rw [hw1]; exact (Below.refl _ w).alloc (Nat.le_refl _) _
  have L : Lies w1 w.heap.size 24 #[.slice A m c, .int .i64 cap] := by rw [hw1]; exact Lies.new _ _ _
  have c0 := L.cell 0
  have c1 := L.cell 1
  simp at c0 c1
  have HN2 := Lib.hid (hN.below hb (Nat.le_refl _))
  have HM := Lib.hid hm
  obtain ⟨β, hβ⟩ : ∃ β, β = checkI l cap := ⟨_, rfl⟩
  rw [← hβ]
  have HB := Lib.hid hβ
  clear hβ hN hm
  go_enter Tryd.func10, Tryd.ntmps10
  go_upto_region 1 with fail
  rw [← hw1]
  clear hw1
  have hg := ncell_lt c0
  by_cases k1 : cap < 1
  · have e1 : decide (cap < 1) = true := decide_eq_true k1
    go_wp2_with fail
    go_ret
    exact ⟨nret_int (by rw [HB.out]; exact checkI_no (by omega)), hb⟩
  · have e1 : decide (cap < 1) = false := decide_eq_false k1
    by_cases k2 : 4000 < cap
    · have e2 : decide (4000 < cap) = true := decide_eq_true k2
      go_wp2_with fail
      go_ret
      exact ⟨nret_int (by rw [HB.out]; exact checkI_no (by omega)), hb⟩
    · have e2 : decide (4000 < cap) = false := decide_eq_false k2
      by_cases k3 : m < 1
      · have e3 : decide ((m : Int) < 1) = true := decide_eq_true (by omega)
        go_wp2_with fail
        go_ret
        exact ⟨nret_int (by rw [HB.out]; exact checkI_no (by have := HM.out; omega)), hb⟩
      · obtain ⟨q, rfl⟩ : ∃ q, m = q + 1 := ⟨m - 1, by omega⟩
        have e3 : decide ((q : Int) + 1 < 1) = false := decide_eq_false (by omega)
        by_cases k4 : cap < (q : Int) + 1
        · have e4 : decide (cap < (q : Int) + 1) = true := decide_eq_true k4
          go_wp2_with fail
          go_ret
          exact ⟨nret_int (by rw [HB.out]; exact checkI_no (by have := HM.out; omega)), hb⟩
        · have e4 : decide (cap < (q : Int) + 1) = false := decide_eq_false k4
          have hql : q < l.length := by have := HM.out; omega
          obtain ⟨g, o, x9, B9, bb9, C9, cc9, hx9, rfl, _, ⟨x0, _, _, _, _, _⟩, _⟩ := NdsIn.get HN2.out q hql
          have hlq : l.length - 1 = q := by have := HM.out; omega
          have HX9 := Lib.hid hx9
          clear hx9
          cases hk : (x9.kind == 0) with
          | true =>
            have HK := Lib.hid hk
            go_wp2_with fail
            go_ret
            refine ⟨nret_int ?_, hb⟩
            rw [HB.out]
            refine checkI_no (fun h => h.2.2.2.2.1 ?_)
            rw [hlq, ← HX9.out]
            simpa using HK.out
          | false =>
            have HK : Hid ((ndAt l (l.length - 1)).kind ≠ 0) := Lib.hid (by rw [hlq, ← HX9.out]; simpa using hk)
            go_upto_region 3 with fail
            clear hk x0
            obtain ⟨m, hm9⟩ : ∃ m, m = q + 1 := ⟨_, rfl⟩
            rw [← hm9] at HM c0 hl ⊢
            have hm1 : 1 ≤ m := by omega
            have hcm : (m : Int) ≤ cap := by omega
            clear k4
            clear hm9 e1 e2 e3 e4 hlq hql k3
            go_wp2_with fail
            go_loopw [3] (fun x wr => ∃ i : Nat, i ≤ m ∧ x = .int .i64 i ∧ Hid (∀ j, j < i → atOk l j = true) ∧ Below w1.heap.size w1 wr) (fun x _ => m - (intOf x).toNat)
            case atStart => exact ⟨0, Nat.zero_le _, rfl, Lib.hid (fun j hj => absurd hj (Nat.not_lt_zero _)), Below.refl _ _⟩
            case round =>
              obtain ⟨i, hi, rfl, hP, hb0⟩ := hrel
              rename World => wo
              have d0 := (hb0.cell (p := ⟨w.heap.size, 0, none⟩) hg).trans c0
              have d9 := (hb0.cell (p := ⟨w.heap.size, 1, none⟩) hg).trans c1
              by_cases hlt : i < m
              · have hil : i < l.length := by have := HM.out; omega
                obtain ⟨g9, o9, x, B, bb, C, cc, hx, hgo9, _, ⟨x0, x1, x2, x3, x4, x5⟩, hI⟩ := NdsIn.get (HN2.out.below hb0 (Nat.le_refl _)) i hil
                cases hgo9
                have HX := Lib.hid hx
                have hI0 : NdIn wo AnyB x B C := hI
                obtain ⟨W, hW⟩ : ∃ W, W = (wo.alloc (.cells #[.int .i64 x.kind, .int .i64 x.level, .int .i64 x.n, .string x.name, .slice B x.alts.length (capN x.alts.length bb), .slice C x.to.length (capN x.to.length cc)] 28)) := ⟨_, rfl⟩
                have hbW : Below wo.heap.size wo W := by rw [hW]; exact (Below.refl _ wo).alloc (Nat.le_refl _) _
                have LW : Lies W wo.heap.size 28 #[.int .i64 x.kind, .int .i64 x.level, .int .i64 x.n, .string x.name, .slice B x.alts.length (capN x.alts.length bb), .slice C x.to.length (capN x.to.length cc)] := by rw [hW]; exact Lies.new _ _ _
                have HY : ∀ V : Abv W, Calls Tryd.prog 11 #[.agg #[.int .i64 x.kind, .int .i64 x.level, .int .i64 x.n, .string x.name, .slice B x.alts.length (capN x.alts.length bb), .slice C x.to.length (capN x.to.length cc)]] V.1 fun e w' => e = .returned (.bool (nodeV x)) ∧ Below V.1.heap.size V.1 w' :=
                  fun V => rnode_any x B C bb cc V.1 ((hI.below hbW (Nat.le_refl _)).below V.2 (Nat.le_refl _))
                have HP : ∀ V : Abv W, Calls Tryd.prog 22 #[.agg #[.int .i64 x.kind, .int .i64 x.level, .int .i64 x.n, .string x.name, .slice B x.alts.length (capN x.alts.length bb), .slice C x.to.length (capN x.to.length cc)]] V.1 fun e w' => e = .returned (.int .i64 x.ports) ∧ Below V.1.heap.size V.1 w' :=
                  fun V => rports_any x B C bb cc V.1 hI.1
                have HO : Hid (atOk l i = ((nodeV x && (decide (x.to.length = x.ports) && (decide (i = 0) == decide (x.kind = 1)))) && linkedV l i)) := Lib.hid (by rw [atOk, ← hx, Bool.and_assoc, Bool.and_assoc])
                have HI : Hid (NdIn w1 AnyB x B C) := Lib.hid (by
                  obtain ⟨g8, o8, x8, B8, b8, C8, c8, h81, h82, _, ⟨_, _, _, _, h84, h85⟩, h83⟩ := NdsIn.get HN2.out i hil
                  cases h82
                  rw [hx, ← h81]
                  have t4 := (hb0.cell (p := ⟨g, o + i * 6 + 4, none⟩) (ncell_lt h84)).trans h84
                  have t5 := (hb0.cell (p := ⟨g, o + i * 6 + 5, none⟩) (ncell_lt h85)).trans h85
                  have u4 := x4.symm.trans t4
                  have u5 := x5.symm.trans t5
                  injection u4 with u4
                  injection u4 with u4 _ _
                  injection u5 with u5
                  injection u5 with u5 _ _
                  rw [u4, u5]
                  exact h83)
                obtain ⟨mt, hmt⟩ : ∃ mt, mt = x.to.length := ⟨_, rfl⟩
                have HMT := Lib.hid hmt
                have htl := hI.1.2.2
                rw [← hmt] at x5 LW HY HP htl hW HO
                obtain ⟨y0, y1, y2, y3, y4, y5⟩ := six_cells LW
                have z0 := Abv.cell y0
                have z1 := Abv.cell y1
                have z2 := Abv.cell y2
                have z3 := Abv.cell y3
                have z4 := Abv.cell y4
                have z5 := Abv.cell y5
                have z6 := Abv.cell ((hbW.cell (p := ⟨w.heap.size, 0, none⟩) (ncell_lt d0)).trans d0)
                have z7 := Abv.cell ((hbW.cell (p := ⟨w.heap.size, 1, none⟩) (ncell_lt d9)).trans d9)
                obtain ⟨np, hnp⟩ : ∃ np, np = x.ports := ⟨_, rfl⟩
                rw [← hnp] at HP HO
                clear hx hI LW hmt y0 y1 y2 y3 y4 y5 hnp hI0
                go_upto_region 7 with fail
                rw [← hW]
                clear hW x0 x1 x2 x3 x4 x5 d0 d9
                have hkd : (x.kind == 1) = decide (x.kind = 1) := by rw [Bool.eq_iff_iff]; simp
                have hi0 : ((i : Int) == 0) = decide (i = 0) := by rw [Bool.eq_iff_iff]; simp
                have hi1 : (i == 0) = decide (i = 0) := by rw [Bool.eq_iff_iff]; simp
                have hmn : ((mt : Int) != (np : Int)) = !decide (mt = np) := by rw [Bool.eq_iff_iff]; simp; omega
                obtain ⟨p1, hp⟩ : ∃ p, p = decide (x.kind = 1) := ⟨_, rfl⟩
                obtain ⟨q1, hq⟩ : ∃ q, q = decide (i = 0) := ⟨_, rfl⟩
                obtain ⟨r1, hr⟩ : ∃ r, r = decide (mt = np) := ⟨_, rfl⟩
                rw [← hp] at hkd HO
                rw [← hq] at hi0 hi1 HO
                rw [← hr] at hmn HO
                clear hp hq hr
                cases h1 : nodeV x with
                | false =>
                  rw [h1] at HY HO
                  clear h1
                  refine region_calm (by kernel_rfl) (by kernel_rfl) ?_
                  repeat (go_big_quiet_step (first | exact calm_of (HY _) | exact calm_of (HP _)))
                  refine wpQuiet_nil ?_
                  rintro _ ⟨V, rfl⟩
                  go_wp2_with fail
                  go_ret
                  refine ⟨nret_int ?_, hb.trans ((hb0.trans ((hbW.trans (V.2.mono hbW.size)).mono hb0.size)).mono hb.size)⟩
                  rw [HB.out]
                  refine checkI_no (fun h => ?_)
                  have h8 := h.2.2.2.2.2 i hil
                  rw [HO.out] at h8
                  simp at h8
                | true =>
                  rw [h1] at HY HO
                  clear h1
                  cases r1 with
                  | false =>
                    refine region_calm (by kernel_rfl) (by kernel_rfl) ?_
                    repeat (go_big_quiet_step (first | exact calm_of (HY _) | exact calm_of (HP _)))
                    refine wpQuiet_nil ?_
                    rintro _ ⟨V, rfl⟩
                    go_wp2_with fail
                    go_ret
                    refine ⟨nret_int ?_, hb.trans ((hb0.trans ((hbW.trans (V.2.mono hbW.size)).mono hb0.size)).mono hb.size)⟩
                    rw [HB.out]
                    refine checkI_no (fun h => ?_)
                    have h8 := h.2.2.2.2.2 i hil
                    rw [HO.out] at h8
                    simp at h8
                  | true =>
                    cases p1 with
                    | true =>
                      cases q1 with
                      | true =>
                        refine region_calm (by kernel_rfl) (by kernel_rfl) ?_
                        repeat (go_big_quiet_step (first | exact calm_of (HY _) | exact calm_of (HP _)))
                        refine wpQuiet_nil ?_
                        rintro _ ⟨V, rfl⟩
                        have v5 := z5 V
                        have v6 := z6 V
                        have v7 := z7 V
                        have hbV : Below wo.heap.size wo V.1 := hbW.trans (V.2.mono hbW.size)
                        have hwU : Below w1.heap.size w1 V.1 := hb0.trans (hbV.mono hb0.size)
                        obtain ⟨U, hU9⟩ : ∃ U, U = V.1 := ⟨_, rfl⟩
                        rw [← hU9] at v5 v6 v7 hbV hwU ⊢
                        clear hU9 V HY HP z0 z1 z2 z3 z4 z5 z6 z7 hbW
                        have hW0 := hb0.trans (hbV.mono hb0.size)
                        go_wp2_with fail
                        go_loopw [5] (fun y wr => ∃ k : Nat, k ≤ mt ∧ y = .int .i64 k ∧ Hid (∀ j, j < k → portOk l i j = true) ∧ Below U.heap.size U wr) (fun y _ => mt - (intOf y).toNat)
                        case atStart => exact ⟨0, Nat.zero_le _, rfl, Lib.hid (fun j hj => absurd hj (Nat.not_lt_zero _)), Below.refl _ _⟩
                        case round =>
                          obtain ⟨k, hk, rfl, hQ, hbk⟩ := hrel
                          have u5 := (hbk.cell (p := ⟨wo.heap.size, 5, none⟩) (ncell_lt v5)).trans v5
                          have e0 := (hbk.cell (p := ⟨w.heap.size, 0, none⟩) (ncell_lt v6)).trans v6
                          have e1 := (hbk.cell (p := ⟨w.heap.size, 1, none⟩) (ncell_lt v7)).trans v7
                          by_cases hlt2 : k < mt
                          · have hkl : k < x.to.length := by have := HMT.out; omega
                            obtain ⟨g2, o2, ⟨rfl, _⟩, d0, d1⟩ := HI.out.2.2 k hkl
                            have hWk := hwU.trans (hbk.mono hwU.size)
                            replace d0 := (hWk.cell (p := ⟨g2, o2 + k * 2, none⟩) (ncell_lt d0)).trans d0
                            replace d1 := (hWk.cell (p := ⟨g2, o2 + k * 2 + 1, none⟩) (ncell_lt d1)).trans d1
                            obtain ⟨a, ha⟩ : ∃ a, a = (x.to[k]'hkl).1 := ⟨_, rfl⟩
                            obtain ⟨b, hb9⟩ : ∃ b, b = (x.to[k]'hkl).2 := ⟨_, rfl⟩
                            rw [← ha] at d0
                            rw [← hb9] at d1
                            have HQ : Hid (toAt l ((i : Int), (k : Int)) = (a, b)) := Lib.hid (by rw [toAt_get (by rw [← HX.out]; exact hkl), ha, hb9]; simp only [← HX.out])
                            clear ha hb9
                            have HKL : Hid (k < (ndAt l i).to.length) := Lib.hid (by rw [← HX.out]; exact hkl)
                            have hbp : Below wr.heap.size wr (wr.alloc (.cells #[.int .i64 i, .int .i64 k] 46)) := (Below.refl _ wr).alloc (Nat.le_refl _) _
                            have u5p := (hbp.cell (p := ⟨wo.heap.size, 5, none⟩) (ncell_lt u5)).trans u5
                            have d0p := (hbp.cell (p := ⟨g2, o2 + k * 2, none⟩) (ncell_lt d0)).trans d0
                            have d1p := (hbp.cell (p := ⟨g2, o2 + k * 2 + 1, none⟩) (ncell_lt d1)).trans d1
                            obtain ⟨W, hW⟩ : ∃ W, W = ((wr.alloc (.cells #[.int .i64 i, .int .i64 k] 46)).alloc (.cells #[.int .i64 a, .int .i64 b] 46)) := ⟨_, rfl⟩
                            have hbW : Below wr.heap.size wr W := by rw [hW]; exact ((Below.refl _ wr).alloc (Nat.le_refl _) _).alloc (by simp) _
                            have L0 : Lies W wr.heap.size 46 #[.int .i64 i, .int .i64 k] := by rw [hW]; exact (Lies.new _ _ _).old _
                            have L1 : Lies W (wr.heap.size + 1) 46 #[.int .i64 a, .int .i64 b] := by rw [hW]; simpa using Lies.new (wr.alloc (.cells #[.int .i64 i, .int .i64 k] 46)) 46 #[.int .i64 a, .int .i64 b]
                            have q0 := Abv.cell (L0.cell 0)
                            have q1 := Abv.cell (L0.cell 1)
                            have q2 := Abv.cell (L1.cell 0)
                            have q3 := Abv.cell (L1.cell 1)
                            simp at q0 q1 q2 q3
                            have q4 := Abv.cell ((hbW.cell (p := ⟨w.heap.size, 0, none⟩) (ncell_lt e0)).trans e0)
                            have q5 := Abv.cell ((hbW.cell (p := ⟨w.heap.size, 1, none⟩) (ncell_lt e1)).trans e1)
                            have hkW := hbk.trans (hbW.mono hbk.size)
                            have hwW := hwU.trans (hkW.mono hwU.size)
                            have hU := hW0.trans (hkW.mono hW0.size)
                            have HT : ∀ V : Abv W, Calls Tryd.prog 23 #[.agg #[.slice (some ⟨g, o, none⟩) m c, .int .i64 cap], .agg #[.int .i64 a, .int .i64 b]] V.1 fun e w' => e = .returned (.bool (hasV l (a, b))) ∧ Below V.1.heap.size V.1 w' :=
                              fun V => has_any l (some ⟨g, o, none⟩) m c cap a b V.1 HM.out ((HN2.out.below hwW (Nat.le_refl _)).below V.2 (Nat.le_refl _))
                            go_upto_region 14 with fail
                            rw [← hW]
                            clear hW d0 d1 L0 L1 e0 e1 u5 u5p d0p d1p hbp
                            have HS : Hid (portOk l i k = (!((a, b) == ((i : Int), (k : Int))) && (hasV l (a, b) && toAt l (a, b) == ((i : Int), (k : Int))))) := Lib.hid (by rw [portOk, HQ.out])
                            by_cases e1 : a = (i : Int)
                            · subst e1
                              by_cases e2 : b = (k : Int)
                              · subst e2
                                refine region_calm (by kernel_rfl) (by kernel_rfl) ?_
                                repeat (go_big_quiet_step (fail))
                                refine wpQuiet_nil ?_
                                rintro _ ⟨V, rfl⟩
                                go_wp2_with fail
                                go_ret
                                refine ⟨nret_int ?_, hb.trans ((hU.trans (V.2.mono hU.size)).mono hb.size)⟩
                                have h9 : portOk l i k = false := by rw [HS.out]; simp
                                rw [HB.out]
                                exact check_bad hil HKL.out h9
                              · have H1 : Hid ((((i : Int), b) == ((i : Int), (k : Int))) = false) := Lib.hid (by simpa using e2)
                                cases h2 : hasV l ((i : Int), b) with
                                | false =>
                                  rw [h2] at HT
                                  refine region_calm (by kernel_rfl) (by kernel_rfl) ?_
                                  repeat (go_big_quiet_step (exact calm_of (HT _)))
                                  refine wpQuiet_nil ?_
                                  rintro _ ⟨V, rfl⟩
                                  go_wp2_with fail
                                  go_ret
                                  refine ⟨nret_int ?_, hb.trans ((hU.trans (V.2.mono hU.size)).mono hb.size)⟩
                                  have h9 : portOk l i k = false := by rw [HS.out, h2]; simp
                                  rw [HB.out]
                                  exact check_bad hil HKL.out h9
                                | true =>
                                  rw [h2] at HT
                                  obtain ⟨r0, r1, r2, r3⟩ := of_decide_eq_true h2
                                  simp only at r0 r1 r2 r3
                                  obtain ⟨k2, rfl⟩ : ∃ k2 : Nat, b = (k2 : Int) := ⟨b.toNat, by omega⟩
                                  have hi2l : i < l.length := by omega
                                  obtain ⟨g3, o3, x2, B2, bb2, C2, cc2, hx2, hgo, _, ⟨_, _, _, _, _, y5⟩, hI2⟩ := NdsIn.get HN2.out i hi2l
                                  cases hgo
                                  have hk2l : k2 < x2.to.length := by
                                    rw [Int.toNat_natCast, ← hx2] at r3
                                    omega
                                  obtain ⟨g4, o4, ⟨rfl, _⟩, f0, f1⟩ := hI2.2.2 k2 hk2l
                                  have z5 := Abv.cell ((hwW.cell (p := ⟨g, o + i * 6 + 5, none⟩) (ncell_lt y5)).trans y5)
                                  have z0 := Abv.cell ((hwW.cell (p := ⟨g4, o4 + k2 * 2, none⟩) (ncell_lt f0)).trans f0)
                                  have z1 := Abv.cell ((hwW.cell (p := ⟨g4, o4 + k2 * 2 + 1, none⟩) (ncell_lt f1)).trans f1)
                                  obtain ⟨ta, hta⟩ : ∃ ta, ta = (x2.to[k2]'hk2l).1 := ⟨_, rfl⟩
                                  obtain ⟨tb, htb⟩ : ∃ tb, tb = (x2.to[k2]'hk2l).2 := ⟨_, rfl⟩
                                  obtain ⟨mt2, hmt2⟩ : ∃ mt2, mt2 = x2.to.length := ⟨_, rfl⟩
                                  rw [← hta] at z0
                                  rw [← htb] at z1
                                  rw [← hmt2] at z5
                                  have HQ2 : Hid (toAt l ((i : Int), (k2 : Int)) = (ta, tb)) := Lib.hid (by rw [toAt_get (by rw [← hx2]; exact hk2l), hta, htb]; simp only [← hx2])
                                  have hi2m : i < m := by have := HM.out; omega
                                  have hk2m : k2 < mt2 := by omega
                                  have hcap2 := le_capN mt2 cc2
                                  have H2 := Lib.hid h2
                                  clear hta htb hmt2 hx2 y5 f0 f1 r0 r1 r2 r3 hI2 hk2l hi2l h2
                                  by_cases k1 : ta = (i : Int)
                                  · by_cases k2 : tb = (k : Int)
                                    · subst k1 k2
                                      refine region_calm (by kernel_rfl) (by kernel_rfl) ?_
                                      repeat (go_big_quiet_step (exact calm_of (HT _)))
                                      refine wpQuiet_nil ?_
                                      rintro _ ⟨V, rfl⟩
                                      go_wp2_with fail
                                      go_roundw
                                      case rel =>
                                        have hOK : portOk l i k = true := by rw [HS.out, H2.out, HQ2.out, H1.out]; simp
                                        go_light
                                        refine ⟨k + 1, by omega, by go_num, Lib.hid (fun j hj => ?_), hkW.trans (V.2.mono hkW.size)⟩
                                        by_cases e : j = k
                                        · subst e; exact hOK
                                        · exact hQ.out j (by omega)
                                      case measure => simp [intOf]; omega
                                    · subst k1
                                      refine region_calm (by kernel_rfl) (by kernel_rfl) ?_
                                      repeat (go_big_quiet_step (exact calm_of (HT _)))
                                      refine wpQuiet_nil ?_
                                      rintro _ ⟨V, rfl⟩
                                      go_wp2_with fail
                                      go_ret
                                      refine ⟨nret_int ?_, hb.trans ((hU.trans (V.2.mono hU.size)).mono hb.size)⟩
                                      have h9 : portOk l i k = false := by rw [HS.out, H2.out, HQ2.out, H1.out]; simp; exact k2
                                      rw [HB.out]
                                      exact check_bad hil HKL.out h9
                                  · refine region_calm (by kernel_rfl) (by kernel_rfl) ?_
                                    repeat (go_big_quiet_step (exact calm_of (HT _)))
                                    refine wpQuiet_nil ?_
                                    rintro _ ⟨V, rfl⟩
                                    go_wp2_with fail
                                    go_ret
                                    refine ⟨nret_int ?_, hb.trans ((hU.trans (V.2.mono hU.size)).mono hb.size)⟩
                                    have h9 : portOk l i k = false := by rw [HS.out, H2.out, HQ2.out, H1.out]; simp; intro h; exact absurd h k1
                                    rw [HB.out]
                                    exact check_bad hil HKL.out h9
                            · have H1 : Hid (((a, b) == ((i : Int), (k : Int))) = false) := Lib.hid (by simp; intro h; exact absurd h e1)
                              cases h2 : hasV l (a, b) with
                              | false =>
                                rw [h2] at HT
                                refine region_calm (by kernel_rfl) (by kernel_rfl) ?_
                                repeat (go_big_quiet_step (exact calm_of (HT _)))
                                refine wpQuiet_nil ?_
                                rintro _ ⟨V, rfl⟩
                                go_wp2_with fail
                                go_ret
                                refine ⟨nret_int ?_, hb.trans ((hU.trans (V.2.mono hU.size)).mono hb.size)⟩
                                have h9 : portOk l i k = false := by rw [HS.out, h2]; simp
                                rw [HB.out]
                                exact check_bad hil HKL.out h9
                              | true =>
                                rw [h2] at HT
                                obtain ⟨r0, r1, r2, r3⟩ := of_decide_eq_true h2
                                simp only at r0 r1 r2 r3
                                obtain ⟨i2, rfl⟩ : ∃ i2 : Nat, a = (i2 : Int) := ⟨a.toNat, by omega⟩
                                obtain ⟨k2, rfl⟩ : ∃ k2 : Nat, b = (k2 : Int) := ⟨b.toNat, by omega⟩
                                have hi2l : i2 < l.length := by omega
                                obtain ⟨g3, o3, x2, B2, bb2, C2, cc2, hx2, hgo, _, ⟨_, _, _, _, _, y5⟩, hI2⟩ := NdsIn.get HN2.out i2 hi2l
                                cases hgo
                                have hk2l : k2 < x2.to.length := by
                                  rw [Int.toNat_natCast, ← hx2] at r3
                                  omega
                                obtain ⟨g4, o4, ⟨rfl, _⟩, f0, f1⟩ := hI2.2.2 k2 hk2l
                                have z5 := Abv.cell ((hwW.cell (p := ⟨g, o + i2 * 6 + 5, none⟩) (ncell_lt y5)).trans y5)
                                have z0 := Abv.cell ((hwW.cell (p := ⟨g4, o4 + k2 * 2, none⟩) (ncell_lt f0)).trans f0)
                                have z1 := Abv.cell ((hwW.cell (p := ⟨g4, o4 + k2 * 2 + 1, none⟩) (ncell_lt f1)).trans f1)
                                obtain ⟨ta, hta⟩ : ∃ ta, ta = (x2.to[k2]'hk2l).1 := ⟨_, rfl⟩
                                obtain ⟨tb, htb⟩ : ∃ tb, tb = (x2.to[k2]'hk2l).2 := ⟨_, rfl⟩
                                obtain ⟨mt2, hmt2⟩ : ∃ mt2, mt2 = x2.to.length := ⟨_, rfl⟩
                                rw [← hta] at z0
                                rw [← htb] at z1
                                rw [← hmt2] at z5
                                have HQ2 : Hid (toAt l ((i2 : Int), (k2 : Int)) = (ta, tb)) := Lib.hid (by rw [toAt_get (by rw [← hx2]; exact hk2l), hta, htb]; simp only [← hx2])
                                have hi2m : i2 < m := by have := HM.out; omega
                                have hk2m : k2 < mt2 := by omega
                                have hcap2 := le_capN mt2 cc2
                                have H2 := Lib.hid h2
                                clear hta htb hmt2 hx2 y5 f0 f1 r0 r1 r2 r3 hI2 hk2l hi2l h2
                                by_cases k1 : ta = (i : Int)
                                · by_cases k2 : tb = (k : Int)
                                  · subst k1 k2
                                    refine region_calm (by kernel_rfl) (by kernel_rfl) ?_
                                    repeat (go_big_quiet_step (exact calm_of (HT _)))
                                    refine wpQuiet_nil ?_
                                    rintro _ ⟨V, rfl⟩
                                    go_wp2_with fail
                                    go_roundw
                                    case rel =>
                                      have hOK : portOk l i k = true := by rw [HS.out, H2.out, HQ2.out, H1.out]; simp
                                      go_light
                                      refine ⟨k + 1, by omega, by go_num, Lib.hid (fun j hj => ?_), hkW.trans (V.2.mono hkW.size)⟩
                                      by_cases e : j = k
                                      · subst e; exact hOK
                                      · exact hQ.out j (by omega)
                                    case measure => simp [intOf]; omega
                                  · subst k1
                                    refine region_calm (by kernel_rfl) (by kernel_rfl) ?_
                                    repeat (go_big_quiet_step (exact calm_of (HT _)))
                                    refine wpQuiet_nil ?_
                                    rintro _ ⟨V, rfl⟩
                                    go_wp2_with fail
                                    go_ret
                                    refine ⟨nret_int ?_, hb.trans ((hU.trans (V.2.mono hU.size)).mono hb.size)⟩
                                    have h9 : portOk l i k = false := by rw [HS.out, H2.out, HQ2.out, H1.out]; simp; exact k2
                                    rw [HB.out]
                                    exact check_bad hil HKL.out h9
                                · refine region_calm (by kernel_rfl) (by kernel_rfl) ?_
                                  repeat (go_big_quiet_step (exact calm_of (HT _)))
                                  refine wpQuiet_nil ?_
                                  rintro _ ⟨V, rfl⟩
                                  go_wp2_with fail
                                  go_ret
                                  refine ⟨nret_int ?_, hb.trans ((hU.trans (V.2.mono hU.size)).mono hb.size)⟩
                                  have h9 : portOk l i k = false := by rw [HS.out, H2.out, HQ2.out, H1.out]; simp; intro h; exact absurd h k1
                                  rw [HB.out]
                                  exact check_bad hil HKL.out h9
                          · have hkm : k = mt := by omega
                            subst hkm
                            go_wp2_with fail
                            go_roundw
                            case rel =>
                              have hOK : atOk l i = true := by
                                rw [HO.out, Bool.true_and]
                                rw [linkedV, ← HX.out]
                                rw [show decide (∀ k, k < x.to.length → portOk l i k = true) = true from decide_eq_true (fun j hj => hQ.out j (by have := HMT.out; omega))]
                                rfl
                              go_light
                              refine ⟨i + 1, by omega, by go_num, Lib.hid (fun j hj => ?_), hb0.trans ((hbV.trans (hbk.mono hbV.size)).mono hb0.size)⟩
                              by_cases e : j = i
                              · subst e; exact hOK
                              · exact hP.out j (by omega)
                            case measure => simp [intOf]; omega
                      | false =>
                        refine region_calm (by kernel_rfl) (by kernel_rfl) ?_
                        repeat (go_big_quiet_step (first | exact calm_of (HY _) | exact calm_of (HP _)))
                        refine wpQuiet_nil ?_
                        rintro _ ⟨V, rfl⟩
                        go_wp2_with fail
                        go_ret
                        refine ⟨nret_int ?_, hb.trans ((hb0.trans ((hbW.trans (V.2.mono hbW.size)).mono hb0.size)).mono hb.size)⟩
                        rw [HB.out]
                        refine checkI_no (fun h => ?_)
                        have h8 := h.2.2.2.2.2 i hil
                        rw [HO.out] at h8
                        simp at h8
                    | false =>
                      cases q1 with
                      | true =>
                        refine region_calm (by kernel_rfl) (by kernel_rfl) ?_
                        repeat (go_big_quiet_step (first | exact calm_of (HY _) | exact calm_of (HP _)))
                        refine wpQuiet_nil ?_
                        rintro _ ⟨V, rfl⟩
                        go_wp2_with fail
                        go_ret
                        refine ⟨nret_int ?_, hb.trans ((hb0.trans ((hbW.trans (V.2.mono hbW.size)).mono hb0.size)).mono hb.size)⟩
                        rw [HB.out]
                        refine checkI_no (fun h => ?_)
                        have h8 := h.2.2.2.2.2 i hil
                        rw [HO.out] at h8
                        simp at h8
                      | false =>
                        refine region_calm (by kernel_rfl) (by kernel_rfl) ?_
                        repeat (go_big_quiet_step (first | exact calm_of (HY _) | exact calm_of (HP _)))
                        refine wpQuiet_nil ?_
                        rintro _ ⟨V, rfl⟩
                        have v5 := z5 V
                        have v6 := z6 V
                        have v7 := z7 V
                        have hbV : Below wo.heap.size wo V.1 := hbW.trans (V.2.mono hbW.size)
                        have hwU : Below w1.heap.size w1 V.1 := hb0.trans (hbV.mono hb0.size)
                        obtain ⟨U, hU9⟩ : ∃ U, U = V.1 := ⟨_, rfl⟩
                        rw [← hU9] at v5 v6 v7 hbV hwU ⊢
                        clear hU9 V HY HP z0 z1 z2 z3 z4 z5 z6 z7 hbW
                        have hW0 := hb0.trans (hbV.mono hb0.size)
                        go_wp2_with fail
                        go_loopw [5] (fun y wr => ∃ k : Nat, k ≤ mt ∧ y = .int .i64 k ∧ Hid (∀ j, j < k → portOk l i j = true) ∧ Below U.heap.size U wr) (fun y _ => mt - (intOf y).toNat)
                        case atStart => exact ⟨0, Nat.zero_le _, rfl, Lib.hid (fun j hj => absurd hj (Nat.not_lt_zero _)), Below.refl _ _⟩
                        case round =>
                          obtain ⟨k, hk, rfl, hQ, hbk⟩ := hrel
                          have u5 := (hbk.cell (p := ⟨wo.heap.size, 5, none⟩) (ncell_lt v5)).trans v5
                          have e0 := (hbk.cell (p := ⟨w.heap.size, 0, none⟩) (ncell_lt v6)).trans v6
                          have e1 := (hbk.cell (p := ⟨w.heap.size, 1, none⟩) (ncell_lt v7)).trans v7
                          by_cases hlt2 : k < mt
                          · have hkl : k < x.to.length := by have := HMT.out; omega
                            obtain ⟨g2, o2, ⟨rfl, _⟩, d0, d1⟩ := HI.out.2.2 k hkl
                            have hWk := hwU.trans (hbk.mono hwU.size)
                            replace d0 := (hWk.cell (p := ⟨g2, o2 + k * 2, none⟩) (ncell_lt d0)).trans d0
                            replace d1 := (hWk.cell (p := ⟨g2, o2 + k * 2 + 1, none⟩) (ncell_lt d1)).trans d1
                            obtain ⟨a, ha⟩ : ∃ a, a = (x.to[k]'hkl).1 := ⟨_, rfl⟩
                            obtain ⟨b, hb9⟩ : ∃ b, b = (x.to[k]'hkl).2 := ⟨_, rfl⟩
                            rw [← ha] at d0
                            rw [← hb9] at d1
                            have HQ : Hid (toAt l ((i : Int), (k : Int)) = (a, b)) := Lib.hid (by rw [toAt_get (by rw [← HX.out]; exact hkl), ha, hb9]; simp only [← HX.out])
                            clear ha hb9
                            have HKL : Hid (k < (ndAt l i).to.length) := Lib.hid (by rw [← HX.out]; exact hkl)
                            have hbp : Below wr.heap.size wr (wr.alloc (.cells #[.int .i64 i, .int .i64 k] 46)) := (Below.refl _ wr).alloc (Nat.le_refl _) _
                            have u5p := (hbp.cell (p := ⟨wo.heap.size, 5, none⟩) (ncell_lt u5)).trans u5
                            have d0p := (hbp.cell (p := ⟨g2, o2 + k * 2, none⟩) (ncell_lt d0)).trans d0
                            have d1p := (hbp.cell (p := ⟨g2, o2 + k * 2 + 1, none⟩) (ncell_lt d1)).trans d1
                            obtain ⟨W, hW⟩ : ∃ W, W = ((wr.alloc (.cells #[.int .i64 i, .int .i64 k] 46)).alloc (.cells #[.int .i64 a, .int .i64 b] 46)) := ⟨_, rfl⟩
                            have hbW : Below wr.heap.size wr W := by rw [hW]; exact ((Below.refl _ wr).alloc (Nat.le_refl _) _).alloc (by simp) _
                            have L0 : Lies W wr.heap.size 46 #[.int .i64 i, .int .i64 k] := by rw [hW]; exact (Lies.new _ _ _).old _
                            have L1 : Lies W (wr.heap.size + 1) 46 #[.int .i64 a, .int .i64 b] := by rw [hW]; simpa using Lies.new (wr.alloc (.cells #[.int .i64 i, .int .i64 k] 46)) 46 #[.int .i64 a, .int .i64 b]
                            have q0 := Abv.cell (L0.cell 0)
                            have q1 := Abv.cell (L0.cell 1)
                            have q2 := Abv.cell (L1.cell 0)
                            have q3 := Abv.cell (L1.cell 1)
                            simp at q0 q1 q2 q3
                            have q4 := Abv.cell ((hbW.cell (p := ⟨w.heap.size, 0, none⟩) (ncell_lt e0)).trans e0)
                            have q5 := Abv.cell ((hbW.cell (p := ⟨w.heap.size, 1, none⟩) (ncell_lt e1)).trans e1)
                            have hkW := hbk.trans (hbW.mono hbk.size)
                            have hwW := hwU.trans (hkW.mono hwU.size)
                            have hU := hW0.trans (hkW.mono hW0.size)
                            have HT : ∀ V : Abv W, Calls Tryd.prog 23 #[.agg #[.slice (some ⟨g, o, none⟩) m c, .int .i64 cap], .agg #[.int .i64 a, .int .i64 b]] V.1 fun e w' => e = .returned (.bool (hasV l (a, b))) ∧ Below V.1.heap.size V.1 w' :=
                              fun V => has_any l (some ⟨g, o, none⟩) m c cap a b V.1 HM.out ((HN2.out.below hwW (Nat.le_refl _)).below V.2 (Nat.le_refl _))
                            go_upto_region 14 with fail
                            rw [← hW]
                            clear hW d0 d1 L0 L1 e0 e1 u5 u5p d0p d1p hbp
                            have HS : Hid (portOk l i k = (!((a, b) == ((i : Int), (k : Int))) && (hasV l (a, b) && toAt l (a, b) == ((i : Int), (k : Int))))) := Lib.hid (by rw [portOk, HQ.out])
                            by_cases e1 : a = (i : Int)
                            · subst e1
                              by_cases e2 : b = (k : Int)
                              · subst e2
                                refine region_calm (by kernel_rfl) (by kernel_rfl) ?_
                                repeat (go_big_quiet_step (fail))
                                refine wpQuiet_nil ?_
                                rintro _ ⟨V, rfl⟩
                                go_wp2_with fail
                                go_ret
                                refine ⟨nret_int ?_, hb.trans ((hU.trans (V.2.mono hU.size)).mono hb.size)⟩
                                have h9 : portOk l i k = false := by rw [HS.out]; simp
                                rw [HB.out]
                                exact check_bad hil HKL.out h9
                              · have H1 : Hid ((((i : Int), b) == ((i : Int), (k : Int))) = false) := Lib.hid (by simpa using e2)
                                cases h2 : hasV l ((i : Int), b) with
                                | false =>
                                  rw [h2] at HT
                                  refine region_calm (by kernel_rfl) (by kernel_rfl) ?_
                                  repeat (go_big_quiet_step (exact calm_of (HT _)))
                                  refine wpQuiet_nil ?_
                                  rintro _ ⟨V, rfl⟩
                                  go_wp2_with fail
                                  go_ret
                                  refine ⟨nret_int ?_, hb.trans ((hU.trans (V.2.mono hU.size)).mono hb.size)⟩
                                  have h9 : portOk l i k = false := by rw [HS.out, h2]; simp
                                  rw [HB.out]
                                  exact check_bad hil HKL.out h9
                                | true =>
                                  rw [h2] at HT
                                  obtain ⟨r0, r1, r2, r3⟩ := of_decide_eq_true h2
                                  simp only at r0 r1 r2 r3
                                  obtain ⟨k2, rfl⟩ : ∃ k2 : Nat, b = (k2 : Int) := ⟨b.toNat, by omega⟩
                                  have hi2l : i < l.length := by omega
                                  obtain ⟨g3, o3, x2, B2, bb2, C2, cc2, hx2, hgo, _, ⟨_, _, _, _, _, y5⟩, hI2⟩ := NdsIn.get HN2.out i hi2l
                                  cases hgo
                                  have hk2l : k2 < x2.to.length := by
                                    rw [Int.toNat_natCast, ← hx2] at r3
                                    omega
                                  obtain ⟨g4, o4, ⟨rfl, _⟩, f0, f1⟩ := hI2.2.2 k2 hk2l
                                  have z5 := Abv.cell ((hwW.cell (p := ⟨g, o + i * 6 + 5, none⟩) (ncell_lt y5)).trans y5)
                                  have z0 := Abv.cell ((hwW.cell (p := ⟨g4, o4 + k2 * 2, none⟩) (ncell_lt f0)).trans f0)
                                  have z1 := Abv.cell ((hwW.cell (p := ⟨g4, o4 + k2 * 2 + 1, none⟩) (ncell_lt f1)).trans f1)
                                  obtain ⟨ta, hta⟩ : ∃ ta, ta = (x2.to[k2]'hk2l).1 := ⟨_, rfl⟩
                                  obtain ⟨tb, htb⟩ : ∃ tb, tb = (x2.to[k2]'hk2l).2 := ⟨_, rfl⟩
                                  obtain ⟨mt2, hmt2⟩ : ∃ mt2, mt2 = x2.to.length := ⟨_, rfl⟩
                                  rw [← hta] at z0
                                  rw [← htb] at z1
                                  rw [← hmt2] at z5
                                  have HQ2 : Hid (toAt l ((i : Int), (k2 : Int)) = (ta, tb)) := Lib.hid (by rw [toAt_get (by rw [← hx2]; exact hk2l), hta, htb]; simp only [← hx2])
                                  have hi2m : i < m := by have := HM.out; omega
                                  have hk2m : k2 < mt2 := by omega
                                  have hcap2 := le_capN mt2 cc2
                                  have H2 := Lib.hid h2
                                  clear hta htb hmt2 hx2 y5 f0 f1 r0 r1 r2 r3 hI2 hk2l hi2l h2
                                  by_cases k1 : ta = (i : Int)
                                  · by_cases k2 : tb = (k : Int)
                                    · subst k1 k2
                                      refine region_calm (by kernel_rfl) (by kernel_rfl) ?_
                                      repeat (go_big_quiet_step (exact calm_of (HT _)))
                                      refine wpQuiet_nil ?_
                                      rintro _ ⟨V, rfl⟩
                                      go_wp2_with fail
                                      go_roundw
                                      case rel =>
                                        have hOK : portOk l i k = true := by rw [HS.out, H2.out, HQ2.out, H1.out]; simp
                                        go_light
                                        refine ⟨k + 1, by omega, by go_num, Lib.hid (fun j hj => ?_), hkW.trans (V.2.mono hkW.size)⟩
                                        by_cases e : j = k
                                        · subst e; exact hOK
                                        · exact hQ.out j (by omega)
                                      case measure => simp [intOf]; omega
                                    · subst k1
                                      refine region_calm (by kernel_rfl) (by kernel_rfl) ?_
                                      repeat (go_big_quiet_step (exact calm_of (HT _)))
                                      refine wpQuiet_nil ?_
                                      rintro _ ⟨V, rfl⟩
                                      go_wp2_with fail
                                      go_ret
                                      refine ⟨nret_int ?_, hb.trans ((hU.trans (V.2.mono hU.size)).mono hb.size)⟩
                                      have h9 : portOk l i k = false := by rw [HS.out, H2.out, HQ2.out, H1.out]; simp; exact k2
                                      rw [HB.out]
                                      exact check_bad hil HKL.out h9
                                  · refine region_calm (by kernel_rfl) (by kernel_rfl) ?_
                                    repeat (go_big_quiet_step (exact calm_of (HT _)))
                                    refine wpQuiet_nil ?_
                                    rintro _ ⟨V, rfl⟩
                                    go_wp2_with fail
                                    go_ret
                                    refine ⟨nret_int ?_, hb.trans ((hU.trans (V.2.mono hU.size)).mono hb.size)⟩
                                    have h9 : portOk l i k = false := by rw [HS.out, H2.out, HQ2.out, H1.out]; simp; intro h; exact absurd h k1
                                    rw [HB.out]
                                    exact check_bad hil HKL.out h9
                            · have H1 : Hid (((a, b) == ((i : Int), (k : Int))) = false) := Lib.hid (by simp; intro h; exact absurd h e1)
                              cases h2 : hasV l (a, b) with
                              | false =>
                                rw [h2] at HT
                                refine region_calm (by kernel_rfl) (by kernel_rfl) ?_
                                repeat (go_big_quiet_step (exact calm_of (HT _)))
                                refine wpQuiet_nil ?_
                                rintro _ ⟨V, rfl⟩
                                go_wp2_with fail
                                go_ret
                                refine ⟨nret_int ?_, hb.trans ((hU.trans (V.2.mono hU.size)).mono hb.size)⟩
                                have h9 : portOk l i k = false := by rw [HS.out, h2]; simp
                                rw [HB.out]
                                exact check_bad hil HKL.out h9
                              | true =>
                                rw [h2] at HT
                                obtain ⟨r0, r1, r2, r3⟩ := of_decide_eq_true h2
                                simp only at r0 r1 r2 r3
                                obtain ⟨i2, rfl⟩ : ∃ i2 : Nat, a = (i2 : Int) := ⟨a.toNat, by omega⟩
                                obtain ⟨k2, rfl⟩ : ∃ k2 : Nat, b = (k2 : Int) := ⟨b.toNat, by omega⟩
                                have hi2l : i2 < l.length := by omega
                                obtain ⟨g3, o3, x2, B2, bb2, C2, cc2, hx2, hgo, _, ⟨_, _, _, _, _, y5⟩, hI2⟩ := NdsIn.get HN2.out i2 hi2l
                                cases hgo
                                have hk2l : k2 < x2.to.length := by
                                  rw [Int.toNat_natCast, ← hx2] at r3
                                  omega
                                obtain ⟨g4, o4, ⟨rfl, _⟩, f0, f1⟩ := hI2.2.2 k2 hk2l
                                have z5 := Abv.cell ((hwW.cell (p := ⟨g, o + i2 * 6 + 5, none⟩) (ncell_lt y5)).trans y5)
                                have z0 := Abv.cell ((hwW.cell (p := ⟨g4, o4 + k2 * 2, none⟩) (ncell_lt f0)).trans f0)
                                have z1 := Abv.cell ((hwW.cell (p := ⟨g4, o4 + k2 * 2 + 1, none⟩) (ncell_lt f1)).trans f1)
                                obtain ⟨ta, hta⟩ : ∃ ta, ta = (x2.to[k2]'hk2l).1 := ⟨_, rfl⟩
                                obtain ⟨tb, htb⟩ : ∃ tb, tb = (x2.to[k2]'hk2l).2 := ⟨_, rfl⟩
                                obtain ⟨mt2, hmt2⟩ : ∃ mt2, mt2 = x2.to.length := ⟨_, rfl⟩
                                rw [← hta] at z0
                                rw [← htb] at z1
                                rw [← hmt2] at z5
                                have HQ2 : Hid (toAt l ((i2 : Int), (k2 : Int)) = (ta, tb)) := Lib.hid (by rw [toAt_get (by rw [← hx2]; exact hk2l), hta, htb]; simp only [← hx2])
                                have hi2m : i2 < m := by have := HM.out; omega
                                have hk2m : k2 < mt2 := by omega
                                have hcap2 := le_capN mt2 cc2
                                have H2 := Lib.hid h2
                                clear hta htb hmt2 hx2 y5 f0 f1 r0 r1 r2 r3 hI2 hk2l hi2l h2
                                by_cases k1 : ta = (i : Int)
                                · by_cases k2 : tb = (k : Int)
                                  · subst k1 k2
                                    refine region_calm (by kernel_rfl) (by kernel_rfl) ?_
                                    repeat (go_big_quiet_step (exact calm_of (HT _)))
                                    refine wpQuiet_nil ?_
                                    rintro _ ⟨V, rfl⟩
                                    go_wp2_with fail
                                    go_roundw
                                    case rel =>
                                      have hOK : portOk l i k = true := by rw [HS.out, H2.out, HQ2.out, H1.out]; simp
                                      go_light
                                      refine ⟨k + 1, by omega, by go_num, Lib.hid (fun j hj => ?_), hkW.trans (V.2.mono hkW.size)⟩
                                      by_cases e : j = k
                                      · subst e; exact hOK
                                      · exact hQ.out j (by omega)
                                    case measure => simp [intOf]; omega
                                  · subst k1
                                    refine region_calm (by kernel_rfl) (by kernel_rfl) ?_
                                    repeat (go_big_quiet_step (exact calm_of (HT _)))
                                    refine wpQuiet_nil ?_
                                    rintro _ ⟨V, rfl⟩
                                    go_wp2_with fail
                                    go_ret
                                    refine ⟨nret_int ?_, hb.trans ((hU.trans (V.2.mono hU.size)).mono hb.size)⟩
                                    have h9 : portOk l i k = false := by rw [HS.out, H2.out, HQ2.out, H1.out]; simp; exact k2
                                    rw [HB.out]
                                    exact check_bad hil HKL.out h9
                                · refine region_calm (by kernel_rfl) (by kernel_rfl) ?_
                                  repeat (go_big_quiet_step (exact calm_of (HT _)))
                                  refine wpQuiet_nil ?_
                                  rintro _ ⟨V, rfl⟩
                                  go_wp2_with fail
                                  go_ret
                                  refine ⟨nret_int ?_, hb.trans ((hU.trans (V.2.mono hU.size)).mono hb.size)⟩
                                  have h9 : portOk l i k = false := by rw [HS.out, H2.out, HQ2.out, H1.out]; simp; intro h; exact absurd h k1
                                  rw [HB.out]
                                  exact check_bad hil HKL.out h9
                          · have hkm : k = mt := by omega
                            subst hkm
                            go_wp2_with fail
                            go_roundw
                            case rel =>
                              have hOK : atOk l i = true := by
                                rw [HO.out, Bool.true_and]
                                rw [linkedV, ← HX.out]
                                rw [show decide (∀ k, k < x.to.length → portOk l i k = true) = true from decide_eq_true (fun j hj => hQ.out j (by have := HMT.out; omega))]
                                rfl
                              go_light
                              refine ⟨i + 1, by omega, by go_num, Lib.hid (fun j hj => ?_), hb0.trans ((hbV.trans (hbk.mono hbV.size)).mono hb0.size)⟩
                              by_cases e : j = i
                              · subst e; exact hOK
                              · exact hP.out j (by omega)
                            case measure => simp [intOf]; omega
              · have hmi : i = m := by omega
                subst hmi
                go_wp2_with fail
                go_ret
                refine ⟨nret_int ?_, hb.trans (hb0.mono hb.size)⟩
                rw [HB.out, checkI, if_pos]
                rw [checkV, decide_eq_true_eq]
                have := HM.out
                exact ⟨by omega, by omega, by omega, by omega, HK.out, fun j hj => hP.out j (by omega)⟩
end Lx
end Go.Proofs.YtceblpjlklogpaaDoor
