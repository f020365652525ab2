/-
  Texts that lie one behind the other: NlJ NlK NlL NlM.
-/
import Derived.Test.YtceblpjlklogpaaDoorC2
import Derived.Laws.AppendOwn
import Derived.Laws.MakeOwn
namespace Go.Proofs.YtceblpjlklogpaaDoor
open Go.RowKit
namespace Lx
set_option maxRecDepth 100000
/-- The first free place as a number, -1 where there is none. -/
def freeI (l : List Nd) : Int := match freeAt l with
  | some i => i
  | none => -1
set_option maxHeartbeats 4000000 in
theorem indexN_any (l : List Nd) (A : Option Addr) (m c : Nat) (w : World) (hm : m = l.length) (hl : m ≤ 140737488351232) (hN : NdsIn w AnyB l A) :
    Calls Tryd.prog 27 #[.slice A m c, .func (.func 25) #[] #[]] w fun e w' => e = .returned (.int .i64 (freeI l)) ∧ Below w.heap.size w w' := by
  have HN := Lib.hid hN
  have HM := Lib.hid hm
  clear hN hm
  obtain ⟨β, hβ⟩ : ∃ β, β = freeI l := ⟨_, rfl⟩
  rw [← hβ]
  have HB := Lib.hid hβ
  clear hβ
  go_enter Tryd.func27, Tryd.ntmps27
  go_wp2_with fail
  go_loopw [8] (fun x wr => ∃ i : Nat, i ≤ m ∧ x = .int .i64 i ∧ Hid (∀ j, j < i → (ndAt l j).kind ≠ 0) ∧ Below w.heap.size w wr) (fun x _ => m - (intOf x).toNat)
  case atStart => exact ⟨0, Nat.zero_le _, rfl, Lib.hid (fun j hj => absurd hj (Nat.not_lt_zero _)), Below.refl _ _⟩
  case round =>
    obtain ⟨i, hi, rfl, hT, hbr⟩ := hrel
    by_cases hlt : i < m
    · have hil : i < l.length := by have := HM.out; omega
      obtain ⟨g, o, x, B, bb, C, cc, hx, rfl, _, ⟨x0, x1, x2, x3, x4, x5⟩, hI⟩ := NdsIn.get (HN.out.below hbr (Nat.le_refl _)) i hil
      have HX := Lib.hid hx
      have HC := Lib.hid (isFree_any x B C bb cc wr)
      unfold ndv at HC
      clear hx hI
      cases hk : (x.kind == 0) with
      | true =>
        rw [hk] at HC
        have HK := Lib.hid hk
        clear hk
        go_wp2_with fail
        refine HC.out.mono ?_
        rintro e w2 ⟨rfl, hb2⟩
        go_wp2_with fail
        go_ret
        refine ⟨nret_int ?_, hbr.trans (hb2.mono hbr.size)⟩
        rw [HB.out, freeI, freeAt_is hil (by rw [← HX.out]; simpa using HK.out) hT.out]
      | false =>
        rw [hk] at HC
        have HK := Lib.hid hk
        clear hk
        go_wp2_with fail
        refine HC.out.mono ?_
        rintro e w2 ⟨rfl, hb2⟩
        go_wp2_with fail
        go_roundw
        case rel =>
          go_light
          refine ⟨i + 1, by omega, by go_num, Lib.hid (fun j hj => ?_), hbr.trans (hb2.mono hbr.size)⟩
          by_cases e : j = i
          · subst e; rw [← HX.out]; simpa using HK.out
          · exact hT.out j (by omega)
        case measure => simp [intOf]; omega
    · go_wp2_with fail
      go_ret
      refine ⟨nret_int ?_, hbr⟩
      rw [HB.out, freeI, freeAt_no (fun j hj => hT.out j (by have := HM.out; omega))]
theorem six_cells {w : World} {g : Nat} {t : TypeId} {a b c d e f : Value} (h : Lies w g t #[a, b, c, d, e, f]) :
    w.cell? ⟨g, 0, none⟩ = some a ∧ w.cell? ⟨g, 1, none⟩ = some b ∧ w.cell? ⟨g, 2, none⟩ = some c ∧ w.cell? ⟨g, 3, none⟩ = some d ∧ w.cell? ⟨g, 4, none⟩ = some e ∧ w.cell? ⟨g, 5, none⟩ = some f :=
  ⟨h.cell 0, h.cell 1, h.cell 2, h.cell 3, h.cell 4, h.cell 5⟩
/-- A net may be, or not. -/
def checkI (l : List Nd) (cap : Int) : Int := if checkV l cap = true then 0 else 120
theorem checkI_no {l : List Nd} {cap : Int} (h : ¬ (1 ≤ cap ∧ cap ≤ 4000 ∧ 1 ≤ l.length ∧ (l.length : Int) ≤ cap ∧ (ndAt l (l.length - 1)).kind ≠ 0 ∧ ∀ i, i < l.length → atOk l i = true)) : (120 : Int) = checkI l cap := by
  rw [checkI, if_neg]
  rw [checkV, decide_eq_true_eq]
  exact h
set_option maxHeartbeats 8000000 in
theorem check_any (l : List Nd) (A : Option Addr) (m c : Nat) (cap : Int) (w : World) (hm : m = l.length) (hl : m ≤ 140737488351232) (hN : NdsIn w AnyB l A) (hT : PTab w) : Calls Tryd.prog 19 #[.agg #[.slice A m c, .int .i64 cap]] w fun e w' => e = .returned (.int .i64 (checkI l cap)) ∧ Below w.heap.size w w' := by
  obtain ⟨w1, hw1⟩ : ∃ w1, w1 = (w.alloc (.cells #[.slice A m c, .int .i64 cap] 24)) := ⟨_, rfl⟩
  have hb : Below w.heap.size w w1 := by rw [hw1]; exact (Below.refl _ w).alloc (Nat.le_refl _) _
  have L : Lies w1 w.heap.size 24 #[.slice A m c, .int .i64 cap] := by rw [hw1]; exact Lies.new _ _ _
  have c0 := L.cell 0
  have c1 := L.cell 1
  simp at c0 c1
  have HN := Lib.hid (hN.below hb (Nat.le_refl _))
  have HT := Lib.hid (hT.below hb (Nat.le_refl _))
  have HM := Lib.hid hm
  obtain ⟨β, hβ⟩ : ∃ β, β = checkI l cap := ⟨_, rfl⟩
  rw [← hβ]
  have HB := Lib.hid hβ
  clear hβ hN hT hm
  go_enter Tryd.func19, Tryd.ntmps19
  go_upto_region 1 with fail
  rw [← hw1]
  clear hw1
  have hg := ncell_lt c0
  by_cases k1 : cap < 1
  · have e1 : decide (cap < 1) = true := decide_eq_true k1
    go_wp2_with fail
    go_ret
    exact ⟨nret_int (by rw [HB.out]; exact checkI_no (by omega)), hb⟩
  · have e1 : decide (cap < 1) = false := decide_eq_false k1
    by_cases k2 : 4000 < cap
    · have e2 : decide (4000 < cap) = true := decide_eq_true k2
      go_wp2_with fail
      go_ret
      exact ⟨nret_int (by rw [HB.out]; exact checkI_no (by omega)), hb⟩
    · have e2 : decide (4000 < cap) = false := decide_eq_false k2
      by_cases k3 : m < 1
      · have e3 : decide ((m : Int) < 1) = true := decide_eq_true (by omega)
        go_wp2_with fail
        go_ret
        exact ⟨nret_int (by rw [HB.out]; exact checkI_no (by have := HM.out; omega)), hb⟩
      · have e3 : decide ((m : Int) < 1) = false := decide_eq_false (by omega)
        by_cases k4 : cap < (m : Int)
        · have e4 : decide (cap < (m : Int)) = true := decide_eq_true k4
          go_wp2_with fail
          go_ret
          exact ⟨nret_int (by rw [HB.out]; exact checkI_no (by have := HM.out; omega)), hb⟩
        · have e4 : decide (cap < (m : Int)) = false := decide_eq_false k4
          go_wp2_with fail
          go_loopw [30] (fun x wr => ∃ i : Nat, i ≤ m ∧ x = .int .i64 i ∧ Hid (∀ j, j < i → atOk l j = true) ∧ Below w1.heap.size w1 wr) (fun x _ => m - (intOf x).toNat)
          case atStart => exact ⟨0, Nat.zero_le _, rfl, Lib.hid (fun j hj => absurd hj (Nat.not_lt_zero _)), Below.refl _ _⟩
          case round =>
            clear e1 e2 e3 e4
            obtain ⟨i, hi, rfl, hP, hbr⟩ := hrel
            have d0 := (hbr.cell (p := ⟨w.heap.size, 0, none⟩) hg).trans c0
            by_cases hlt : i < m
            · have hil : i < l.length := by have := HM.out; omega
              obtain ⟨g, o, x, B, bb, C, cc, hx, rfl, _, ⟨x0, x1, x2, x3, x4, x5⟩, hI⟩ := NdsIn.get (HN.out.below hbr (Nat.le_refl _)) i hil
              have HX := Lib.hid hx
              obtain ⟨W, hW⟩ : ∃ W, W = (wr.alloc (.cells #[.int .i64 x.kind, .int .i64 x.level, .int .i64 x.n, .string x.name, .slice B x.alts.length (capN x.alts.length bb), .slice C x.to.length (capN x.to.length cc)] 28)) := ⟨_, rfl⟩
              have hbW : Below wr.heap.size wr W := by rw [hW]; exact (Below.refl _ wr).alloc (Nat.le_refl _) _
              have hwW := hbr.trans (hbW.mono hbr.size)
              have LW : Lies W wr.heap.size 28 #[.int .i64 x.kind, .int .i64 x.level, .int .i64 x.n, .string x.name, .slice B x.alts.length (capN x.alts.length bb), .slice C x.to.length (capN x.to.length cc)] := by rw [hW]; exact Lies.new _ _ _
              have HY := Lib.hid (may_any x B C bb cc W (hI.below hbW (Nat.le_refl _)) (HT.out.below hwW (Nat.le_refl _)))
              have HK : Hid (∀ V, Below W.heap.size W V → Calls Tryd.prog 31 #[.slice (some ⟨g, o, none⟩) m c, .int .i64 i] V fun e w' => e = .returned (.bool (linkedV l i)) ∧ Below V.heap.size V w') :=
                Lib.hid fun V hV => isLinked_any l (some ⟨g, o, none⟩) m c i V HM.out hlt ((HN.out.below hwW (Nat.le_refl _)).below hV (Nat.le_refl _))
              have HO : Hid (atOk l i = ((nodeV x && decide (x.to.length = x.ports)) && (decide (i = 0) == decide (x.kind = 1) && linkedV l i))) := Lib.hid (by rw [atOk, ← hx, Bool.and_assoc])
              unfold ndv at HY
              obtain ⟨y0, y1, y2, y3, y4, y5⟩ := six_cells LW
              have dW := (hbW.cell (p := ⟨w.heap.size, 0, none⟩) (ncell_lt d0)).trans d0
              have hWlt := ncell_lt y0
              have hglt := ncell_lt dW
              clear hx hI LW
              go_upto_region 6 with fail
              rw [← hW]
              clear hW x0 x1 x2 x3 x4 x5
              have hW2 : ∀ {V V' : World}, Below W.heap.size W V → Below V.heap.size V V' → Below w1.heap.size w1 V' := fun h h' => hwW.trans ((h.trans (h'.mono h.size)).mono hwW.size)
              cases h1 : (nodeV x && decide (x.to.length = x.ports)) with
              | false =>
                rw [h1] at HY HO
                clear h1
                go_wp2_with fail
                refine HY.out.mono ?_
                rintro e w2 ⟨rfl, hb2⟩
                go_wp2_with fail
                go_ret
                refine ⟨nret_int ?_, hb.trans ((hwW.trans (hb2.mono hwW.size)).mono hb.size)⟩
                rw [HB.out]
                refine checkI_no (fun h => ?_)
                have h9 := h.2.2.2.2.2 i hil
                rw [HO.out] at h9
                simp at h9
              | true =>
                rw [h1] at HY HO
                clear h1
                have hkd : (x.kind == 1) = decide (x.kind = 1) := by rw [Bool.eq_iff_iff]; simp
                have hi0 : ((i : Int) == 0) = decide (i = 0) := by rw [Bool.eq_iff_iff]; simp
                have hi1 : (i == 0) = decide (i = 0) := by rw [Bool.eq_iff_iff]; simp
                obtain ⟨p, hp⟩ : ∃ p, p = decide (x.kind = 1) := ⟨_, rfl⟩
                obtain ⟨q, hq⟩ : ∃ q, q = decide (i = 0) := ⟨_, rfl⟩
                rw [← hp] at hkd HO
                rw [← hq] at hi0 hi1 HO
                clear hp hq
                by_cases hpq : q = p
                · subst hpq
                  cases h3 : linkedV l i with
                  | true =>
                    rw [h3] at HK HO
                    clear h3
                    cases q with
                    | true =>
                      go_wp2_with fail
                      refine HY.out.mono ?_
                      rintro e w2 ⟨rfl, hb2⟩
                      have z0 := (hb2.cell (p := ⟨wr.heap.size, 0, none⟩) hWlt).trans y0
                      have dz := (hb2.cell (p := ⟨w.heap.size, 0, none⟩) hglt).trans dW
                      go_wp2_with fail
                      refine (HK.out _ hb2).mono ?_
                      rintro e w3 ⟨rfl, hb3⟩
                      go_wp2_with fail
                      go_roundw
                      case rel =>
                        have hOK : atOk l i = true := by rw [HO.out]; rfl
                        go_light
                        refine ⟨i + 1, by omega, by go_num, Lib.hid (fun j hj => ?_), hW2 hb2 hb3⟩
                        by_cases e : j = i
                        · subst e; exact hOK
                        · exact hP.out j (by omega)
                      case measure => simp [intOf]; omega
                    | false =>
                      go_wp2_with fail
                      refine HY.out.mono ?_
                      rintro e w2 ⟨rfl, hb2⟩
                      have z0 := (hb2.cell (p := ⟨wr.heap.size, 0, none⟩) hWlt).trans y0
                      have dz := (hb2.cell (p := ⟨w.heap.size, 0, none⟩) hglt).trans dW
                      go_wp2_with fail
                      refine (HK.out _ hb2).mono ?_
                      rintro e w3 ⟨rfl, hb3⟩
                      go_wp2_with fail
                      go_roundw
                      case rel =>
                        have hOK : atOk l i = true := by rw [HO.out]; rfl
                        go_light
                        refine ⟨i + 1, by omega, by go_num, Lib.hid (fun j hj => ?_), hW2 hb2 hb3⟩
                        by_cases e : j = i
                        · subst e; exact hOK
                        · exact hP.out j (by omega)
                      case measure => simp [intOf]; omega
                  | false =>
                    rw [h3] at HK HO
                    clear h3
                    cases q with
                    | true =>
                      go_wp2_with fail
                      refine HY.out.mono ?_
                      rintro e w2 ⟨rfl, hb2⟩
                      have z0 := (hb2.cell (p := ⟨wr.heap.size, 0, none⟩) hWlt).trans y0
                      have dz := (hb2.cell (p := ⟨w.heap.size, 0, none⟩) hglt).trans dW
                      go_wp2_with fail
                      refine (HK.out _ hb2).mono ?_
                      rintro e w3 ⟨rfl, hb3⟩
                      go_wp2_with fail
                      go_ret
                      refine ⟨nret_int ?_, hb.trans ((hW2 hb2 hb3).mono hb.size)⟩
                      rw [HB.out]
                      refine checkI_no (fun h => ?_)
                      have h9 := h.2.2.2.2.2 i hil
                      rw [HO.out] at h9
                      simp at h9
                    | false =>
                      go_wp2_with fail
                      refine HY.out.mono ?_
                      rintro e w2 ⟨rfl, hb2⟩
                      have z0 := (hb2.cell (p := ⟨wr.heap.size, 0, none⟩) hWlt).trans y0
                      have dz := (hb2.cell (p := ⟨w.heap.size, 0, none⟩) hglt).trans dW
                      go_wp2_with fail
                      refine (HK.out _ hb2).mono ?_
                      rintro e w3 ⟨rfl, hb3⟩
                      go_wp2_with fail
                      go_ret
                      refine ⟨nret_int ?_, hb.trans ((hW2 hb2 hb3).mono hb.size)⟩
                      rw [HB.out]
                      refine checkI_no (fun h => ?_)
                      have h9 := h.2.2.2.2.2 i hil
                      rw [HO.out] at h9
                      simp at h9
                · cases p with
                  | true =>
                    cases q with
                    | true => exact absurd rfl hpq
                    | false =>
                      go_wp2_with fail
                      refine HY.out.mono ?_
                      rintro e w2 ⟨rfl, hb2⟩
                      have z0 := (hb2.cell (p := ⟨wr.heap.size, 0, none⟩) hWlt).trans y0
                      go_wp2_with fail
                      go_ret
                      refine ⟨nret_int ?_, hb.trans ((hwW.trans (hb2.mono hwW.size)).mono hb.size)⟩
                      rw [HB.out]
                      refine checkI_no (fun h => ?_)
                      have h9 := h.2.2.2.2.2 i hil
                      rw [HO.out] at h9
                      simp at h9
                  | false =>
                    cases q with
                    | true =>
                      go_wp2_with fail
                      refine HY.out.mono ?_
                      rintro e w2 ⟨rfl, hb2⟩
                      have z0 := (hb2.cell (p := ⟨wr.heap.size, 0, none⟩) hWlt).trans y0
                      go_wp2_with fail
                      go_ret
                      refine ⟨nret_int ?_, hb.trans ((hwW.trans (hb2.mono hwW.size)).mono hb.size)⟩
                      rw [HB.out]
                      refine checkI_no (fun h => ?_)
                      have h9 := h.2.2.2.2.2 i hil
                      rw [HO.out] at h9
                      simp at h9
                    | false => exact absurd rfl hpq
            · have hmi : i = m := by omega
              subst hmi
              obtain ⟨q, rfl⟩ : ∃ q, i = q + 1 := ⟨i - 1, by omega⟩
              have hql : q < l.length := by have := HM.out; omega
              obtain ⟨g, o, x, B, bb, C, cc, hx, rfl, _, ⟨x0, x1, x2, x3, x4, x5⟩, hI⟩ := NdsIn.get (HN.out.below hbr (Nat.le_refl _)) q hql
              have HX := Lib.hid hx
              have HC := Lib.hid (isFree_any x B C bb cc wr)
              unfold ndv at HC
              have hlq : l.length - 1 = q := by have := HM.out; omega
              clear hx hI
              cases hk : (x.kind == 0) with
              | true =>
                rw [hk] at HC
                have HK := Lib.hid hk
                clear hk
                go_wp2_with fail
                refine HC.out.mono ?_
                rintro e w2 ⟨rfl, hb2⟩
                go_wp2_with fail
                go_ret
                refine ⟨nret_int ?_, hb.trans ((hbr.trans (hb2.mono hbr.size)).mono hb.size)⟩
                rw [HB.out]
                refine checkI_no (fun h => h.2.2.2.2.1 ?_)
                rw [hlq, ← HX.out]
                simpa using HK.out
              | false =>
                rw [hk] at HC
                have HK := Lib.hid hk
                clear hk
                go_wp2_with fail
                refine HC.out.mono ?_
                rintro e w2 ⟨rfl, hb2⟩
                go_wp2_with fail
                go_ret
                refine ⟨nret_int ?_, hb.trans ((hbr.trans (hb2.mono hbr.size)).mono hb.size)⟩
                rw [HB.out, checkI, if_pos]
                rw [checkV, decide_eq_true_eq]
                have := HM.out
                refine ⟨by omega, by omega, by omega, by omega, ?_, fun j hj => hP.out j (by omega)⟩
                rw [hlq, ← HX.out]
                simpa using HK.out
end Lx
end Go.Proofs.YtceblpjlklogpaaDoor
namespace Go.Proofs.YtceblpjlklogpaaDoor
open Go.RowKit
namespace Lx
set_option maxRecDepth 100000
set_option maxHeartbeats 4000000 in
theorem rused_any (l : List Nd) (A : Option Addr) (m c : Nat) (cap : Int) (w : World) (hm : m = l.length) (hl : m ≤ 140737488351232) (hN : NdsIn w AnyB l A) : Calls Tryd.prog 13 #[.agg #[.slice A m c, .int .i64 cap]] w fun e w' => e = .returned (.int .i64 (usedV l)) ∧ Below w.heap.size w w' := by
  obtain ⟨w1, hw1⟩ : ∃ w1, w1 = (w.alloc (.cells #[.slice A m c, .int .i64 cap] 24)) := ⟨_, rfl⟩
  have hb : Below w.heap.size w w1 := by rw [hw1]; exact (Below.refl _ w).alloc (Nat.le_refl _) _
  have L : Lies w1 w.heap.size 24 #[.slice A m c, .int .i64 cap] := by rw [hw1]; exact Lies.new _ _ _
  have c0 := L.cell 0
  simp at c0
  have hg := ncell_lt c0
  have HN := Lib.hid (hN.below hb (Nat.le_refl _))
  have HM := Lib.hid hm
  clear hN hm
  go_enter Tryd.func13, Tryd.ntmps13
  go_upto_region 1 with fail
  rw [← hw1]
  clear hw1
  go_wp2_with fail
  go_loopw [3, 4] (fun v y wr => ∃ i : Nat, i ≤ m ∧ y = .int .i64 i ∧ v = .int .i64 (usedV (l.take i)) ∧ Below w1.heap.size w1 wr) (fun _ y _ => m - (intOf y).toNat)
  case atStart => exact ⟨0, Nat.zero_le _, rfl, by simp [usedV], Below.refl _ _⟩
  case round =>
    obtain ⟨i, hi, rfl, rfl, hbr⟩ := hrel
    have d0 := (hbr.cell (p := ⟨w.heap.size, 0, none⟩) hg).trans c0
    by_cases hlt : i < m
    · have hil : i < l.length := by have := HM.out; omega
      obtain ⟨g, o, x, B, bb, C, cc, hx, rfl, _, ⟨x0, x1, x2, x3, x4, x5⟩, hI⟩ := NdsIn.get (HN.out.below hbr (Nat.le_refl _)) i hil
      have hU := ndUsed l i hil
      have hU2 := usedV_le (l.take i)
      have hU3 : (l.take i).length ≤ i := by simp; omega
      rw [← hx] at hU
      obtain ⟨u1, hu1⟩ : ∃ u, u = usedV (l.take i) := ⟨_, rfl⟩
      rw [← hu1] at hU hU2 ⊢
      have HU := Lib.hid hU
      clear hx hI hU hu1
      by_cases hk : x.kind = 0
      · have hk2 : (x.kind != 0) = false := by simp [hk]
        rw [if_pos hk] at HU
        clear hk
        go_wp2_with fail
        go_roundw
        case rel =>
          go_light
          exact ⟨i + 1, by omega, by go_num, by rw [HU.out]; rfl, hbr⟩
        case measure => simp [intOf]; omega
      · have hk2 : (x.kind != 0) = true := by simp [hk]
        rw [if_neg hk] at HU
        clear hk
        go_wp2_with fail
        go_roundw
        case rel =>
          go_light
          exact ⟨i + 1, by omega, by go_num, by rw [HU.out]; go_num, hbr⟩
        case measure => simp [intOf]; omega
    · go_wp2_with fail
      go_ret
      refine ⟨nret_int ?_, hb.trans (hbr.mono hb.size)⟩
      rw [List.take_of_length_le (by have := HM.out; omega)]
set_option maxHeartbeats 4000000 in
theorem small_any (l : List Nd) (A : Option Addr) (m c : Nat) (cap most : Int) (w : World) (hm : m = l.length) (hl : m ≤ 140737488351232) (hN : NdsIn w AnyB l A) : Calls Tryd.prog 9 #[.agg #[.slice A m c, .int .i64 cap], .int .i64 most] w fun e w' => e = .returned (.bool (smallV l most)) ∧ Below w.heap.size w w' := by
  obtain ⟨w1, hw1⟩ : ∃ w1, w1 = (w.alloc (.cells #[.slice A m c, .int .i64 cap] 24)) := ⟨_, rfl⟩
  have hb : Below w.heap.size w w1 := by rw [hw1]; exact (Below.refl _ w).alloc (Nat.le_refl _) _
  have L : Lies w1 w.heap.size 24 #[.slice A m c, .int .i64 cap] := by rw [hw1]; exact Lies.new _ _ _
  have c0 := L.cell 0
  simp at c0
  have hg := ncell_lt c0
  have HN := Lib.hid (hN.below hb (Nat.le_refl _))
  have HM := Lib.hid hm
  obtain ⟨β, hβ⟩ : ∃ β, β = smallV l most := ⟨_, rfl⟩
  rw [← hβ]
  have HB := Lib.hid hβ
  clear hβ hN hm
  go_enter Tryd.func9, Tryd.ntmps9
  go_upto_region 1 with fail
  rw [← hw1]
  clear hw1
  go_wp2_with fail
  go_loopw [5] (fun y wr => ∃ i : Nat, i ≤ m ∧ y = .int .i64 i ∧ Hid (∀ j, j < i → (ndAt l j).to.length ≤ 12 ∧ (ndAt l j).alts.length ≤ 12) ∧ Below w1.heap.size w1 wr) (fun y _ => m - (intOf y).toNat)
  case atStart => exact ⟨0, Nat.zero_le _, rfl, Lib.hid (fun j hj => absurd hj (Nat.not_lt_zero _)), Below.refl _ _⟩
  case round =>
    obtain ⟨i, hi, rfl, hP, hbr⟩ := hrel
    have d0 := (hbr.cell (p := ⟨w.heap.size, 0, none⟩) hg).trans c0
    by_cases hlt : i < m
    · have hil : i < l.length := by have := HM.out; omega
      obtain ⟨g, o, x, B, bb, C, cc, hx, rfl, _, ⟨_, _, _, _, x4, x5⟩, _⟩ := NdsIn.get (HN.out.below hbr (Nat.le_refl _)) i hil
      have HX := Lib.hid hx
      obtain ⟨mt, hmt⟩ : ∃ mt, mt = x.to.length := ⟨_, rfl⟩
      obtain ⟨ma, hma⟩ : ∃ ma, ma = x.alts.length := ⟨_, rfl⟩
      rw [← hmt] at x5
      rw [← hma] at x4
      have HMT := Lib.hid hmt
      have HMA := Lib.hid hma
      clear hx hmt hma
      by_cases k1 : 12 < mt
      · have e1 : decide (12 < (mt : Int)) = true := decide_eq_true (by omega)
        have HS : Hid (smallV l most = false) := Lib.hid (decide_eq_false (fun h => by
          have := (h.1 i hil).1
          rw [← HX.out, ← HMT.out] at this
          omega))
        go_wp2_with fail
        go_ret
        exact ⟨nret_bool (by rw [HB.out, HS.out]), hb.trans (hbr.mono hb.size)⟩
      · have e1 : decide (12 < (mt : Int)) = false := decide_eq_false (by omega)
        by_cases k2 : 12 < ma
        · have e2 : decide (12 < (ma : Int)) = true := decide_eq_true (by omega)
          have HS : Hid (smallV l most = false) := Lib.hid (decide_eq_false (fun h => by
            have := (h.1 i hil).2
            rw [← HX.out, ← HMA.out] at this
            omega))
          go_wp2_with fail
          go_ret
          exact ⟨nret_bool (by rw [HB.out, HS.out]), hb.trans (hbr.mono hb.size)⟩
        · have e2 : decide (12 < (ma : Int)) = false := decide_eq_false (by omega)
          go_wp2_with fail
          go_roundw
          case rel =>
            go_light
            refine ⟨i + 1, by omega, by go_num, Lib.hid (fun j hj => ?_), hbr⟩
            by_cases e : j = i
            · subst e; rw [← HX.out, ← HMT.out, ← HMA.out]; omega
            · exact hP.out j (by omega)
          case measure => simp [intOf]; omega
    · go_wp2_with fail
      go_ret
      refine ⟨nret_bool ?_, hb.trans (hbr.mono hb.size)⟩
      rw [HB.out, smallV, Bool.eq_iff_iff, decide_eq_true_eq, decide_eq_true_eq]
      have := HM.out
      exact ⟨fun h => ⟨fun j hj => hP.out j (by omega), by omega⟩, fun h => by omega⟩
end Lx
end Go.Proofs.YtceblpjlklogpaaDoor
namespace Go.Proofs.YtceblpjlklogpaaDoor
open Go.RowKit
namespace Lx
set_option maxRecDepth 100000
set_option maxHeartbeats 8000000 in
theorem one_any (x : Nd) (B C B' C' : Option Addr) (b c b' c' : Nat) (w : World) (hI : NdIn w AnyB x B C) (hJ : NdIn w AnyB x B' C') : Calls Tryd.prog 16 #[ndv x B b C c, ndv x B' b' C' c'] w fun e w' => e = .returned (.bool true) ∧ Below w.heap.size w w' := by
  obtain ⟨k, lv, n, s, al, tp⟩ := x
  obtain ⟨⟨_, hal, htl⟩, hA, hT⟩ := hI
  obtain ⟨_, hA', hT'⟩ := hJ
  simp only at hal htl hA hT hA' hT'
  obtain ⟨w1, hw1⟩ : ∃ w1, w1 = ((w.alloc (.cells #[.int .i64 k, .int .i64 lv, .int .i64 n, .string s, .slice B al.length (capN al.length b), .slice C tp.length (capN tp.length c)] 28)).alloc (.cells #[.int .i64 k, .int .i64 lv, .int .i64 n, .string s, .slice B' al.length (capN al.length b'), .slice C' tp.length (capN tp.length c')] 28)) := ⟨_, rfl⟩
  have hb : Below w.heap.size w w1 := by rw [hw1]; exact ((Below.refl _ w).alloc (Nat.le_refl _) _).alloc (by simp) _
  have L : Lies w1 w.heap.size 28 #[.int .i64 k, .int .i64 lv, .int .i64 n, .string s, .slice B al.length (capN al.length b), .slice C tp.length (capN tp.length c)] := by rw [hw1]; exact (Lies.new _ _ _).old _
  have L' : Lies w1 (w.heap.size + 1) 28 #[.int .i64 k, .int .i64 lv, .int .i64 n, .string s, .slice B' al.length (capN al.length b'), .slice C' tp.length (capN tp.length c')] := by rw [hw1]; simpa using Lies.new (w.alloc (.cells #[.int .i64 k, .int .i64 lv, .int .i64 n, .string s, .slice B al.length (capN al.length b), .slice C tp.length (capN tp.length c)] 28)) 28 #[.int .i64 k, .int .i64 lv, .int .i64 n, .string s, .slice B' al.length (capN al.length b'), .slice C' tp.length (capN tp.length c')]
  obtain ⟨ma, hma⟩ : ∃ ma, ma = al.length := ⟨_, rfl⟩
  obtain ⟨mt, hmt⟩ : ∃ mt, mt = tp.length := ⟨_, rfl⟩
  unfold ndv
  simp only
  rw [← hma, ← hmt] at L L' hw1 ⊢
  rw [← hma] at hal
  rw [← hmt] at htl
  obtain ⟨x0, x1, x2, x3, x4, x5⟩ := six_cells L
  obtain ⟨y0, y1, y2, y3, y4, y5⟩ := six_cells L'
  have HA := Lib.hid (hA.below hb (Nat.le_refl _))
  have HA' := Lib.hid (hA'.below hb (Nat.le_refl _))
  have HT := Lib.hid (hT.below hb (Nat.le_refl _))
  have HT' := Lib.hid (hT'.below hb (Nat.le_refl _))
  have HMA := Lib.hid hma
  have HMT := Lib.hid hmt
  clear hA hA' hT hT' hma hmt
  go_enter Tryd.func16, Tryd.ntmps16
  go_upto_region 1 with fail
  rw [← hw1]
  clear hw1 L L'
  have hx4 := ncell_lt x4
  have hy4 := ncell_lt y4
  go_upto_region 3 with fail
  clear x0 x1 x2 x3 y0 y1 y2 y3
  go_wp2_with fail
  go_loopw [5] (fun y wr => ∃ i : Nat, i ≤ ma ∧ y = .int .i64 i ∧ Below w1.heap.size w1 wr) (fun y _ => ma - (intOf y).toNat)
  case atStart => exact ⟨0, Nat.zero_le _, rfl, Below.refl _ _⟩
  case round =>
    obtain ⟨i, hi, rfl, hbr⟩ := hrel
    have u4 := (hbr.cell (p := ⟨w.heap.size, 4, none⟩) hx4).trans x4
    have v4 := (hbr.cell (p := ⟨w.heap.size + 1, 4, none⟩) hy4).trans y4
    by_cases hlt : i < ma
    · have hil : i < al.length := by have := HMA.out; omega
      obtain ⟨g, o, ⟨rfl, _⟩, d0, d1, _⟩ := HA.out i hil
      obtain ⟨g', o', ⟨rfl, _⟩, d0', d1', _⟩ := HA'.out i hil
      replace d0 := (hbr.cell (p := ⟨g, o + i * 2, none⟩) (ncell_lt d0)).trans d0
      replace d1 := (hbr.cell (p := ⟨g, o + i * 2 + 1, none⟩) (ncell_lt d1)).trans d1
      replace d0' := (hbr.cell (p := ⟨g', o' + i * 2, none⟩) (ncell_lt d0')).trans d0'
      replace d1' := (hbr.cell (p := ⟨g', o' + i * 2 + 1, none⟩) (ncell_lt d1')).trans d1'
      obtain ⟨an, han⟩ : ∃ an, an = (al[i]'hil).1 := ⟨_, rfl⟩
      obtain ⟨aN, haN⟩ : ∃ aN, aN = (al[i]'hil).2 := ⟨_, rfl⟩
      rw [← han] at d0 d0'
      rw [← haN] at d1 d1'
      clear han haN
      have z0 := Abv.cell d0
      have z1 := Abv.cell d1
      have z0' := Abv.cell d0'
      have z1' := Abv.cell d1'
      have z4 := Abv.cell u4
      have z4' := Abv.cell v4
      go_upto_region 6 with fail
      refine region_calm (by kernel_rfl) (by kernel_rfl) ?_
      repeat (go_big_quiet_step (fail))
      refine wpQuiet_nil ?_
      rintro _ ⟨V, rfl⟩
      go_wp2_with fail
      go_roundw
      case rel =>
        go_light
        exact ⟨i + 1, by omega, by go_num, hbr.trans (V.2.mono hbr.size)⟩
      case measure => simp [intOf]; omega
    · have hx5 := ncell_lt x5
      have hy5 := ncell_lt y5
      obtain ⟨w2, hw2⟩ : ∃ w2, w2 = wr := ⟨_, rfl⟩
      have r5 := (hbr.cell (p := ⟨w.heap.size, 5, none⟩) hx5).trans x5
      have s5 := (hbr.cell (p := ⟨w.heap.size + 1, 5, none⟩) hy5).trans y5
      rw [← hw2] at hbr u4 v4 r5 s5 ⊢
      clear hw2
      have hr5 := ncell_lt r5
      have hs5 := ncell_lt s5
      go_wp2_with fail
      go_loopw [6] (fun y wr => ∃ i : Nat, i ≤ mt ∧ y = .int .i64 i ∧ Below w2.heap.size w2 wr) (fun y _ => mt - (intOf y).toNat)
      case atStart => exact ⟨0, Nat.zero_le _, rfl, Below.refl _ _⟩
      case round =>
        obtain ⟨j, hj, rfl, hb2⟩ := hrel
        have p5 := (hb2.cell (p := ⟨w.heap.size, 5, none⟩) hr5).trans r5
        have q5 := (hb2.cell (p := ⟨w.heap.size + 1, 5, none⟩) hs5).trans s5
        have hbt := hbr.trans (hb2.mono hbr.size)
        by_cases hlt2 : j < mt
        · have hjl : j < tp.length := by have := HMT.out; omega
          obtain ⟨g, o, ⟨rfl, _⟩, d0, d1⟩ := HT.out j hjl
          obtain ⟨g', o', ⟨rfl, _⟩, d0', d1'⟩ := HT'.out j hjl
          replace d0 := (hbt.cell (p := ⟨g, o + j * 2, none⟩) (ncell_lt d0)).trans d0
          replace d1 := (hbt.cell (p := ⟨g, o + j * 2 + 1, none⟩) (ncell_lt d1)).trans d1
          replace d0' := (hbt.cell (p := ⟨g', o' + j * 2, none⟩) (ncell_lt d0')).trans d0'
          replace d1' := (hbt.cell (p := ⟨g', o' + j * 2 + 1, none⟩) (ncell_lt d1')).trans d1'
          obtain ⟨an, han⟩ : ∃ an, an = (tp[j]'hjl).1 := ⟨_, rfl⟩
          obtain ⟨aN, haN⟩ : ∃ aN, aN = (tp[j]'hjl).2 := ⟨_, rfl⟩
          rw [← han] at d0 d0'
          rw [← haN] at d1 d1'
          clear han haN
          have z0 := Abv.cell d0
          have z1 := Abv.cell d1
          have z0' := Abv.cell d0'
          have z1' := Abv.cell d1'
          have z5 := Abv.cell p5
          have z5' := Abv.cell q5
          go_upto_region 11 with fail
          refine region_calm (by kernel_rfl) (by kernel_rfl) ?_
          repeat (go_big_quiet_step (fail))
          refine wpQuiet_nil ?_
          rintro _ ⟨V, rfl⟩
          go_wp2_with fail
          go_roundw
          case rel =>
            go_light
            exact ⟨j + 1, by omega, by go_num, hb2.trans (V.2.mono hb2.size)⟩
          case measure => simp [intOf]; omega
        · go_wp2_with fail
          go_ret
          exact ⟨rfl, hb.trans (hbt.mono hb.size)⟩
set_option maxHeartbeats 8000000 in
theorem same_any (l : List Nd) (A A' : Option Addr) (m c c' : Nat) (cap : Int) (w : World) (hm : m = l.length) (hl : m ≤ 140737488351232) (hN : NdsIn w AnyB l A) (hN' : NdsIn w AnyB l A') : Calls Tryd.prog 14 #[.agg #[.slice A m c, .int .i64 cap], .agg #[.slice A' m c', .int .i64 cap]] w fun e w' => e = .returned (.bool true) ∧ Below w.heap.size w w' := by
  obtain ⟨w1, hw1⟩ : ∃ w1, w1 = ((w.alloc (.cells #[.slice A m c, .int .i64 cap] 24)).alloc (.cells #[.slice A' m c', .int .i64 cap] 24)) := ⟨_, rfl⟩
  have hb : Below w.heap.size w w1 := by rw [hw1]; exact ((Below.refl _ w).alloc (Nat.le_refl _) _).alloc (by simp) _
  have L : Lies w1 w.heap.size 24 #[.slice A m c, .int .i64 cap] := by rw [hw1]; exact (Lies.new _ _ _).old _
  have L' : Lies w1 (w.heap.size + 1) 24 #[.slice A' m c', .int .i64 cap] := by rw [hw1]; simpa using Lies.new (w.alloc (.cells #[.slice A m c, .int .i64 cap] 24)) 24 #[.slice A' m c', .int .i64 cap]
  have c0 := L.cell 0
  have c1 := L.cell 1
  have e0 := L'.cell 0
  have e1 := L'.cell 1
  simp at c0 c1 e0 e1
  have hg := ncell_lt c0
  have hg' := ncell_lt e0
  have HN := Lib.hid (hN.below hb (Nat.le_refl _))
  have HN' := Lib.hid (hN'.below hb (Nat.le_refl _))
  have HM := Lib.hid hm
  clear hN hN' hm L L'
  go_enter Tryd.func14, Tryd.ntmps14
  go_upto_region 1 with fail
  rw [← hw1]
  clear hw1
  go_wp2_with fail
  go_loopw [5] (fun y wr => ∃ i : Nat, i ≤ m ∧ y = .int .i64 i ∧ Below w1.heap.size w1 wr) (fun y _ => m - (intOf y).toNat)
  case atStart => exact ⟨0, Nat.zero_le _, rfl, Below.refl _ _⟩
  case round =>
    obtain ⟨i, hi, rfl, hbr⟩ := hrel
    have d0 := (hbr.cell (p := ⟨w.heap.size, 0, none⟩) hg).trans c0
    have f0 := (hbr.cell (p := ⟨w.heap.size + 1, 0, none⟩) hg').trans e0
    by_cases hlt : i < m
    · have hil : i < l.length := by have := HM.out; omega
      obtain ⟨g, o, x, B, bb, C, cc, hx, rfl, _, ⟨x0, x1, x2, x3, x4, x5⟩, hI⟩ := NdsIn.get (HN.out.below hbr (Nat.le_refl _)) i hil
      obtain ⟨g', o', x', B', bb', C', cc', hx', rfl, _, ⟨y0, y1, y2, y3, y4, y5⟩, hI'⟩ := NdsIn.get (HN'.out.below hbr (Nat.le_refl _)) i hil
      obtain rfl : x' = x := by rw [hx, hx']
      have z0 := Abv.cell x0
      have z1 := Abv.cell x1
      have z2 := Abv.cell x2
      have z3 := Abv.cell x3
      have z4 := Abv.cell x4
      have z5 := Abv.cell x5
      have t0 := Abv.cell y0
      have t1 := Abv.cell y1
      have t2 := Abv.cell y2
      have t3 := Abv.cell y3
      have t4 := Abv.cell y4
      have t5 := Abv.cell y5
      have s0 := Abv.cell d0
      have s1 := Abv.cell f0
      have HO : ∀ V : Abv wr, Calls Tryd.prog 16 #[.agg #[.int .i64 x'.kind, .int .i64 x'.level, .int .i64 x'.n, .string x'.name, .slice B x'.alts.length (capN x'.alts.length bb), .slice C x'.to.length (capN x'.to.length cc)], .agg #[.int .i64 x'.kind, .int .i64 x'.level, .int .i64 x'.n, .string x'.name, .slice B' x'.alts.length (capN x'.alts.length bb'), .slice C' x'.to.length (capN x'.to.length cc')]] V.1 fun e w' => e = .returned (.bool true) ∧ Below V.1.heap.size V.1 w' :=
        fun V => one_any x' B C B' C' bb cc bb' cc' V.1 (hI.below V.2 (Nat.le_refl _)) (hI'.below V.2 (Nat.le_refl _))
      clear hx hx' hI hI' x0 x1 x2 x3 x4 x5 y0 y1 y2 y3 y4 y5
      go_upto_region 6 with fail
      refine region_calm (by kernel_rfl) (by kernel_rfl) ?_
      repeat (go_big_quiet_step (exact calm_of (HO _)))
      refine wpQuiet_nil ?_
      rintro _ ⟨V, rfl⟩
      go_wp2_with fail
      go_roundw
      case rel =>
        go_light
        exact ⟨i + 1, by omega, by go_num, hbr.trans (V.2.mono hbr.size)⟩
      case measure => simp [intOf]; omega
    · go_wp2_with fail
      go_ret
      exact ⟨rfl, hb.trans (hbr.mono hb.size)⟩
end Lx
end Go.Proofs.YtceblpjlklogpaaDoor
namespace Go.Proofs.YtceblpjlklogpaaDoor
open Go Go.RowKit
namespace Lx
set_option maxRecDepth 100000
theorem info_partsN {P : Program} {e : TypeId} {z : Value} {s b : Nat} (h : (P.info? e).map (fun i => (i.zero, i.size, i.bytes)) = some (some z, s, b)) : ∃ i, P.info? e = some i ∧ i.zero = some z ∧ i.size = s ∧ i.bytes = b := by
  cases hq : P.info? e with
  | none => rw [hq] at h; cases h
  | some i => rw [hq] at h; simp only [Option.map_some, Option.some.injEq, Prod.mk.injEq] at h; exact ⟨i, rfl, h.1, h.2.1, h.2.2⟩
theorem infoNd : (Tryd.prog.info? 28).map (fun i => (i.zero, i.size, i.bytes)) = some (some (.agg #[.int .i64 0, .int .i64 0, .int .i64 0, .string ⟨#[]⟩, .slice none 0 0, .slice none 0 0]), 6, 88) := by kernel_rfl
theorem infoAr : (Tryd.prog.info? 50).map (fun i => (i.zero, i.size, i.bytes)) = some (some (.agg #[.string ⟨#[]⟩, .int .i64 0]), 2, 24) := by kernel_rfl
theorem infoPo : (Tryd.prog.info? 46).map (fun i => (i.zero, i.size, i.bytes)) = some (some (.agg #[.int .i64 0, .int .i64 0]), 2, 16) := by kernel_rfl
/-- The cells of alternatives. -/
def cellsAl : List (ByteArray × Int) → List Value
  | [] => []
  | a :: r => .string a.1 :: .int .i64 a.2 :: cellsAl r
def cellsTo : List (Int × Int) → List Value
  | [] => []
  | a :: r => .int .i64 a.1 :: .int .i64 a.2 :: cellsTo r
theorem cellsAl_len : ∀ l, (cellsAl l).length = l.length * 2
  | [] => rfl
  | a :: r => by simp only [cellsAl, List.length_cons, cellsAl_len r]; omega
theorem cellsTo_len : ∀ l, (cellsTo l).length = l.length * 2
  | [] => rfl
  | a :: r => by simp only [cellsTo, List.length_cons, cellsTo_len r]; omega
theorem cellsAl_at : ∀ (l : List (ByteArray × Int)) (j : Nat) (h : j < l.length), (cellsAl l)[j * 2]? = some (.string (l[j]'h).1) ∧ (cellsAl l)[j * 2 + 1]? = some (.int .i64 (l[j]'h).2)
  | [], j, h => by simp at h
  | a :: r, 0, _ => by simp [cellsAl]
  | a :: r, j + 1, h => by
    have := cellsAl_at r j (by simpa using h)
    rw [show (j + 1) * 2 = j * 2 + 1 + 1 by omega]
    simpa [cellsAl] using this
theorem cellsTo_at : ∀ (l : List (Int × Int)) (j : Nat) (h : j < l.length), (cellsTo l)[j * 2]? = some (.int .i64 (l[j]'h).1) ∧ (cellsTo l)[j * 2 + 1]? = some (.int .i64 (l[j]'h).2)
  | [], j, h => by simp at h
  | a :: r, 0, _ => by simp [cellsTo]
  | a :: r, j + 1, h => by
    have := cellsTo_at r j (by simpa using h)
    rw [show (j + 1) * 2 = j * 2 + 1 + 1 by omega]
    simpa [cellsTo] using this
theorem cellsAl_one : ∀ l, ∀ u ∈ cellsAl l, u.oneCell' = true
  | [], u, h => by simp [cellsAl] at h
  | a :: r, u, h => by
    simp only [cellsAl, List.mem_cons] at h
    rcases h with rfl | rfl | h
    · rfl
    · rfl
    · exact cellsAl_one r u h
theorem cellsTo_one : ∀ l, ∀ u ∈ cellsTo l, u.oneCell' = true
  | [], u, h => by simp [cellsTo] at h
  | a :: r, u, h => by
    simp only [cellsTo, List.mem_cons] at h
    rcases h with rfl | rfl | h
    · rfl
    · rfl
    · exact cellsTo_one r u h
section
variable {w : World} {X : Nat → Prop}
theorem AltIn.cells {l : List (ByteArray × Int)} {g o : Nat} (h : AltIn w X l (some ⟨g, o, none⟩)) (i : Nat) (u : Value) (hu : (cellsAl l)[i]? = some u) : w.cell? ⟨g, o + i, none⟩ = some u := by
  have hi : i < l.length * 2 := by
    rcases Nat.lt_or_ge i (l.length * 2) with h1 | h1
    · exact h1
    · rw [List.getElem?_eq_none (by rw [cellsAl_len]; exact h1)] at hu; cases hu
  obtain ⟨j, hj | hj⟩ : ∃ j, i = j * 2 ∨ i = j * 2 + 1 := ⟨i / 2, by omega⟩
  all_goals
    subst hj
    have hjl : j < l.length := by omega
    obtain ⟨g', o', ⟨e, _⟩, h0, h1, _⟩ := h j hjl
    cases e
    have hc := cellsAl_at l j hjl
  · rw [hc.1] at hu; rw [← hu]; exact h0
  · rw [hc.2] at hu; rw [← hu, ← Nat.add_assoc]; exact h1
theorem AltIn.of {l : List (ByteArray × Int)} {g o : Nat} (hX : X g) (hc : ∀ i u, (cellsAl l)[i]? = some u → w.cell? ⟨g, o + i, none⟩ = some u) (hs : ∀ a ∈ l, a.1.size ≤ 140737488351232) : AltIn w X l (some ⟨g, o, none⟩) := fun j hj =>
  ⟨g, o, ⟨rfl, hX⟩, hc _ _ (cellsAl_at l j hj).1, by have := hc _ _ (cellsAl_at l j hj).2; rwa [← Nat.add_assoc] at this, hs _ (List.getElem_mem hj)⟩
theorem ToIn.cells {l : List (Int × Int)} {g o : Nat} (h : ToIn w X l (some ⟨g, o, none⟩)) (i : Nat) (u : Value) (hu : (cellsTo l)[i]? = some u) : w.cell? ⟨g, o + i, none⟩ = some u := by
  have hi : i < l.length * 2 := by
    rcases Nat.lt_or_ge i (l.length * 2) with h1 | h1
    · exact h1
    · rw [List.getElem?_eq_none (by rw [cellsTo_len]; exact h1)] at hu; cases hu
  obtain ⟨j, hj | hj⟩ : ∃ j, i = j * 2 ∨ i = j * 2 + 1 := ⟨i / 2, by omega⟩
  all_goals
    subst hj
    have hjl : j < l.length := by omega
    obtain ⟨g', o', ⟨e, _⟩, h0, h1⟩ := h j hjl
    cases e
    have hc := cellsTo_at l j hjl
  · rw [hc.1] at hu; rw [← hu]; exact h0
  · rw [hc.2] at hu; rw [← hu, ← Nat.add_assoc]; exact h1
theorem ToIn.of {l : List (Int × Int)} {g o : Nat} (hX : X g) (hc : ∀ i u, (cellsTo l)[i]? = some u → w.cell? ⟨g, o + i, none⟩ = some u) : ToIn w X l (some ⟨g, o, none⟩) := fun j hj =>
  ⟨g, o, ⟨rfl, hX⟩, hc _ _ (cellsTo_at l j hj).1, by have := hc _ _ (cellsTo_at l j hj).2; rwa [← Nat.add_assoc] at this⟩
theorem AltIn.size {l : List (ByteArray × Int)} {A : Option Addr} (h : AltIn w X l A) : ∀ a ∈ l, a.1.size ≤ 140737488351232 := fun a ha => by
  obtain ⟨j, hj, rfl⟩ := List.mem_iff_getElem.1 ha
  obtain ⟨_, _, _, _, _, hs⟩ := h j hj
  exact hs
/-- The block of a row that the call owns. -/
theorem own_curN {base g : Nat} {e : TypeId} {size n c : Nat} {xs : List Value} (h : w.ownsRow base e size (.slice (some ⟨g, 0, none⟩) n c) n xs) : ∃ cur, n ≤ c ∧ Lies w g e cur ∧ n * size ≤ cur.size ∧ cur.toList.take (n * size) = xs ∧ base ≤ g := by
  rcases h.2 with ⟨h1, _⟩ | ⟨g', cap, cur, h1, h2, h3, h4, h5, h6, h7⟩
  · cases h1
  · injection h1 with h1 _ h8
    injection h1 with h1
    injection h1 with h1
    subst h1 h8
    exact ⟨cur, h4, h3, Nat.le_trans (Nat.mul_le_mul_right size h4) (by omega), h7, h2⟩
end
theorem own_sliceN {w : World} {base : Nat} {e : TypeId} {size : Nat} {v : Value} {n : Nat} {xs : List Value} (h : w.ownsRow base e size v n xs) (hv : v ≠ .slice none 0 0) : ∃ g c, v = .slice (some ⟨g, 0, none⟩) n c := by
  rcases h.2 with ⟨h1, _⟩ | ⟨g, cap, cur, h1, _⟩
  · exact absurd h1 hv
  · exact ⟨g, cap, h1⟩
set_option maxHeartbeats 2000000 in
/-- slices.Clone of alternatives that are not nil. -/
theorem cloneA_any (l : List (ByteArray × Int)) (ad : Addr) (m c : Nat) (w : World) (hm : m = l.length) (hm2 : m ≤ 1000000000) (hc : ∀ j u, (cellsAl l)[j]? = some u → w.cell? (ad.add j) = some u) :
    Calls Tryd.prog 43 #[.slice (some ad) m c] w fun e w' => ∃ g' c' cs, e = .returned (.slice (some ⟨g', 0, none⟩) m c') ∧ m ≤ c' ∧ w.heap.size ≤ g' ∧ Lies w' g' 50 cs ∧ m * 2 ≤ cs.size ∧ cs.toList.take (m * 2) = cellsAl l ∧ Below w.heap.size w w' := by
  have hxl : (cellsAl l).length = m * 2 := by rw [cellsAl_len, hm]
  have hcb : ∀ j u, (cellsAl l)[j]? = some u → (w.alloc (.cells #[] 50)).cell? (ad.add j) = some u := fun j u hu => by
    have h1 := hc j u hu
    rw [World.cell?_alloc_lt _ _ _ (World.block_lt_of_cell? w _ h1)]
    exact h1
  obtain ⟨i0, hi, hz0, hz1, hz2⟩ := info_partsN infoAr
  have hown0 : (w.alloc (.cells #[] 50)).ownsRow w.heap.size 50 2 (.slice (some ⟨w.heap.size, 0, none⟩) 0 0) 0 [] := World.ownsRow_made w #[] 0 (Nat.le_refl _) (by simp [maxLen]) rfl
  have hb0 : Below w.heap.size w (w.alloc (.cells #[] 50)) := (Below.refl _ w).alloc (Nat.le_refl _) _
  have heq : ∀ W, (binOp .eql 25 (.slice (some ad) m c) (.slice none 0 0)).run Tryd.prog W = .ok (.bool false) W := fun W => by kernel_rfl
  clear hm hc
  go_enter Tryd.func43, Tryd.ntmps43
  go_wp2_with (at_builtin; refine wpList_append_own _ rfl (.tmp 5) (.tmp 6) 25 rfl w.heap.size 50 i0 (.agg #[.string ⟨#[]⟩, .int .i64 0]) 2 24 Tryd.underlying25 hi hz0 hz1 hz2 rfl (by decide) _ _ _ rfl hown0 ad m c (cellsAl l) rfl hxl hcb (cellsAl_one l) ?c3 ?c4 ?c5 ?_)
  case c3 => unfold maxLen; omega
  case c4 => omega
  case c5 => simp
  intro v1 w1 hown1 hg1 hv1
  obtain ⟨g1, c1, rfl⟩ := own_sliceN hown1 hv1
  try simp only [Nat.zero_add, List.nil_append] at hown1
  have hb1 : Below w.heap.size w w1 := hb0.grown hg1 (by simp) (fun k hk => (hown0.lt k hk).1)
  clear hown0 hb0 hg1 hi hz0 hz1 hz2 hcb hv1
  have HO := Lib.hid hown1
  have HB := Lib.hid hb1
  clear hown1 hb1
  go_wp2_with fail
  go_ret
  obtain ⟨cur, h1, h2, h3, h4, h5⟩ := own_curN HO.out
  exact ⟨g1, c1, cur, rfl, h1, h5, h2, h3, h4, HB.out⟩
theorem lies_same {w : World} {g i : Nat} {t : TypeId} {cs : Array Value} {u : Value} (h : Lies w g t cs) (hu : cs[i]? = some u) : Lies (w.setCell ⟨g, i, none⟩ u) g t cs := by
  have h1 := h.put i u
  have h2 : cs.setIfInBounds i u = cs := by
    apply Array.ext
    · simp
    · intro j h3 h4
      rw [Array.getElem_setIfInBounds]
      split
      · rename_i e
        subst e
        rw [Array.getElem?_eq_getElem h4] at hu
        exact (Option.some.inj hu).symm
      · rfl
  rwa [h2] at h1
set_option maxHeartbeats 4000000 in
theorem copiedAlts_any (l : List (ByteArray × Int)) (A : Option Addr) (m c : Nat) (w : World) (hm : m = l.length) (hm2 : m ≤ 1000000000) (hA : AltIn w AnyB l A) :
    Calls Tryd.prog 36 #[.slice A m c] w fun e w' => ∃ A' c', e = .returned (.slice A' m (capN m c')) ∧ AltIn w' (fun g => w.heap.size ≤ g) l A' ∧ Below w.heap.size w w' := by
  cases A with
  | none =>
    have hl : l = [] := by
      cases l with
      | nil => rfl
      | cons a r => obtain ⟨_, _, ⟨e, _⟩, _⟩ := hA 0 (by simp); cases e
    subst hl
    subst hm
    have heq : ∀ W, (binOp .eql 25 (.slice none 0 c) (.slice none 0 0)).run Tryd.prog W = .ok (.bool true) W := fun W => by kernel_rfl
    have HC : Calls Tryd.prog 43 #[.slice none 0 c] w fun e w' => e = .returned (.slice none 0 0) ∧ w = w' := by
      go_enter Tryd.func43, Tryd.ntmps43
      go_wp2_with fail
      go_ret
      exact ⟨rfl, rfl⟩
    have HC := Lib.hid HC
    clear heq
    go_enter Tryd.func36, Tryd.ntmps36
    go_wp2_with fail
    refine HC.out.mono ?_
    rintro e w2 ⟨rfl, rfl⟩
    go_wp2_with fail
    go_loopw [9] (fun y wr => y = .int .i64 0 ∧ wr = w) (fun _ _ => 0)
    case atStart => exact ⟨rfl, rfl⟩
    case round =>
      obtain ⟨rfl, rfl⟩ := hrel
      go_wp2_with fail
      go_ret
      exact ⟨none, 0, rfl, AltIn.nil, Below.refl _ _⟩
  | some ad =>
    have hcA : ∀ j u, (cellsAl l)[j]? = some u → w.cell? (ad.add j) = some u := fun j u hu => by
      have hl : 0 < l.length := by
        cases l with
        | nil => simp [cellsAl] at hu
        | cons a r => simp
      obtain ⟨g, o, ⟨e, _⟩, _⟩ := hA 0 hl
      cases e
      rw [nadd]
      exact hA.cells j u hu
    have hsz := hA.size
    have HC := Lib.hid (cloneA_any l ad m c w hm hm2 hcA)
    have HM := Lib.hid hm
    clear hA hcA hm
    go_enter Tryd.func36, Tryd.ntmps36
    go_wp2_with fail
    refine HC.out.mono ?_
    rintro e w2 ⟨g', c', cs, rfl, hmc, hgb, hL, hcs, htk, hb2⟩
    clear HC
    have hcell : Hid (∀ j u, (cellsAl l)[j]? = some u → cs[j]? = some u) := Lib.hid fun j u hu => by
      rw [← htk] at hu
      have hj : j < m * 2 := by
        rcases Nat.lt_or_ge j (m * 2) with h | h
        · exact h
        · rw [List.getElem?_eq_none (by simp; omega)] at hu; cases hu
      rw [List.getElem?_take_of_lt hj] at hu
      simpa using hu
    have HL := Lib.hid hL
    have HB2 := Lib.hid hb2
    have hsz2 := hb2.size
    have hg2 := hL.lt
    clear htk hL hb2
    go_wp2_with fail
    go_loopw [9] (fun y wr => ∃ i : Nat, i ≤ m ∧ y = .int .i64 i ∧ Hid (Lies wr g' 50 cs) ∧ Hid (Below w.heap.size w wr)) (fun y _ => m - (intOf y).toNat)
    case atStart => exact ⟨0, Nat.zero_le _, rfl, HL, HB2⟩
    case round =>
      obtain ⟨i, hi, rfl, hLr, hbr⟩ := hrel
      by_cases hlt : i < m
      · have hil : i < l.length := by have := HM.out; omega
        have h0 := hcell.out _ _ (cellsAl_at l i hil).1
        have h1 := hcell.out _ _ (cellsAl_at l i hil).2
        have d0 := (hLr.out.cell (i * 2)).trans h0
        have d1 := (hLr.out.cell (i * 2 + 1)).trans h1
        have hsn := hsz _ (List.getElem_mem hil)
        obtain ⟨an, han⟩ : ∃ an, an = (l[i]'hil).1 := ⟨_, rfl⟩
        obtain ⟨aN, haN⟩ : ∃ aN, aN = (l[i]'hil).2 := ⟨_, rfl⟩
        rw [← han] at d0 hsn h0
        rw [← haN] at d1 h1
        have H0 := Lib.hid h0
        have hb1 : Below wr.heap.size wr (wr.alloc (.cells #[.string an, .int .i64 aN] 50)) := (Below.refl _ wr).alloc (Nat.le_refl _) _
        have HB1 := Lib.hid hb1
        have HS := Lib.hid (strClone_any an (wr.alloc (.cells #[.string an, .int .i64 aN] 50)) (by omega))
        have hglt := hLr.out.lt
        clear han haN h0 h1 hb1
        go_wp2_with fail
        refine HS.out.mono ?_
        rintro e w3 ⟨rfl, hb3⟩
        have hL3 := (hLr.out.below HB1.out hglt).below hb3 (by simp; omega)
        have e0 := hL3.cell (i * 2)
        rw [H0.out] at e0
        have e1 := hL3.frozen (i * 2)
        have HL3 := Lib.hid hL3
        have HB3 := Lib.hid (hbr.out.trans ((HB1.out.trans (hb3.mono HB1.out.size)).mono hbr.out.size))
        clear hL3 hb3
        go_wp2_with fail
        go_roundw
        case rel =>
          refine ⟨i + 1, by omega, by go_num, Lib.hid (lies_same HL3.out H0.out), Lib.hid (HB3.out.setCell (p := ⟨g', i * 2, none⟩) hgb _)⟩
        case measure => simp [intOf]; omega
      · go_wp2_with fail
        go_ret
        refine ⟨some ⟨g', 0, none⟩, c', by rw [capN_of hmc]; rfl, AltIn.of hgb (fun j u hu => ?_) hsz, hbr.out⟩
        rw [Nat.zero_add, hLr.out.cell j]
        exact hcell.out j u hu
end Lx
end Go.Proofs.YtceblpjlklogpaaDoor
