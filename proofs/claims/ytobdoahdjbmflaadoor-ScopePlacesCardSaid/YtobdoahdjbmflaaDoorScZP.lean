/-
  The law ScopePlaces, walked.
-/
import Derived.Test.YtobdoahdjbmflaaDoorC20
import Derived.Test.YtobdoahdjbmflaaDoorC13
import Derived.Test.YtobdoahdjbmflaaDoorC8
namespace Go.Proofs.YtobdoahdjbmflaaDoor
open Go Go.RowKit
namespace Lx
set_option maxRecDepth 100000
theorem places_plain (t : Tr) (h : mayV t = true) : ((checkV t).2 = 50 → (freeV5 t).length ≠ 0) ∧ ∀ p ∈ t.parts, (checkV t).2 = 0 → p.kind ≠ 8 → (checkV p).2 = 0 ∨ ((checkV p).2 = 50 ∧ (freeV5 p).length ≠ 0) := by
  refine ⟨fun h50 => ?_, fun p hp h0 h8 => ?_⟩
  · rw [checkV, if_pos h] at h50
    rw [freeV5, if_pos h]
    exact fun e => freeV_some (free_of_name t h h50) (List.eq_nil_of_length_eq_zero e)
  · have hm := part_may h hp h8
    rw [checkV, if_pos h] at h0
    rw [checkV, if_pos hm, freeV5, if_pos hm]
    rcases part_checked h h0 hp h8 with h1 | h1
    · exact .inl h1
    · exact .inr ⟨h1, fun e => freeV_some (free_of_name p hm h1) (List.eq_nil_of_length_eq_zero e)⟩
set_option maxHeartbeats 8000000 in
theorem scopePlaces_law (t : Tr) (A : Option Addr) (c : Nat) (w : World) (hT : TIn w Any t A) (hg : Signs w) :
    Calls Tryd.prog 3 #[tv t A c] w fun e w' => e = .returned (.bool true) ∧ Below w.heap.size w w' := by
  have HF := Lib.hid (fun (W : World) (h : Below w.heap.size w W) => fixed5_any W (hg.below h hg.pos))
  have HSM := Lib.hid (fun (W : World) (h : Below w.heap.size w W) => tsmall_any t A c 200 W (TIn.below _ hT h (Nat.le_refl _)) (by omega) (by omega))
  have HDP := Lib.hid (fun (hq : decide (0 ≤ fewT t 200 200) = true) (W : World) (h : Below w.heap.size w W) => rdepth_any (depthT t) t A c W (Nat.le_refl _) (by have := few5 hq; omega) (TIn.below _ hT h (Nat.le_refl _)))
  have HM := Lib.hid (fun (W : World) (h : Below w.heap.size w W) => rMay_any t A c W (TIn.below _ hT h (Nat.le_refl _)))
  have HCK := Lib.hid (fun (hq : decide (0 ≤ fewT t 200 200) = true) (W : World) (h : Below w.heap.size w W) => sCheck_any t A c W ⟨by have := few5 hq; omega, by have := few5 hq; omega, TIn.below _ hT h (Nat.le_refl _), hg.below h hg.pos⟩)
  have HFR := Lib.hid (fun (hq : decide (0 ≤ fewT t 200 200) = true) (W : World) (h : Below w.heap.size w W) => sFree_any t A c W ⟨by have := few5 hq; omega, by have := few5 hq; omega, TIn.below _ hT h (Nat.le_refl _), hg.below h hg.pos⟩)
  have HPT : Hid (decide (0 ≤ fewT t 200 200) = true → ∀ p ∈ t.parts, ∀ A' c' W, Below w.heap.size w W → TIn W Any p A' → Calls Tryd.prog 9 #[tv p A' c'] W (fun e w' => e = .returned (.tuple #[.int .i64 (checkV p).1, .int .i64 (checkV p).2]) ∧ Below W.heap.size W w') ∧ ∀ W', Below W.heap.size W W' → Calls Tryd.prog 10 #[tv p A' c'] W' (GiveN (freeV5 p) W')) := Lib.hid fun hq p hp A' c' W hb hI => by
    have hsz : sizeT p ≤ sizeT t ∧ depthT p ≤ depthT t := by
      obtain ⟨k, s, n, a, l⟩ := t
      rw [sizeT, depthT]
      have h1 := sizeL_mem l p hp
      have h2 := depthL_mem l p hp
      omega
    have := few5 hq
    exact ⟨sCheck_any p A' c' W ⟨by omega, by omega, hI, hg.below hb hg.pos⟩, fun W' hb' => sFree_any p A' c' W' ⟨by omega, by omega, TIn.below _ hI hb' (Nat.le_refl _), hg.below (hb.trans (hb'.mono hb.size)) hg.pos⟩⟩
  have PL := Lib.hid (places_plain t)
  have HL := Lib.hid (fun (hq : decide (0 ≤ fewT t 200 200) = true) => show t.parts.length ≤ 200 by
    have := few5 hq
    obtain ⟨k, s, n, a, l⟩ := t
    rw [sizeT] at this
    have := sizeL_len l
    show l.length ≤ 200
    omega)
  obtain ⟨q1, hq1⟩ : ∃ b, b = decide (0 ≤ fewT t 200 200) := ⟨_, rfl⟩
  obtain ⟨q2, hq2⟩ : ∃ b, b = mayV t := ⟨_, rfl⟩
  obtain ⟨dt, hdt⟩ : ∃ b, b = depthT t := ⟨_, rfl⟩
  obtain ⟨cx, hcx⟩ : ∃ b, b = (checkV t).1 := ⟨_, rfl⟩
  obtain ⟨cy, hcy⟩ : ∃ b, b = (checkV t).2 := ⟨_, rfl⟩
  obtain ⟨fr, hfr⟩ : ∃ b, b = freeV5 t := ⟨_, rfl⟩
  rw [← hq1] at HSM HDP HCK HFR HPT HL
  rw [← hq2] at HM PL
  rw [← hdt] at HDP
  rw [← hcy] at HCK PL
  rw [← hcx] at HCK
  rw [← hfr] at HFR PL
  have HT := Lib.hid hT
  clear hq1 hq2 hdt hcx hcy hfr hg hT
  obtain ⟨tk, ts, tn, ta, tl⟩ := t
  simp only [tv, Tr.kind, Tr.name, Tr.n, Tr.place, Tr.parts] at HSM HDP HM HCK HFR HPT HL PL ⊢
  obtain ⟨m, hm⟩ : ∃ m, m = tl.length := ⟨_, rfl⟩
  rw [← hm] at HSM HDP HM HCK HFR HL ⊢
  have HMM := Lib.hid hm
  generalize capF m c = cc at HSM HDP HM HCK HFR ⊢
  clear hm
  obtain ⟨w0, hw0⟩ : ∃ w0, w0 = w.alloc (.cells #[.int .i64 tk, .string ts, .int .i64 tn, .int .i64 ta, .slice A m cc] 24) := ⟨_, rfl⟩
  have hb0 : Below w.heap.size w w0 := by rw [hw0]; exact below_allocS w _
  have L0 : Lies w0 w.heap.size 24 #[.int .i64 tk, .string ts, .int .i64 tn, .int .i64 ta, .slice A m cc] := by rw [hw0]; exact Lies.new _ _ _
  obtain ⟨g0, hg0⟩ : ∃ g, g = w.heap.size := ⟨_, rfl⟩
  go_enter Tryd.func3, Tryd.ntmps3
  go_upto_region 1 with fail
  rw [← hw0]
  rw [← hg0] at L0 ⊢
  have HB0 := Lib.hid hb0
  clear hw0 hg0 hb0
  go_wp2_with fail
  refine (HF.out w0 HB0.out).mono ?_
  rintro e w1 ⟨rfl, hb⟩
  replace HB0 := Lib.hid (HB0.out.trans (hb.mono HB0.out.size))
  replace L0 := L0.below hb L0.lt
  clear hb
  obtain ⟨⟨x0, x1, x2, x3, x4⟩, _⟩ := L0.five
  go_wp2_with fail
  refine (HSM.out w1 HB0.out).mono ?_
  rintro e w2 ⟨rfl, hb⟩
  replace HB0 := Lib.hid (HB0.out.trans (hb.mono HB0.out.size))
  replace L0 := L0.below hb L0.lt
  clear hb x0 x1 x2 x3 x4
  obtain ⟨⟨x0, x1, x2, x3, x4⟩, _⟩ := L0.five
  cases q1 with
  | false =>
    go_wp2_with fail
    refine (HF.out _ HB0.out).mono ?_
    rintro e wz ⟨rfl, hbz⟩
    go_wp2_with fail
    go_ret
    exact ⟨rfl, HB0.out.trans (hbz.mono HB0.out.size)⟩
  | true =>
    go_wp2_with fail
    refine (HDP.out (by simp) w2 HB0.out).mono ?_
    rintro e w3 ⟨rfl, hb⟩
    replace HB0 := Lib.hid (HB0.out.trans (hb.mono HB0.out.size))
    replace L0 := L0.below hb L0.lt
    clear hb x0 x1 x2 x3 x4
    obtain ⟨⟨x0, x1, x2, x3, x4⟩, _⟩ := L0.five
    by_cases hd : 150 < dt
    · have hd1 : (150 : Int) < (dt : Int) := by omega
      go_wp2_with fail
      refine (HF.out _ HB0.out).mono ?_
      rintro e wz ⟨rfl, hbz⟩
      go_wp2_with fail
      go_ret
      exact ⟨rfl, HB0.out.trans (hbz.mono HB0.out.size)⟩
    · have hd1 : ¬ (150 : Int) < (dt : Int) := by omega
      go_wp2_with fail
      refine (HM.out w3 HB0.out).mono ?_
      rintro e w4 ⟨rfl, hb⟩
      replace HB0 := Lib.hid (HB0.out.trans (hb.mono HB0.out.size))
      replace L0 := L0.below hb L0.lt
      clear hb x0 x1 x2 x3 x4
      obtain ⟨⟨x0, x1, x2, x3, x4⟩, _⟩ := L0.five
      cases q2 with
      | false =>
        go_wp2_with fail
        refine (HF.out _ HB0.out).mono ?_
        rintro e wz ⟨rfl, hbz⟩
        go_wp2_with fail
        go_ret
        exact ⟨rfl, HB0.out.trans (hbz.mono HB0.out.size)⟩
      | true =>
        obtain ⟨P1, P2⟩ := PL.out (by simp)
        have P2 := Lib.hid P2
        have P1 := Lib.hid P1
        have hm9 := HL.out (by simp)
        have HPT := Lib.hid (HPT.out (by simp))
        have HFR := Lib.hid (HFR.out (by simp))
        go_wp2_with fail
        refine (HCK.out (by simp) w4 HB0.out).mono ?_
        rintro e w5 ⟨rfl, hb⟩
        replace HB0 := Lib.hid (HB0.out.trans (hb.mono HB0.out.size))
        replace L0 := L0.below hb L0.lt
        clear hb x0 x1 x2 x3 x4 HF HSM HDP HM HCK HL PL hd hd1
        go_wp2_with fail
        go_loopw [5] (fun x wr => ∃ i : Nat, i ≤ m ∧ x = .int .i64 i ∧ Below w5.heap.size w5 wr) (fun x _ => m - (intOf x).toNat)
        case atStart => exact ⟨0, by omega, rfl, Below.refl _ _⟩
        case round =>
          obtain ⟨i, hi, rfl, hbw⟩ := hrel
          have Lr := L0.below hbw L0.lt
          obtain ⟨⟨x0, x1, x2, x3, x4⟩, _⟩ := Lr.five
          have HBr := Lib.hid (HB0.out.trans (hbw.mono HB0.out.size))
          by_cases hgo : i < m ∧ cy = 0
          · obtain ⟨hlt, rfl⟩ := hgo
            have hit : i < tl.length := by have := HMM.out; omega
            have HTr := TIn.below _ HT.out HBr.out (Nat.le_refl _)
            obtain ⟨g, o, A', c', ⟨rfl, _⟩, k0, k1, k2, k3, k4, kt⟩ := HTr.part i hit
            simp only [Tr.parts] at k0 k1 k2 k3 k4 kt
            have HP := Lib.hid (HPT.out (tl[i]'hit) (List.getElem_mem hit))
            have HQ := Lib.hid (P2.out (tl[i]'hit) (List.getElem_mem hit) (by simp))
            obtain ⟨p, hp⟩ : ∃ p, p = tl[i]'hit := ⟨_, rfl⟩
            rw [← hp] at k0 k1 k2 k3 k4 kt HP HQ
            clear hp hit HTr
            obtain ⟨px, hpx⟩ : ∃ b, b = (checkV p).1 := ⟨_, rfl⟩
            obtain ⟨py, hpy⟩ : ∃ b, b = (checkV p).2 := ⟨_, rfl⟩
            obtain ⟨pf, hpf⟩ : ∃ b, b = freeV5 p := ⟨_, rfl⟩
            rw [← hpx, ← hpy, ← hpf] at HP
            rw [← hpy, ← hpf] at HQ
            clear hpx hpy hpf
            have HP := Lib.hid (fun (V : World) (hV : Below wr.heap.size wr V) => HP.out A' c' V (HBr.out.trans (hV.mono HBr.out.size)) (TIn.below _ kt hV (Nat.le_refl _)))
            clear kt
            obtain ⟨pk, ps, pn, pa, pl⟩ := p
            simp only [Tr.kind, Tr.name, Tr.n, Tr.place] at k0 k1 k2 k3 k4 HP HQ
            generalize pl.length = pm at k4 HP
            generalize capF pm c' = pc at k4 HP
            obtain ⟨w6, hw6⟩ : ∃ W, W = wr.alloc (.cells #[.int .i64 pk, .string ps, .int .i64 pn, .int .i64 pa, .slice A' pm pc] 24) := ⟨_, rfl⟩
            have hb6 : Below wr.heap.size wr w6 := by rw [hw6]; exact below_allocS wr _
            have L6 : Lies w6 wr.heap.size 24 #[.int .i64 pk, .string ps, .int .i64 pn, .int .i64 pa, .slice A' pm pc] := by rw [hw6]; exact Lies.new _ _ _
            obtain ⟨g6, hg6⟩ : ∃ g, g = wr.heap.size := ⟨_, rfl⟩
            go_upto_region 8 with fail
            rw [← hw6]
            rw [← hg6] at L6 ⊢
            obtain ⟨HC6, HF6⟩ := HP.out w6 hb6
            have HF6 := Lib.hid HF6
            have HB6 := Lib.hid (hbw.trans (hb6.mono hbw.size))
            clear hw6 hg6 hb6 k0 k1 k2 k3 k4 HP x0 x1 x2 x3 x4 Lr
            obtain ⟨⟨y0, y1, y2, y3, y4⟩, _⟩ := L6.five
            go_wp2_with fail
            refine HC6.mono ?_
            rintro e w7 ⟨rfl, hb7⟩
            replace HB6 := Lib.hid (HB6.out.trans (hb7.mono HB6.out.size))
            replace L6 := L6.below hb7 L6.lt
            clear y0 y1 y2 y3 y4 HC6
            obtain ⟨⟨y0, y1, y2, y3, y4⟩, _⟩ := L6.five
            by_cases h8 : pk = 8
            · subst h8
              go_wp2_with fail
              go_roundw
              case rel => exact ⟨i + 1, by omega, by go_num, HB6.out⟩
              case measure => simp [intOf]; omega
            · have h8a : (pk == 8) = false := by simp [h8]
              have h8b : (pk != 8) = true := by simp [h8]
              rcases HQ.out h8 with h1 | ⟨h1, h2⟩
              · subst h1
                clear HQ h8
                go_wp2_with fail
                go_roundw
                case rel => exact ⟨i + 1, by omega, by go_num, HB6.out⟩
                case measure => simp [intOf]; omega
              · subst h1
                clear HQ h8
                obtain ⟨fl, hfl⟩ : ∃ n, n = pf.length := ⟨_, rfl⟩
                rw [← hfl] at h2
                have HFL := Lib.hid hfl
                have h2a : ((fl : Int) == 0) = false := by simp; omega
                clear hfl
                go_wp2_with fail
                refine (HF6.out w7 hb7).mono ?_
                rintro e w8 ⟨Af, cf, rfl, _, hb8⟩
                rw [← HFL.out]
                go_wp2_with fail
                go_roundw
                case rel => exact ⟨i + 1, by omega, by go_num, HB6.out.trans (hb8.mono HB6.out.size)⟩
                case measure => simp [intOf]; omega
          · have hgo2 : m ≤ i ∨ cy ≠ 0 := by
              by_cases h : i < m
              · exact .inr fun e => hgo ⟨h, e⟩
              · exact .inl (by omega)
            clear hgo
            have HEND : Hid (∀ W, Below w.heap.size w W → Calls Tryd.prog 10 #[.agg #[.int .i64 tk, .string ts, .int .i64 tn, .int .i64 ta, .slice A m cc]] W (GiveN fr W)) := HFR
            obtain ⟨fl, hfl⟩ : ∃ n, n = fr.length := ⟨_, rfl⟩
            rw [← hfl] at P1
            have HFL := Lib.hid hfl
            clear hfl HFR HPT P2
            by_cases h50 : cy = 50
            · subst h50
              have hp := P1.out (by simp)
              have hp1 : (0 : Int) < (fl : Int) := by omega
              by_cases hlt : i < m
              · go_wp2_with fail
                refine (HEND.out wr HBr.out).mono ?_
                rintro e w8 ⟨Af, cf, rfl, _, hb8⟩
                rw [← HFL.out]
                go_wp2_with fail
                go_ret
                exact ⟨ret_bool (decide_eq_true (show 0 < fl by omega)), HBr.out.trans (hb8.mono HBr.out.size)⟩
              · go_wp2_with fail
                refine (HEND.out wr HBr.out).mono ?_
                rintro e w8 ⟨Af, cf, rfl, _, hb8⟩
                rw [← HFL.out]
                go_wp2_with fail
                go_ret
                exact ⟨ret_bool (decide_eq_true (show 0 < fl by omega)), HBr.out.trans (hb8.mono HBr.out.size)⟩
            · have h50a : (cy == 50) = false := by simp [h50]
              have h50b : (cy != 50) = true := by simp [h50]
              clear h50
              by_cases hlt : i < m
              · have hc0 : (cy == 0) = false := by
                  rcases hgo2 with h | h
                  · omega
                  · simp [h]
                clear hgo2
                go_wp2_with fail
                go_ret
                exact ⟨rfl, HBr.out⟩
              · clear hgo2
                go_wp2_with fail
                go_ret
                exact ⟨rfl, HBr.out⟩
end Lx
end Go.Proofs.YtobdoahdjbmflaaDoor
