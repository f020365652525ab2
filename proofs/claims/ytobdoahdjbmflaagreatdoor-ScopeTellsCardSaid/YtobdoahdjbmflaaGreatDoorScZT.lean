/-
  The law ScopeTells, walked.
-/
import Derived.Test.YtobdoahdjbmflaaGreatDoorC22
import Derived.Test.YtobdoahdjbmflaaGreatDoorC15
import Derived.Test.YtobdoahdjbmflaaGreatDoorC8
import Derived.Test.YtobdoahdjbmflaaGreatDoorC23
import Derived.Deep.RegionHeld3
import Derived.Deep.DrawnRows
namespace Go.Proofs.YtobdoahdjbmflaaGreatDoor
open Go Go.RowKit
namespace Lx
set_option maxRecDepth 100000
theorem giveR_in {l : List (ByteArray × Int)} {w w' : World} {e : Ending} (h : AGive l w e w') : ∃ A c, e = .returned (.slice A l.length c) ∧ AIn w' Any l A ∧ Below w.heap.size w w' := h
theorem giveS_in {l : List ByteArray} {w w' : World} {e : Ending} (h : SGive l w e w') : ∃ A c, e = .returned (.slice A l.length c) ∧ SIn w' Any l A ∧ Below w.heap.size w w' := by
  obtain ⟨A, c, he, hr, _, hb⟩ := h
  exact ⟨A, c, he, hr, hb⟩
set_option maxHeartbeats 16000000 in
theorem scopeTells_law (t : Tr) (A : Option Addr) (c : Nat) (w : World) (ht : TIn w Any t A) (hg : Signs w) :
    Calls Tryz.prog 3 #[tv t A c] w fun e w' => e = .returned (.bool true) ∧ Below w.heap.size w w' := by
  have HF := Lib.hid (fun (W : World) (h : Below w.heap.size w W) => fixed5_any W (hg.below h hg.pos))
  have HSt := Lib.hid (fun (W : World) (h : Below w.heap.size w W) => tsmall_any t A c 300 W (TIn.below _ ht h (Nat.le_refl _)) (by omega) (by omega))
  have HCK := Lib.hid (fun (hq : decide (0 ≤ fewT t 300 200) = true) (W : World) (h : Below w.heap.size w W) => sCheck_any t A c W ⟨by have := few5 hq; omega, by have := few5 hq; omega, TIn.below _ ht h (Nat.le_refl _), hg.below h hg.pos⟩)
  have HRK := Lib.hid (fun (hq : decide (0 ≤ fewT t 300 200) = true) (W : World) (h : Below w.heap.size w W) => rCheck_all t A c W (TIn.below _ ht h (Nat.le_refl _)) (by have := few5 hq; omega) (by have := few5 hq; omega))
  have HFT := Lib.hid (fun (hq : decide (0 ≤ fewT t 300 200) = true) (W : World) (h : Below w.heap.size w W) => (sFree_any t A c W ⟨by have := few5 hq; omega, by have := few5 hq; omega, TIn.below _ ht h (Nat.le_refl _), hg.below h hg.pos⟩).mono fun e w' h => giveN_in h)
  have HRF := Lib.hid (fun (hq : decide (0 ≤ fewT t 300 200) = true) (W : World) (h : Below w.heap.size w W) => (rFree_all t A c W (TIn.below _ ht h (Nat.le_refl _)) (by have := few5 hq; omega) (by have := few5 hq; omega)).mono fun e w' h => giveS_in h)
  have HKT := Lib.hid (fun (hq : decide (0 ≤ fewT t 300 200) = true) (W : World) (h : Below w.heap.size w W) => (sCons_any t A c W ⟨by have := few5 hq; omega, by have := few5 hq; omega, TIn.below _ ht h (Nat.le_refl _), hg.below h hg.pos⟩).mono fun e w' h => giveA_in h)
  have HRC := Lib.hid (fun (hq : decide (0 ≤ fewT t 300 200) = true) (W : World) (h : Below w.heap.size w W) => (rCons_all t A c W (TIn.below _ ht h (Nat.le_refl _)) (by have := few5 hq; omega)).mono fun e w' h => giveR_in h)
  have HNF : Hid (decide (0 ≤ fewT t 300 200) = true → (freeV5 t).length ≤ 1000 ∧ (consV5 t).length ≤ 1000) := Lib.hid (fun hq => by have := few5 hq; have := freeV_len t; have := consV_len t; omega)
  obtain ⟨qt, hqt9⟩ : ∃ z9, z9 = decide (0 ≤ fewT t 300 200) := ⟨_, rfl⟩
  obtain ⟨cx, hcx9⟩ : ∃ z9, z9 = (checkV t).1 := ⟨_, rfl⟩
  obtain ⟨cy, hcy9⟩ : ∃ z9, z9 = (checkV t).2 := ⟨_, rfl⟩
  obtain ⟨fr, hfr9⟩ : ∃ z9, z9 = freeV5 t := ⟨_, rfl⟩
  obtain ⟨kr, hkr9⟩ : ∃ z9, z9 = consV5 t := ⟨_, rfl⟩
  obtain ⟨fn, hfn9⟩ : ∃ z9, z9 = fr.length := ⟨_, rfl⟩
  obtain ⟨kn, hkn9⟩ : ∃ z9, z9 = kr.length := ⟨_, rfl⟩
  try rw [← hqt9] at HSt
  try rw [← hqt9] at HCK
  try rw [← hqt9] at HRK
  try rw [← hqt9] at HFT
  try rw [← hqt9] at HRF
  try rw [← hqt9] at HKT
  try rw [← hqt9] at HRC
  try rw [← hqt9] at HNF
  try rw [← hcx9] at HSt
  try rw [← hcx9] at HCK
  try rw [← hcx9] at HRK
  try rw [← hcx9] at HFT
  try rw [← hcx9] at HRF
  try rw [← hcx9] at HKT
  try rw [← hcx9] at HRC
  try rw [← hcx9] at HNF
  try rw [← hcy9] at HSt
  try rw [← hcy9] at HCK
  try rw [← hcy9] at HRK
  try rw [← hcy9] at HFT
  try rw [← hcy9] at HRF
  try rw [← hcy9] at HKT
  try rw [← hcy9] at HRC
  try rw [← hcy9] at HNF
  try rw [← hfr9] at HSt
  try rw [← hfr9] at HCK
  try rw [← hfr9] at HRK
  try rw [← hfr9] at HFT
  try rw [← hfr9] at HRF
  try rw [← hfr9] at HKT
  try rw [← hfr9] at HRC
  try rw [← hfr9] at HNF
  try rw [← hkr9] at HSt
  try rw [← hkr9] at HCK
  try rw [← hkr9] at HRK
  try rw [← hkr9] at HFT
  try rw [← hkr9] at HRF
  try rw [← hkr9] at HKT
  try rw [← hkr9] at HRC
  try rw [← hkr9] at HNF
  try rw [← hfn9] at HSt
  try rw [← hfn9] at HCK
  try rw [← hfn9] at HRK
  try rw [← hfn9] at HFT
  try rw [← hfn9] at HRF
  try rw [← hfn9] at HKT
  try rw [← hfn9] at HRC
  try rw [← hfn9] at HNF
  try rw [← hkn9] at HSt
  try rw [← hkn9] at HCK
  try rw [← hkn9] at HRK
  try rw [← hkn9] at HFT
  try rw [← hkn9] at HRF
  try rw [← hkn9] at HKT
  try rw [← hkn9] at HRC
  try rw [← hkn9] at HNF
  have HTt := Lib.hid ht
  have HLfn := Lib.hid hfn9
  have HLkn := Lib.hid hkn9
  clear hg hqt9 hcx9 hcy9 hfr9 hkr9 hfn9 hkn9 ht
  obtain ⟨tk, ts, tn, ta, tl⟩ := t
  try simp only [tv, Tr.kind, Tr.name, Tr.n, Tr.place, Tr.parts] at HSt
  try simp only [tv, Tr.kind, Tr.name, Tr.n, Tr.place, Tr.parts] at HCK
  try simp only [tv, Tr.kind, Tr.name, Tr.n, Tr.place, Tr.parts] at HRK
  try simp only [tv, Tr.kind, Tr.name, Tr.n, Tr.place, Tr.parts] at HFT
  try simp only [tv, Tr.kind, Tr.name, Tr.n, Tr.place, Tr.parts] at HRF
  try simp only [tv, Tr.kind, Tr.name, Tr.n, Tr.place, Tr.parts] at HKT
  try simp only [tv, Tr.kind, Tr.name, Tr.n, Tr.place, Tr.parts] at HRC
  try simp only [tv, Tr.kind, Tr.name, Tr.n, Tr.place, Tr.parts] at HNF
  simp only [tv, Tr.kind, Tr.name, Tr.n, Tr.place, Tr.parts]
  obtain ⟨tm, htm9⟩ : ∃ m, m = tl.length := ⟨_, rfl⟩
  try rw [← htm9] at HSt
  try rw [← htm9] at HCK
  try rw [← htm9] at HRK
  try rw [← htm9] at HFT
  try rw [← htm9] at HRF
  try rw [← htm9] at HKT
  try rw [← htm9] at HRC
  try rw [← htm9] at HNF
  rw [← htm9]
  have HMtm := Lib.hid htm9
  obtain ⟨tc, htc9⟩ : ∃ x, x = capF tm c := ⟨_, rfl⟩
  try rw [← htc9] at HSt
  try rw [← htc9] at HCK
  try rw [← htc9] at HRK
  try rw [← htc9] at HFT
  try rw [← htc9] at HRF
  try rw [← htc9] at HKT
  try rw [← htc9] at HRC
  try rw [← htc9] at HNF
  rw [← htc9]
  have HTC := Lib.hid htc9
  rw [htm9] at HTC
  clear htm9 htc9
  obtain ⟨u0, hu0⟩ : ∃ W, W = w.alloc (.cells #[.int .i64 tk, .string ts, .int .i64 tn, .int .i64 ta, .slice A tm tc] 24) := ⟨_, rfl⟩
  have hb0 : Below w.heap.size w u0 := by rw [hu0]; exact below_allocS w _
  have L0 : Lies u0 w.heap.size 24 #[.int .i64 tk, .string ts, .int .i64 tn, .int .i64 ta, .slice A tm tc] := by rw [hu0]; exact Lies.new _ _ _
  obtain ⟨g0, hg0⟩ : ∃ g, g = w.heap.size := ⟨_, rfl⟩
  rw [← hg0] at L0
  go_enter Tryz.func3, Tryz.ntmps3
  go_upto_region 1 with fail
  rw [← hu0]
  rw [← hg0]
  have HB0 := Lib.hid hb0
  clear hu0 hg0 hb0
  obtain ⟨⟨x00, x01, x02, x03, x04⟩, _⟩ := L0.five
  go_wp2_with fail
  refine (HSt.out u0 HB0.out).mono ?_
  rintro e w1 ⟨rfl, hb⟩
  replace HB0 := Lib.hid (HB0.out.trans (hb.mono HB0.out.size))
  replace L0 := L0.below hb L0.lt
  clear hb
  clear x00 x01 x02 x03 x04
  cases qt with
  | false =>
    go_wp2_with fail
    refine (HF.out _ HB0.out).mono ?_
    rintro e wz ⟨rfl, hbz⟩
    go_wp2_with fail
    go_ret
    exact ⟨rfl, HB0.out.trans (hbz.mono HB0.out.size)⟩
  | true =>
    obtain ⟨hfl, hkl⟩ := HNF.out (by simp)
    obtain ⟨⟨x00, x01, x02, x03, x04⟩, _⟩ := L0.five
    go_wp2_with fail
    refine (HCK.out (by simp) w1 HB0.out).mono ?_
    rintro e w2 ⟨rfl, hb⟩
    replace HB0 := Lib.hid (HB0.out.trans (hb.mono HB0.out.size))
    replace L0 := L0.below hb L0.lt
    clear hb
    clear x00 x01 x02 x03 x04
    obtain ⟨⟨x00, x01, x02, x03, x04⟩, _⟩ := L0.five
    go_wp2_with fail
    refine (HRK.out (by simp) w2 HB0.out).mono ?_
    rintro e w3 ⟨rfl, hb⟩
    replace HB0 := Lib.hid (HB0.out.trans (hb.mono HB0.out.size))
    replace L0 := L0.below hb L0.lt
    clear hb
    clear x00 x01 x02 x03 x04
    go_upto_region 5 with fail
    have HSS : Hid (∀ V', Below w3.heap.size w3 V' → (fun V' : World => (V'.cell? ⟨g0, 0, none⟩ = some (.int .i64 tk) ∧ V'.cell? ⟨g0, 1, none⟩ = some (.string ts) ∧ V'.cell? ⟨g0, 2, none⟩ = some (.int .i64 tn) ∧ V'.cell? ⟨g0, 3, none⟩ = some (.int .i64 ta) ∧ V'.cell? ⟨g0, 4, none⟩ = some (.slice A tm tc))) V') := Lib.hid fun V' h =>
      ⟨(h.cell (p := ⟨g0, 0, none⟩) L0.lt).trans (L0.cell 0), (h.cell (p := ⟨g0, 1, none⟩) L0.lt).trans (L0.cell 1), (h.cell (p := ⟨g0, 2, none⟩) L0.lt).trans (L0.cell 2), (h.cell (p := ⟨g0, 3, none⟩) L0.lt).trans (L0.cell 3), (h.cell (p := ⟨g0, 4, none⟩) L0.lt).trans (L0.cell 4)⟩
    have H0 : Hid (∀ X, Below w3.heap.size w3 X → Calls Tryz.prog 8 #[] X (fun e w' => e = .returned (.bool true) ∧ Below X.heap.size X w')) := Lib.hid fun X hX => HF.out X (HB0.out.trans (hX.mono HB0.out.size))
    have H1 : Hid (∀ X, Below w3.heap.size w3 X → Calls Tryz.prog 12 #[.agg #[.int .i64 tk, .string ts, .int .i64 tn, .int .i64 ta, .slice A tm tc]] X (fun e w' => ∃ E x, e = .returned (.slice E fn x) ∧ SIn w' Any fr E ∧ Below X.heap.size X w')) := Lib.hid fun X hX => HFT.out (by simp) X (HB0.out.trans (hX.mono HB0.out.size))
    have H2 : Hid (∀ X, Below w3.heap.size w3 X → Calls Tryz.prog 13 #[.agg #[.int .i64 tk, .string ts, .int .i64 tn, .int .i64 ta, .slice A tm tc]] X (fun e w' => ∃ E x, e = .returned (.slice E fn x) ∧ SIn w' Any fr E ∧ Below X.heap.size X w')) := Lib.hid fun X hX => HRF.out (by simp) X (HB0.out.trans (hX.mono HB0.out.size))
    have H3 : Hid (∀ X, Below w3.heap.size w3 X → Calls Tryz.prog 15 #[.agg #[.int .i64 tk, .string ts, .int .i64 tn, .int .i64 ta, .slice A tm tc]] X (fun e w' => ∃ E x, e = .returned (.slice E kn x) ∧ AIn w' Any kr E ∧ Below X.heap.size X w')) := Lib.hid fun X hX => HKT.out (by simp) X (HB0.out.trans (hX.mono HB0.out.size))
    have H4 : Hid (∀ X, Below w3.heap.size w3 X → Calls Tryz.prog 16 #[.agg #[.int .i64 tk, .string ts, .int .i64 tn, .int .i64 ta, .slice A tm tc]] X (fun e w' => ∃ E x, e = .returned (.slice E kn x) ∧ AIn w' Any kr E ∧ Below X.heap.size X w')) := Lib.hid fun X hX => HRC.out (by simp) X (HB0.out.trans (hX.mono HB0.out.size))
    have H5 : Hid (∀ X, Below w3.heap.size w3 X → ∀ (E G : Option Addr) (x y : Nat), SIn X Any fr E → SIn X Any fr G → Calls Tryz.prog 11 #[.slice E fn x, .slice G fn y] X (fun e w' => e = .returned (.bool true) ∧ Below X.heap.size X w')) := Lib.hid fun X hX E G x y h1 h2 => by
      have h := names_any fr fr E G fn fn x y X HLfn.out HLfn.out (by omega) (by omega) h1 h2
      rw [decide_eq_true (rfl : fr = fr)] at h
      exact h
    have H6 : Hid (∀ X, Below w3.heap.size w3 X → ∀ (E G : Option Addr) (x y : Nat), AIn X Any kr E → AIn X Any kr G → Calls Tryz.prog 14 #[.slice E kn x, .slice G kn y] X (fun e w' => e = .returned (.bool true) ∧ Below X.heap.size X w')) := Lib.hid fun X hX E G x y h1 h2 => by
      have h := arities_any kr kr E G kn kn x y X HLkn.out HLkn.out (by omega) (by omega) h1 h2
      rw [decide_eq_true (rfl : kr = kr)] at h
      exact h
    clear L0 HF HCK HRK HFT HRF HKT HRC HNF HSt
    have hb_1 : Below w3.heap.size w3 w3 := Below.refl _ _
    refine wp_region_held_drew (S := (fun V' : World => (V'.cell? ⟨g0, 0, none⟩ = some (.int .i64 tk) ∧ V'.cell? ⟨g0, 1, none⟩ = some (.string ts) ∧ V'.cell? ⟨g0, 2, none⟩ = some (.int .i64 tn) ∧ V'.cell? ⟨g0, 3, none⟩ = some (.int .i64 ta) ∧ V'.cell? ⟨g0, 4, none⟩ = some (.slice A tm tc)))) rfl (HSS.out _ hb_1.drew) (fun hSs => ?_)
    change wpAnyH _ _ _ _ _ 26 (Array.replicate 26 false) _ _
    refine wpAnyH_ready (rs := [0]) (by kernel_rfl) (by simp) (AllReadyH.cons rfl (fun K hK => ?_) AllReadyH.nil)
    go_simp
    refine (H0.out _ (hb_1.drew)).mono ?_
    rintro e u_2 ⟨rfl, hq_2⟩
    have hb_2 := (hb_1.drew).trans (hq_2.mono (hb_1.drew).size)
    refine hK.out _ _ (HSS.out _ hb_2) (fun hS_2 => ?_)
    clear hK K
    try simp only [Act.put, List.setIfInBounds_toArray, List.set_cons_zero, List.set_cons_succ]
    refine wpAnyH_take (i := 1) (oi := ⟨some 22, _, _, _, _, _⟩) (v := .bool true) rfl (by kernel_rfl) (by kernel_rfl) (by kernel_rfl) (fun _ _ _ h => h) (.inl ⟨by kernel_rfl, fun W hW => by kernel_rfl⟩) hS_2 ?_
    try simp only [Act.put, List.setIfInBounds_toArray, List.set_cons_zero, List.set_cons_succ]
    refine wpAnyH_take (i := 2) (oi := ⟨some 23, _, _, _, _, _⟩) (v := .int .i64 cx) rfl (by kernel_rfl) (by kernel_rfl) (by kernel_rfl) (fun _ _ _ h => h) (.inl ⟨by kernel_rfl, fun W hW => by kernel_rfl⟩) hS_2 ?_
    try simp only [Act.put, List.setIfInBounds_toArray, List.set_cons_zero, List.set_cons_succ]
    refine wpAnyH_take (i := 3) (oi := ⟨some 24, _, _, _, _, _⟩) (v := .int .i64 cx) rfl (by kernel_rfl) (by kernel_rfl) (by kernel_rfl) (fun _ _ _ h => h) (.inl ⟨by kernel_rfl, fun W hW => by kernel_rfl⟩) hS_2 ?_
    try simp only [Act.put, List.setIfInBounds_toArray, List.set_cons_zero, List.set_cons_succ]
    refine wpAnyH_take (i := 4) (oi := ⟨some 25, _, _, _, _, _⟩) (v := .bool true) rfl (by kernel_rfl) (by kernel_rfl) (by kernel_rfl) (fun _ _ _ h => h) (.inl ⟨by kernel_rfl, fun W hW => by first | (obtain ⟨z0, z1, z2, z3, z4⟩ := hW; go_simp; done) | (obtain ⟨z0, z1, z2, z3, z4⟩ := hW; go_simp; omega) | (obtain ⟨z0, z1, z2, z3, z4⟩ := hW; go_simp; exact IntWalk.i64_in _ (by omega)) | (obtain ⟨z0, z1, z2, z3, z4⟩ := hW; go_simp; simp [*]; done)⟩) hS_2 ?_
    try simp only [Act.put, List.setIfInBounds_toArray, List.set_cons_zero, List.set_cons_succ]
    refine wpAnyH_take (i := 5) (oi := ⟨some 26, _, _, _, _, _⟩) (v := .bool true) rfl (by kernel_rfl) (by kernel_rfl) (by kernel_rfl) (fun _ _ _ h => h) (.inl ⟨by kernel_rfl, fun W hW => by kernel_rfl⟩) hS_2 ?_
    try simp only [Act.put, List.setIfInBounds_toArray, List.set_cons_zero, List.set_cons_succ]
    refine wpAnyH_take (i := 6) (oi := ⟨some 27, _, _, _, _, _⟩) (v := .bool true) rfl (by kernel_rfl) (by kernel_rfl) (by kernel_rfl) (fun _ _ _ h => h) (.inl ⟨by kernel_rfl, fun W hW => by kernel_rfl⟩) hS_2 ?_
    try simp only [Act.put, List.setIfInBounds_toArray, List.set_cons_zero, List.set_cons_succ]
    refine wpAnyH_take (i := 7) (oi := ⟨some 28, _, _, _, _, _⟩) (v := .int .i64 cy) rfl (by kernel_rfl) (by kernel_rfl) (by kernel_rfl) (fun _ _ _ h => h) (.inl ⟨by kernel_rfl, fun W hW => by kernel_rfl⟩) hS_2 ?_
    try simp only [Act.put, List.setIfInBounds_toArray, List.set_cons_zero, List.set_cons_succ]
    refine wpAnyH_take (i := 8) (oi := ⟨some 29, _, _, _, _, _⟩) (v := .int .i64 cy) rfl (by kernel_rfl) (by kernel_rfl) (by kernel_rfl) (fun _ _ _ h => h) (.inl ⟨by kernel_rfl, fun W hW => by kernel_rfl⟩) hS_2 ?_
    try simp only [Act.put, List.setIfInBounds_toArray, List.set_cons_zero, List.set_cons_succ]
    refine wpAnyH_take (i := 9) (oi := ⟨some 30, _, _, _, _, _⟩) (v := .bool true) rfl (by kernel_rfl) (by kernel_rfl) (by kernel_rfl) (fun _ _ _ h => h) (.inl ⟨by kernel_rfl, fun W hW => by first | (obtain ⟨z0, z1, z2, z3, z4⟩ := hW; go_simp; done) | (obtain ⟨z0, z1, z2, z3, z4⟩ := hW; go_simp; omega) | (obtain ⟨z0, z1, z2, z3, z4⟩ := hW; go_simp; exact IntWalk.i64_in _ (by omega)) | (obtain ⟨z0, z1, z2, z3, z4⟩ := hW; go_simp; simp [*]; done)⟩) hS_2 ?_
    try simp only [Act.put, List.setIfInBounds_toArray, List.set_cons_zero, List.set_cons_succ]
    refine wpAnyH_take (i := 10) (oi := ⟨some 31, _, _, _, _, _⟩) (v := .bool true) rfl (by kernel_rfl) (by kernel_rfl) (by kernel_rfl) (fun _ _ _ h => h) (.inl ⟨by kernel_rfl, fun W hW => by kernel_rfl⟩) hS_2 ?_
    try simp only [Act.put, List.setIfInBounds_toArray, List.set_cons_zero, List.set_cons_succ]
    refine wpAnyH_take (i := 11) (oi := ⟨some 32, _, _, _, _, _⟩) (v := .bool true) rfl (by kernel_rfl) (by kernel_rfl) (by kernel_rfl) (fun _ _ _ h => h) (.inl ⟨by kernel_rfl, fun W hW => by kernel_rfl⟩) hS_2 ?_
    try simp only [Act.put, List.setIfInBounds_toArray, List.set_cons_zero, List.set_cons_succ]
    refine wpAnyH_take (i := 12) (oi := ⟨some 33, _, _, _, _, _⟩) (v := .agg #[.int .i64 tk, .string ts, .int .i64 tn, .int .i64 ta, .slice A tm tc]) rfl (by kernel_rfl) (by kernel_rfl) (by kernel_rfl) (fun _ _ _ h => h) (.inl ⟨by kernel_rfl, fun W hW => by first | (obtain ⟨z0, z1, z2, z3, z4⟩ := hW; go_simp; done) | (obtain ⟨z0, z1, z2, z3, z4⟩ := hW; go_simp; omega) | (obtain ⟨z0, z1, z2, z3, z4⟩ := hW; go_simp; exact IntWalk.i64_in _ (by omega)) | (obtain ⟨z0, z1, z2, z3, z4⟩ := hW; go_simp; simp [*]; done)⟩) hS_2 ?_
    try simp only [Act.put, List.setIfInBounds_toArray, List.set_cons_zero, List.set_cons_succ]
    refine wpAnyH_take (i := 14) (oi := ⟨some 35, _, _, _, _, _⟩) (v := .agg #[.int .i64 tk, .string ts, .int .i64 tn, .int .i64 ta, .slice A tm tc]) rfl (by kernel_rfl) (by kernel_rfl) (by kernel_rfl) (fun _ _ _ h => h) (.inl ⟨by kernel_rfl, fun W hW => by first | (obtain ⟨z0, z1, z2, z3, z4⟩ := hW; go_simp; done) | (obtain ⟨z0, z1, z2, z3, z4⟩ := hW; go_simp; omega) | (obtain ⟨z0, z1, z2, z3, z4⟩ := hW; go_simp; exact IntWalk.i64_in _ (by omega)) | (obtain ⟨z0, z1, z2, z3, z4⟩ := hW; go_simp; simp [*]; done)⟩) hS_2 ?_
    try simp only [Act.put, List.setIfInBounds_toArray, List.set_cons_zero, List.set_cons_succ]
    refine wpAnyH_ready (rs := [13]) (by kernel_rfl) (by simp) (AllReadyH.cons rfl (fun K hK => ?_) AllReadyH.nil)
    rw [if_pos (by kernel_rfl)]
    go_simp
    refine (H1.out _ hb_2).mono ?_
    rintro e u_3 ⟨A_3, c_3, rfl, hR_3, hq_3⟩
    have hb_3 := hb_2.trans (hq_3.mono hb_2.size)
    refine hK.out _ _ (HSS.out _ hb_3) (fun hS_3 => ?_)
    clear hK K
    try simp only [Act.put, List.setIfInBounds_toArray, List.set_cons_zero, List.set_cons_succ]
    refine wpAnyH_ready (rs := [15]) (by kernel_rfl) (by simp) (AllReadyH.cons rfl (fun K hK => ?_) AllReadyH.nil)
    rw [if_pos (by kernel_rfl)]
    go_simp
    refine (H2.out _ hb_3).mono ?_
    rintro e u_4 ⟨A_4, c_4, rfl, hR_4, hq_4⟩
    have hb_4 := hb_3.trans (hq_4.mono hb_3.size)
    have hR_3_4 := hR_3.below hq_4 (Nat.le_refl _)
    clear hR_3
    refine hK.out _ _ (HSS.out _ hb_4) (fun hS_4 => ?_)
    clear hK K
    try simp only [Act.put, List.setIfInBounds_toArray, List.set_cons_zero, List.set_cons_succ]
    refine wpAnyH_ready (rs := [16]) (by kernel_rfl) (by simp) (AllReadyH.cons rfl (fun K hK => ?_) AllReadyH.nil)
    rw [if_pos (by kernel_rfl)]
    go_simp
    refine (H5.out _ hb_4 A_3 A_4 c_3 c_4 hR_3_4 hR_4).mono ?_
    rintro e u_5 ⟨rfl, hq_5⟩
    have hb_5 := hb_4.trans (hq_5.mono hb_4.size)
    have hR_3_4_5 := hR_3_4.below hq_5 (Nat.le_refl _)
    have hR_4_5 := hR_4.below hq_5 (Nat.le_refl _)
    clear hR_3_4 hR_4
    refine hK.out _ _ (HSS.out _ hb_5) (fun hS_5 => ?_)
    clear hK K
    try simp only [Act.put, List.setIfInBounds_toArray, List.set_cons_zero, List.set_cons_succ]
    refine wpAnyH_take (i := 17) (oi := ⟨some 38, _, _, _, _, _⟩) (v := .bool true) rfl (by kernel_rfl) (by kernel_rfl) (by kernel_rfl) (fun _ _ _ h => h) (.inl ⟨by kernel_rfl, fun W hW => by kernel_rfl⟩) hS_5 ?_
    try simp only [Act.put, List.setIfInBounds_toArray, List.set_cons_zero, List.set_cons_succ]
    refine wpAnyH_take (i := 18) (oi := ⟨some 39, _, _, _, _, _⟩) (v := .bool true) rfl (by kernel_rfl) (by kernel_rfl) (by kernel_rfl) (fun _ _ _ h => h) (.inl ⟨by kernel_rfl, fun W hW => by kernel_rfl⟩) hS_5 ?_
    try simp only [Act.put, List.setIfInBounds_toArray, List.set_cons_zero, List.set_cons_succ]
    refine wpAnyH_take (i := 19) (oi := ⟨some 40, _, _, _, _, _⟩) (v := .agg #[.int .i64 tk, .string ts, .int .i64 tn, .int .i64 ta, .slice A tm tc]) rfl (by kernel_rfl) (by kernel_rfl) (by kernel_rfl) (fun _ _ _ h => h) (.inl ⟨by kernel_rfl, fun W hW => by first | (obtain ⟨z0, z1, z2, z3, z4⟩ := hW; go_simp; done) | (obtain ⟨z0, z1, z2, z3, z4⟩ := hW; go_simp; omega) | (obtain ⟨z0, z1, z2, z3, z4⟩ := hW; go_simp; exact IntWalk.i64_in _ (by omega)) | (obtain ⟨z0, z1, z2, z3, z4⟩ := hW; go_simp; simp [*]; done)⟩) hS_5 ?_
    try simp only [Act.put, List.setIfInBounds_toArray, List.set_cons_zero, List.set_cons_succ]
    refine wpAnyH_take (i := 21) (oi := ⟨some 42, _, _, _, _, _⟩) (v := .agg #[.int .i64 tk, .string ts, .int .i64 tn, .int .i64 ta, .slice A tm tc]) rfl (by kernel_rfl) (by kernel_rfl) (by kernel_rfl) (fun _ _ _ h => h) (.inl ⟨by kernel_rfl, fun W hW => by first | (obtain ⟨z0, z1, z2, z3, z4⟩ := hW; go_simp; done) | (obtain ⟨z0, z1, z2, z3, z4⟩ := hW; go_simp; omega) | (obtain ⟨z0, z1, z2, z3, z4⟩ := hW; go_simp; exact IntWalk.i64_in _ (by omega)) | (obtain ⟨z0, z1, z2, z3, z4⟩ := hW; go_simp; simp [*]; done)⟩) hS_5 ?_
    try simp only [Act.put, List.setIfInBounds_toArray, List.set_cons_zero, List.set_cons_succ]
    refine wpAnyH_ready (rs := [20]) (by kernel_rfl) (by simp) (AllReadyH.cons rfl (fun K hK => ?_) AllReadyH.nil)
    rw [if_pos (by kernel_rfl)]
    go_simp
    refine (H3.out _ hb_5).mono ?_
    rintro e u_6 ⟨A_6, c_6, rfl, hR_6, hq_6⟩
    have hb_6 := hb_5.trans (hq_6.mono hb_5.size)
    have hR_3_4_5_6 := hR_3_4_5.below hq_6 (Nat.le_refl _)
    have hR_4_5_6 := hR_4_5.below hq_6 (Nat.le_refl _)
    clear hR_3_4_5 hR_4_5
    refine hK.out _ _ (HSS.out _ hb_6) (fun hS_6 => ?_)
    clear hK K
    try simp only [Act.put, List.setIfInBounds_toArray, List.set_cons_zero, List.set_cons_succ]
    refine wpAnyH_ready (rs := [22]) (by kernel_rfl) (by simp) (AllReadyH.cons rfl (fun K hK => ?_) AllReadyH.nil)
    rw [if_pos (by kernel_rfl)]
    go_simp
    refine (H4.out _ hb_6).mono ?_
    rintro e u_7 ⟨A_7, c_7, rfl, hR_7, hq_7⟩
    have hb_7 := hb_6.trans (hq_7.mono hb_6.size)
    have hR_3_4_5_6_7 := hR_3_4_5_6.below hq_7 (Nat.le_refl _)
    have hR_4_5_6_7 := hR_4_5_6.below hq_7 (Nat.le_refl _)
    have hR_6_7 := hR_6.below hq_7 (Nat.le_refl _)
    clear hR_3_4_5_6 hR_4_5_6 hR_6
    refine hK.out _ _ (HSS.out _ hb_7) (fun hS_7 => ?_)
    clear hK K
    try simp only [Act.put, List.setIfInBounds_toArray, List.set_cons_zero, List.set_cons_succ]
    refine wpAnyH_ready (rs := [23]) (by kernel_rfl) (by simp) (AllReadyH.cons rfl (fun K hK => ?_) AllReadyH.nil)
    rw [if_pos (by kernel_rfl)]
    go_simp
    refine (H6.out _ hb_7 A_6 A_7 c_6 c_7 hR_6_7 hR_7).mono ?_
    rintro e u_8 ⟨rfl, hq_8⟩
    have hb_8 := hb_7.trans (hq_8.mono hb_7.size)
    have hR_3_4_5_6_7_8 := hR_3_4_5_6_7.below hq_8 (Nat.le_refl _)
    have hR_4_5_6_7_8 := hR_4_5_6_7.below hq_8 (Nat.le_refl _)
    have hR_6_7_8 := hR_6_7.below hq_8 (Nat.le_refl _)
    have hR_7_8 := hR_7.below hq_8 (Nat.le_refl _)
    clear hR_3_4_5_6_7 hR_4_5_6_7 hR_6_7 hR_7
    refine hK.out _ _ (HSS.out _ hb_8) (fun hS_8 => ?_)
    clear hK K
    try simp only [Act.put, List.setIfInBounds_toArray, List.set_cons_zero, List.set_cons_succ]
    refine wpAnyH_take (i := 24) (oi := ⟨some 45, _, _, _, _, _⟩) (v := .bool true) rfl (by kernel_rfl) (by kernel_rfl) (by kernel_rfl) (fun _ _ _ h => h) (.inl ⟨by kernel_rfl, fun W hW => by kernel_rfl⟩) hS_8 ?_
    try simp only [Act.put, List.setIfInBounds_toArray, List.set_cons_zero, List.set_cons_succ]
    refine wpAnyH_take (i := 25) (oi := ⟨some 2, _, _, _, _, _⟩) (v := .bool true) rfl (by kernel_rfl) (by kernel_rfl) (by kernel_rfl) (fun _ _ _ h => h) (.inl ⟨by kernel_rfl, fun W hW => by kernel_rfl⟩) hS_8 ?_
    try simp only [Act.put, List.setIfInBounds_toArray, List.set_cons_zero, List.set_cons_succ]
    refine wpAnyH_done (by kernel_rfl) ?_ _
    go_wp2_with fail
    go_ret
    exact ⟨rfl, HB0.out.trans (hb_8.mono HB0.out.size)⟩
end Lx
end Go.Proofs.YtobdoahdjbmflaaGreatDoor
