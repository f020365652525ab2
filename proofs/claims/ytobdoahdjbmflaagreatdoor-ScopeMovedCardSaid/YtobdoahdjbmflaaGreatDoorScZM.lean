/-
  The law ScopeMoved, walked.
-/
import Derived.Test.YtobdoahdjbmflaaGreatDoorC22
import Derived.Test.YtobdoahdjbmflaaGreatDoorC15
import Derived.Test.YtobdoahdjbmflaaGreatDoorC8
import Derived.Test.YtobdoahdjbmflaaGreatDoorC13
import Derived.Deep.RegionHeld3
import Derived.Deep.DrawnRows
namespace Go.Proofs.YtobdoahdjbmflaaGreatDoor
open Go Go.RowKit
namespace Lx
set_option maxRecDepth 100000
set_option maxHeartbeats 16000000 in
theorem scopeMoved_law (t : Tr) (A : Option Addr) (c : Nat) (w : World) (ht : TIn w Any t A) (hg : Signs w) :
    Calls Tryz.prog 5 #[tv t A c] w fun e w' => e = .returned (.bool true) ∧ Below w.heap.size w w' := by
  have HF := Lib.hid (fun (W : World) (h : Below w.heap.size w W) => fixed5_any W (hg.below h hg.pos))
  have HSt := Lib.hid (fun (W : World) (h : Below w.heap.size w W) => tsmall_any t A c 200 W (TIn.below _ ht h (Nat.le_refl _)) (by omega) (by omega))
  have HMt := Lib.hid (fun (W : World) (h : Below w.heap.size w W) => rMay_any t A c W (TIn.below _ ht h (Nat.le_refl _)))
  have HCK := Lib.hid (fun (hq : decide (0 ≤ fewT t 200 200) = true) (W : World) (h : Below w.heap.size w W) => sCheck_any t A c W ⟨by have := few5 hq; omega, by have := few5 hq; omega, TIn.below _ ht h (Nat.le_refl _), hg.below h hg.pos⟩)
  have HBR : Hid (decide (0 ≤ fewT t 200 200) = true → ∀ W, Below w.heap.size w W → Calls Tryz.prog 20 #[tv t A c] W fun e w' => ∃ D d, e = .returned (.agg #[.int .i64 t.kind, .string t.name, .int .i64 t.n, .int .i64 0, .slice D t.parts.length (capF t.parts.length d)]) ∧ TIn w' Any (bareT t) D ∧ Below W.heap.size W w') := Lib.hid (fun hq W h => (rbare_any (depthT t) t A c W (Nat.le_refl _) (by have := few5 hq; omega) (TIn.below _ ht h (Nat.le_refl _))).mono fun e w' hg => by
    obtain ⟨D, d, he, hI, hb⟩ := hg
    rw [tv_bare] at he
    exact ⟨D, d, he, TIn.any _ hI, hb⟩)
  have HCU : Hid (decide (0 ≤ fewT t 200 200) = true → mayV t = true → ∀ W, Below w.heap.size w W → ∀ D d, TIn W Any (bareT t) D → Calls Tryz.prog 9 #[.agg #[.int .i64 t.kind, .string t.name, .int .i64 t.n, .int .i64 0, .slice D t.parts.length (capF t.parts.length d)]] W fun e w' => e = .returned (.tuple #[.int .i64 0, .int .i64 (checkV t).2]) ∧ Below W.heap.size W w') := Lib.hid (fun hq hv W h D d hI => by
    have hf : Fit W (bareT t) D := ⟨by have := few5 hq; rw [depth_bareS]; omega, by have := few5 hq; rw [size_bareS]; omega, hI, hg.below h hg.pos⟩
    have h9 := sCheck_any (bareT t) D d W hf
    rw [check_bare hv, tv_bare] at h9
    exact h9)
  have HFU : Hid (decide (0 ≤ fewT t 200 200) = true → mayV t = true → ∀ W, Below w.heap.size w W → ∀ D d, TIn W Any (bareT t) D → Calls Tryz.prog 12 #[.agg #[.int .i64 t.kind, .string t.name, .int .i64 t.n, .int .i64 0, .slice D t.parts.length (capF t.parts.length d)]] W fun e w' => ∃ E x, e = .returned (.slice E (freeV5 t).length x) ∧ SIn w' Any (freeV5 t) E ∧ Below W.heap.size W w') := Lib.hid (fun hq hv W h D d hI => by
    have hf : Fit W (bareT t) D := ⟨by have := few5 hq; rw [depth_bareS]; omega, by have := few5 hq; rw [size_bareS]; omega, hI, hg.below h hg.pos⟩
    have h9 := (sFree_any (bareT t) D d W hf).mono fun e w' h => giveN_in h
    rw [free_bare hv, tv_bare] at h9
    exact h9)
  have HKU : Hid (decide (0 ≤ fewT t 200 200) = true → mayV t = true → ∀ W, Below w.heap.size w W → ∀ D d, TIn W Any (bareT t) D → Calls Tryz.prog 15 #[.agg #[.int .i64 t.kind, .string t.name, .int .i64 t.n, .int .i64 0, .slice D t.parts.length (capF t.parts.length d)]] W fun e w' => ∃ E x, e = .returned (.slice E (consV5 t).length x) ∧ AIn w' Any (consV5 t) E ∧ Below W.heap.size W w') := Lib.hid (fun hq hv W h D d hI => by
    have hf : Fit W (bareT t) D := ⟨by have := few5 hq; rw [depth_bareS]; omega, by have := few5 hq; rw [size_bareS]; omega, hI, hg.below h hg.pos⟩
    have h9 := (sCons_any (bareT t) D d W hf).mono fun e w' h => giveA_in h
    rw [cons_bare hv, tv_bare] at h9
    exact h9)
  have HFT := Lib.hid (fun (hq : decide (0 ≤ fewT t 200 200) = true) (W : World) (h : Below w.heap.size w W) => (sFree_any t A c W ⟨by have := few5 hq; omega, by have := few5 hq; omega, TIn.below _ ht h (Nat.le_refl _), hg.below h hg.pos⟩).mono fun e w' h => giveN_in h)
  have HKT := Lib.hid (fun (hq : decide (0 ≤ fewT t 200 200) = true) (W : World) (h : Below w.heap.size w W) => (sCons_any t A c W ⟨by have := few5 hq; omega, by have := few5 hq; omega, TIn.below _ ht h (Nat.le_refl _), hg.below h hg.pos⟩).mono fun e w' h => giveA_in h)
  have HNF : Hid (decide (0 ≤ fewT t 200 200) = true → (freeV5 t).length ≤ 1000 ∧ (consV5 t).length ≤ 1000) := Lib.hid (fun hq => by have := few5 hq; have := freeV_len t; have := consV_len t; omega)
  obtain ⟨qt, hqt9⟩ : ∃ b, b = decide (0 ≤ fewT t 200 200) := ⟨_, rfl⟩
  obtain ⟨vt, hvt9⟩ : ∃ b, b = mayV t := ⟨_, rfl⟩
  obtain ⟨cx, hcx9⟩ : ∃ b, b = (checkV t).1 := ⟨_, rfl⟩
  obtain ⟨cy, hcy9⟩ : ∃ b, b = (checkV t).2 := ⟨_, rfl⟩
  obtain ⟨ub, hub9⟩ : ∃ b, b = bareT t := ⟨_, rfl⟩
  obtain ⟨fr, hfr9⟩ : ∃ b, b = freeV5 t := ⟨_, rfl⟩
  obtain ⟨kr, hkr9⟩ : ∃ b, b = consV5 t := ⟨_, rfl⟩
  obtain ⟨fn, hfn9⟩ : ∃ b, b = fr.length := ⟨_, rfl⟩
  obtain ⟨kn, hkn9⟩ : ∃ b, b = kr.length := ⟨_, rfl⟩
  try rw [← hqt9] at HSt
  try rw [← hqt9] at HMt
  try rw [← hqt9] at HCK
  try rw [← hqt9] at HBR
  try rw [← hqt9] at HCU
  try rw [← hqt9] at HFU
  try rw [← hqt9] at HKU
  try rw [← hqt9] at HFT
  try rw [← hqt9] at HKT
  try rw [← hqt9] at HNF
  try rw [← hvt9] at HSt
  try rw [← hvt9] at HMt
  try rw [← hvt9] at HCK
  try rw [← hvt9] at HBR
  try rw [← hvt9] at HCU
  try rw [← hvt9] at HFU
  try rw [← hvt9] at HKU
  try rw [← hvt9] at HFT
  try rw [← hvt9] at HKT
  try rw [← hvt9] at HNF
  try rw [← hcx9] at HSt
  try rw [← hcx9] at HMt
  try rw [← hcx9] at HCK
  try rw [← hcx9] at HBR
  try rw [← hcx9] at HCU
  try rw [← hcx9] at HFU
  try rw [← hcx9] at HKU
  try rw [← hcx9] at HFT
  try rw [← hcx9] at HKT
  try rw [← hcx9] at HNF
  try rw [← hcy9] at HSt
  try rw [← hcy9] at HMt
  try rw [← hcy9] at HCK
  try rw [← hcy9] at HBR
  try rw [← hcy9] at HCU
  try rw [← hcy9] at HFU
  try rw [← hcy9] at HKU
  try rw [← hcy9] at HFT
  try rw [← hcy9] at HKT
  try rw [← hcy9] at HNF
  try rw [← hub9] at HSt
  try rw [← hub9] at HMt
  try rw [← hub9] at HCK
  try rw [← hub9] at HBR
  try rw [← hub9] at HCU
  try rw [← hub9] at HFU
  try rw [← hub9] at HKU
  try rw [← hub9] at HFT
  try rw [← hub9] at HKT
  try rw [← hub9] at HNF
  try rw [← hfr9] at HSt
  try rw [← hfr9] at HMt
  try rw [← hfr9] at HCK
  try rw [← hfr9] at HBR
  try rw [← hfr9] at HCU
  try rw [← hfr9] at HFU
  try rw [← hfr9] at HKU
  try rw [← hfr9] at HFT
  try rw [← hfr9] at HKT
  try rw [← hfr9] at HNF
  try rw [← hkr9] at HSt
  try rw [← hkr9] at HMt
  try rw [← hkr9] at HCK
  try rw [← hkr9] at HBR
  try rw [← hkr9] at HCU
  try rw [← hkr9] at HFU
  try rw [← hkr9] at HKU
  try rw [← hkr9] at HFT
  try rw [← hkr9] at HKT
  try rw [← hkr9] at HNF
  try rw [← hfn9] at HSt
  try rw [← hfn9] at HMt
  try rw [← hfn9] at HCK
  try rw [← hfn9] at HBR
  try rw [← hfn9] at HCU
  try rw [← hfn9] at HFU
  try rw [← hfn9] at HKU
  try rw [← hfn9] at HFT
  try rw [← hfn9] at HKT
  try rw [← hfn9] at HNF
  try rw [← hkn9] at HSt
  try rw [← hkn9] at HMt
  try rw [← hkn9] at HCK
  try rw [← hkn9] at HBR
  try rw [← hkn9] at HCU
  try rw [← hkn9] at HFU
  try rw [← hkn9] at HKU
  try rw [← hkn9] at HFT
  try rw [← hkn9] at HKT
  try rw [← hkn9] at HNF
  have HTt := Lib.hid ht
  have HLfn := Lib.hid hfn9
  have HLkn := Lib.hid hkn9
  clear hg hqt9 hvt9 hcx9 hcy9 hub9 hfr9 hkr9 hfn9 hkn9 ht
  obtain ⟨tk, ts, tn, ta, tl⟩ := t
  try simp only [tv, Tr.kind, Tr.name, Tr.n, Tr.place, Tr.parts] at HSt
  try simp only [tv, Tr.kind, Tr.name, Tr.n, Tr.place, Tr.parts] at HMt
  try simp only [tv, Tr.kind, Tr.name, Tr.n, Tr.place, Tr.parts] at HCK
  try simp only [tv, Tr.kind, Tr.name, Tr.n, Tr.place, Tr.parts] at HBR
  try simp only [Tr.kind, Tr.name, Tr.n, Tr.parts] at HCU
  try simp only [Tr.kind, Tr.name, Tr.n, Tr.parts] at HFU
  try simp only [Tr.kind, Tr.name, Tr.n, Tr.parts] at HKU
  try simp only [tv, Tr.kind, Tr.name, Tr.n, Tr.place, Tr.parts] at HFT
  try simp only [tv, Tr.kind, Tr.name, Tr.n, Tr.place, Tr.parts] at HKT
  try simp only [tv, Tr.kind, Tr.name, Tr.n, Tr.place, Tr.parts] at HNF
  simp only [tv, Tr.kind, Tr.name, Tr.n, Tr.place, Tr.parts]
  obtain ⟨tm, htm9⟩ : ∃ m, m = tl.length := ⟨_, rfl⟩
  try rw [← htm9] at HSt
  try rw [← htm9] at HMt
  try rw [← htm9] at HCK
  try rw [← htm9] at HBR
  try rw [← htm9] at HCU
  try rw [← htm9] at HFU
  try rw [← htm9] at HKU
  try rw [← htm9] at HFT
  try rw [← htm9] at HKT
  try rw [← htm9] at HNF
  rw [← htm9]
  have HMtm := Lib.hid htm9
  obtain ⟨tc, htc9⟩ : ∃ x, x = capF tm c := ⟨_, rfl⟩
  try rw [← htc9] at HSt
  try rw [← htc9] at HMt
  try rw [← htc9] at HCK
  try rw [← htc9] at HBR
  try rw [← htc9] at HCU
  try rw [← htc9] at HFU
  try rw [← htc9] at HKU
  try rw [← htc9] at HFT
  try rw [← htc9] at HKT
  try rw [← htc9] at HNF
  rw [← htc9]
  clear htm9 htc9
  obtain ⟨u0, hu0⟩ : ∃ W, W = w.alloc (.cells #[.int .i64 tk, .string ts, .int .i64 tn, .int .i64 ta, .slice A tm tc] 24) := ⟨_, rfl⟩
  have hb0 : Below w.heap.size w u0 := by rw [hu0]; exact below_allocS w _
  have L0 : Lies u0 w.heap.size 24 #[.int .i64 tk, .string ts, .int .i64 tn, .int .i64 ta, .slice A tm tc] := by rw [hu0]; exact Lies.new _ _ _
  obtain ⟨g0, hg0⟩ : ∃ g, g = w.heap.size := ⟨_, rfl⟩
  rw [← hg0] at L0
  go_enter Tryz.func5, Tryz.ntmps5
  go_upto_region 1 with fail
  rw [← hu0]
  rw [← hg0]
  have HB0 := Lib.hid hb0
  clear hu0 hg0 hb0
  go_wp2_with fail
  refine (HF.out u0 HB0.out).mono ?_
  rintro e w1 ⟨rfl, hb⟩
  replace HB0 := Lib.hid (HB0.out.trans (hb.mono HB0.out.size))
  replace L0 := L0.below hb L0.lt
  clear hb
  obtain ⟨⟨x00, x01, x02, x03, x04⟩, _⟩ := L0.five
  go_wp2_with fail
  refine (HSt.out w1 HB0.out).mono ?_
  rintro e w2 ⟨rfl, hb⟩
  replace HB0 := Lib.hid (HB0.out.trans (hb.mono HB0.out.size))
  replace L0 := L0.below hb L0.lt
  clear hb
  clear x00 x01 x02 x03 x04
  cases qt with
  | false =>
    go_wp2_with fail
    refine (HF.out _ HB0.out).mono ?_
    rintro e wz ⟨rfl, hbz⟩
    go_wp2_with fail
    go_ret
    exact ⟨rfl, HB0.out.trans (hbz.mono HB0.out.size)⟩
  | true =>
    obtain ⟨⟨x00, x01, x02, x03, x04⟩, _⟩ := L0.five
    go_wp2_with fail
    refine (HMt.out w2 HB0.out).mono ?_
    rintro e w3 ⟨rfl, hb⟩
    replace HB0 := Lib.hid (HB0.out.trans (hb.mono HB0.out.size))
    replace L0 := L0.below hb L0.lt
    clear hb
    clear x00 x01 x02 x03 x04
    cases vt with
    | false =>
      go_wp2_with fail
      refine (HF.out _ HB0.out).mono ?_
      rintro e wz ⟨rfl, hbz⟩
      go_wp2_with fail
      go_ret
      exact ⟨rfl, HB0.out.trans (hbz.mono HB0.out.size)⟩
    | true =>
      obtain ⟨hfl, hkl⟩ := HNF.out (by simp)
      obtain ⟨⟨x00, x01, x02, x03, x04⟩, _⟩ := L0.five
      go_wp2_with fail
      refine (HBR.out (by simp) w3 HB0.out).mono ?_
      rintro e w4 ⟨D, d, rfl, hIu, hb⟩
      replace HB0 := Lib.hid (HB0.out.trans (hb.mono HB0.out.size))
      replace L0 := L0.below hb L0.lt
      clear hb
      clear x00 x01 x02 x03 x04
      go_upto_region 4 with fail
      obtain ⟨v0, hv0⟩ : ∃ W, W = w4.alloc (.cells #[.int .i64 tk, .string ts, .int .i64 tn, .int .i64 0, .slice D tm (capF tm d)] 24) := ⟨_, rfl⟩
      have hb : Below w4.heap.size w4 v0 := by rw [hv0]; exact below_allocS w4 _
      have L1 : Lies v0 w4.heap.size 24 #[.int .i64 tk, .string ts, .int .i64 tn, .int .i64 0, .slice D tm (capF tm d)] := by rw [hv0]; exact Lies.new _ _ _
      obtain ⟨g1, hg1⟩ : ∃ g, g = w4.heap.size := ⟨_, rfl⟩
      rw [← hg1] at L1
      rw [← hv0, ← hg1]
      replace hIu := TIn.below _ hIu hb (Nat.le_refl _)
      replace HB0 := Lib.hid (HB0.out.trans (hb.mono HB0.out.size))
      replace L0 := L0.below hb L0.lt
      clear hb hv0 hg1
      obtain ⟨⟨x00, x01, x02, x03, x04⟩, _⟩ := L0.five
      go_wp2_with fail
      refine (HCK.out (by simp) v0 HB0.out).mono ?_
      rintro e w5 ⟨rfl, hb⟩
      replace HB0 := Lib.hid (HB0.out.trans (hb.mono HB0.out.size))
      replace L0 := L0.below hb L0.lt
      replace L1 := L1.below hb L1.lt
      replace hIu := TIn.below _ hIu hb (Nat.le_refl _)
      clear hb
      clear x00 x01 x02 x03 x04
      obtain ⟨⟨x10, x11, x12, x13, x14⟩, _⟩ := L1.five
      go_wp2_with fail
      refine (HCU.out (by simp) (by simp) w5 HB0.out D d hIu).mono ?_
      rintro e w6 ⟨rfl, hb⟩
      replace HB0 := Lib.hid (HB0.out.trans (hb.mono HB0.out.size))
      replace L0 := L0.below hb L0.lt
      replace L1 := L1.below hb L1.lt
      replace hIu := TIn.below _ hIu hb (Nat.le_refl _)
      clear hb
      clear x10 x11 x12 x13 x14
      go_upto_region 6 with fail
      have HSS : Hid (∀ V', Below w6.heap.size w6 V' → (fun V' : World => (V'.cell? ⟨g0, 0, none⟩ = some (.int .i64 tk) ∧ V'.cell? ⟨g0, 1, none⟩ = some (.string ts) ∧ V'.cell? ⟨g0, 2, none⟩ = some (.int .i64 tn) ∧ V'.cell? ⟨g0, 3, none⟩ = some (.int .i64 ta) ∧ V'.cell? ⟨g0, 4, none⟩ = some (.slice A tm tc) ∧ V'.cell? ⟨g1, 0, none⟩ = some (.int .i64 tk) ∧ V'.cell? ⟨g1, 1, none⟩ = some (.string ts) ∧ V'.cell? ⟨g1, 2, none⟩ = some (.int .i64 tn) ∧ V'.cell? ⟨g1, 3, none⟩ = some (.int .i64 0) ∧ V'.cell? ⟨g1, 4, none⟩ = some (.slice D tm (capF tm d)))) V') := Lib.hid fun V' h =>
        ⟨(h.cell (p := ⟨g0, 0, none⟩) L0.lt).trans (L0.cell 0), (h.cell (p := ⟨g0, 1, none⟩) L0.lt).trans (L0.cell 1), (h.cell (p := ⟨g0, 2, none⟩) L0.lt).trans (L0.cell 2), (h.cell (p := ⟨g0, 3, none⟩) L0.lt).trans (L0.cell 3), (h.cell (p := ⟨g0, 4, none⟩) L0.lt).trans (L0.cell 4), (h.cell (p := ⟨g1, 0, none⟩) L1.lt).trans (L1.cell 0), (h.cell (p := ⟨g1, 1, none⟩) L1.lt).trans (L1.cell 1), (h.cell (p := ⟨g1, 2, none⟩) L1.lt).trans (L1.cell 2), (h.cell (p := ⟨g1, 3, none⟩) L1.lt).trans (L1.cell 3), (h.cell (p := ⟨g1, 4, none⟩) L1.lt).trans (L1.cell 4)⟩
      have H1 : Hid (∀ X, Below w6.heap.size w6 X → Calls Tryz.prog 12 #[.agg #[.int .i64 tk, .string ts, .int .i64 tn, .int .i64 ta, .slice A tm tc]] X (fun e w' => ∃ E x, e = .returned (.slice E fn x) ∧ SIn w' Any fr E ∧ Below X.heap.size X w')) := Lib.hid fun X hX => HFT.out (by simp) X (HB0.out.trans (hX.mono HB0.out.size))
      have H2 : Hid (∀ X, Below w6.heap.size w6 X → Calls Tryz.prog 12 #[.agg #[.int .i64 tk, .string ts, .int .i64 tn, .int .i64 0, .slice D tm (capF tm d)]] X (fun e w' => ∃ E x, e = .returned (.slice E fn x) ∧ SIn w' Any fr E ∧ Below X.heap.size X w')) := Lib.hid fun X hX => HFU.out (by simp) (by simp) X (HB0.out.trans (hX.mono HB0.out.size)) D d (TIn.below _ hIu hX (Nat.le_refl _))
      have H3 : Hid (∀ X, Below w6.heap.size w6 X → Calls Tryz.prog 15 #[.agg #[.int .i64 tk, .string ts, .int .i64 tn, .int .i64 ta, .slice A tm tc]] X (fun e w' => ∃ E x, e = .returned (.slice E kn x) ∧ AIn w' Any kr E ∧ Below X.heap.size X w')) := Lib.hid fun X hX => HKT.out (by simp) X (HB0.out.trans (hX.mono HB0.out.size))
      have H4 : Hid (∀ X, Below w6.heap.size w6 X → Calls Tryz.prog 15 #[.agg #[.int .i64 tk, .string ts, .int .i64 tn, .int .i64 0, .slice D tm (capF tm d)]] X (fun e w' => ∃ E x, e = .returned (.slice E kn x) ∧ AIn w' Any kr E ∧ Below X.heap.size X w')) := Lib.hid fun X hX => HKU.out (by simp) (by simp) X (HB0.out.trans (hX.mono HB0.out.size)) D d (TIn.below _ hIu hX (Nat.le_refl _))
      have H5 : Hid (∀ X, Below w6.heap.size w6 X → ∀ (E G : Option Addr) (x y : Nat), SIn X Any fr E → SIn X Any fr G → Calls Tryz.prog 11 #[.slice E fn x, .slice G fn y] X (fun e w' => e = .returned (.bool true) ∧ Below X.heap.size X w')) := Lib.hid fun X hX E G x y h1 h2 => by
        have h := names_any fr fr E G fn fn x y X HLfn.out HLfn.out (by omega) (by omega) h1 h2
        rw [decide_eq_true (rfl : fr = fr)] at h
        exact h
      have H6 : Hid (∀ X, Below w6.heap.size w6 X → ∀ (E G : Option Addr) (x y : Nat), AIn X Any kr E → AIn X Any kr G → Calls Tryz.prog 14 #[.slice E kn x, .slice G kn y] X (fun e w' => e = .returned (.bool true) ∧ Below X.heap.size X w')) := Lib.hid fun X hX E G x y h1 h2 => by
        have h := arities_any kr kr E G kn kn x y X HLkn.out HLkn.out (by omega) (by omega) h1 h2
        rw [decide_eq_true (rfl : kr = kr)] at h
        exact h
      clear L0 L1 hIu HF HBR HCK HCU HFU HKU HFT HKT HNF HSt HMt
      have hb_1 : Below w6.heap.size w6 w6 := Below.refl _ _
      refine wp_region_held_drew (S := (fun V' : World => (V'.cell? ⟨g0, 0, none⟩ = some (.int .i64 tk) ∧ V'.cell? ⟨g0, 1, none⟩ = some (.string ts) ∧ V'.cell? ⟨g0, 2, none⟩ = some (.int .i64 tn) ∧ V'.cell? ⟨g0, 3, none⟩ = some (.int .i64 ta) ∧ V'.cell? ⟨g0, 4, none⟩ = some (.slice A tm tc) ∧ V'.cell? ⟨g1, 0, none⟩ = some (.int .i64 tk) ∧ V'.cell? ⟨g1, 1, none⟩ = some (.string ts) ∧ V'.cell? ⟨g1, 2, none⟩ = some (.int .i64 tn) ∧ V'.cell? ⟨g1, 3, none⟩ = some (.int .i64 0) ∧ V'.cell? ⟨g1, 4, none⟩ = some (.slice D tm (capF tm d))))) rfl (HSS.out _ hb_1.drew) (fun hSs => ?_)
      change wpAnyH _ _ _ _ _ 22 (Array.replicate 22 false) _ _
      refine wpAnyH_take (i := 0) (oi := ⟨some 33, _, _, _, _, _⟩) (v := .int .i64 cy) rfl (by kernel_rfl) (by kernel_rfl) (by kernel_rfl) (fun _ _ _ h => h) (.inl ⟨by kernel_rfl, fun W hW => by kernel_rfl⟩) hSs ?_
      try simp only [Act.put, List.setIfInBounds_toArray, List.set_cons_zero, List.set_cons_succ]
      refine wpAnyH_take (i := 1) (oi := ⟨some 34, _, _, _, _, _⟩) (v := .int .i64 cy) rfl (by kernel_rfl) (by kernel_rfl) (by kernel_rfl) (fun _ _ _ h => h) (.inl ⟨by kernel_rfl, fun W hW => by kernel_rfl⟩) hSs ?_
      try simp only [Act.put, List.setIfInBounds_toArray, List.set_cons_zero, List.set_cons_succ]
      refine wpAnyH_take (i := 2) (oi := ⟨some 35, _, _, _, _, _⟩) (v := .bool true) rfl (by kernel_rfl) (by kernel_rfl) (by kernel_rfl) (fun _ _ _ h => h) (.inl ⟨by kernel_rfl, fun W hW => by first | (obtain ⟨z0, z1, z2, z3, z4, z5, z6, z7, z8, z9⟩ := hW; go_simp; done) | (obtain ⟨z0, z1, z2, z3, z4, z5, z6, z7, z8, z9⟩ := hW; go_simp; omega) | (obtain ⟨z0, z1, z2, z3, z4, z5, z6, z7, z8, z9⟩ := hW; go_simp; exact IntWalk.i64_in _ (by omega)) | (obtain ⟨z0, z1, z2, z3, z4, z5, z6, z7, z8, z9⟩ := hW; go_simp; simp [*]; done)⟩) hSs ?_
      try simp only [Act.put, List.setIfInBounds_toArray, List.set_cons_zero, List.set_cons_succ]
      refine wpAnyH_take (i := 3) (oi := ⟨some 36, _, _, _, _, _⟩) (v := .bool true) rfl (by kernel_rfl) (by kernel_rfl) (by kernel_rfl) (fun _ _ _ h => h) (.inl ⟨by kernel_rfl, fun W hW => by kernel_rfl⟩) hSs ?_
      try simp only [Act.put, List.setIfInBounds_toArray, List.set_cons_zero, List.set_cons_succ]
      refine wpAnyH_take (i := 4) (oi := ⟨some 37, _, _, _, _, _⟩) (v := .int .i64 0) rfl (by kernel_rfl) (by kernel_rfl) (by kernel_rfl) (fun _ _ _ h => h) (.inl ⟨by kernel_rfl, fun W hW => by kernel_rfl⟩) hSs ?_
      try simp only [Act.put, List.setIfInBounds_toArray, List.set_cons_zero, List.set_cons_succ]
      refine wpAnyH_take (i := 5) (oi := ⟨some 38, _, _, _, _, _⟩) (v := .bool true) rfl (by kernel_rfl) (by kernel_rfl) (by kernel_rfl) (fun _ _ _ h => h) (.inl ⟨by kernel_rfl, fun W hW => by first | (obtain ⟨z0, z1, z2, z3, z4, z5, z6, z7, z8, z9⟩ := hW; go_simp; done) | (obtain ⟨z0, z1, z2, z3, z4, z5, z6, z7, z8, z9⟩ := hW; go_simp; omega) | (obtain ⟨z0, z1, z2, z3, z4, z5, z6, z7, z8, z9⟩ := hW; go_simp; exact IntWalk.i64_in _ (by omega)) | (obtain ⟨z0, z1, z2, z3, z4, z5, z6, z7, z8, z9⟩ := hW; go_simp; simp [*]; done)⟩) hSs ?_
      try simp only [Act.put, List.setIfInBounds_toArray, List.set_cons_zero, List.set_cons_succ]
      refine wpAnyH_take (i := 6) (oi := ⟨some 39, _, _, _, _, _⟩) (v := .bool true) rfl (by kernel_rfl) (by kernel_rfl) (by kernel_rfl) (fun _ _ _ h => h) (.inl ⟨by kernel_rfl, fun W hW => by kernel_rfl⟩) hSs ?_
      try simp only [Act.put, List.setIfInBounds_toArray, List.set_cons_zero, List.set_cons_succ]
      refine wpAnyH_take (i := 7) (oi := ⟨some 40, _, _, _, _, _⟩) (v := .bool true) rfl (by kernel_rfl) (by kernel_rfl) (by kernel_rfl) (fun _ _ _ h => h) (.inl ⟨by kernel_rfl, fun W hW => by kernel_rfl⟩) hSs ?_
      try simp only [Act.put, List.setIfInBounds_toArray, List.set_cons_zero, List.set_cons_succ]
      refine wpAnyH_take (i := 8) (oi := ⟨some 41, _, _, _, _, _⟩) (v := .agg #[.int .i64 tk, .string ts, .int .i64 tn, .int .i64 ta, .slice A tm tc]) rfl (by kernel_rfl) (by kernel_rfl) (by kernel_rfl) (fun _ _ _ h => h) (.inl ⟨by kernel_rfl, fun W hW => by first | (obtain ⟨z0, z1, z2, z3, z4, z5, z6, z7, z8, z9⟩ := hW; go_simp; done) | (obtain ⟨z0, z1, z2, z3, z4, z5, z6, z7, z8, z9⟩ := hW; go_simp; omega) | (obtain ⟨z0, z1, z2, z3, z4, z5, z6, z7, z8, z9⟩ := hW; go_simp; exact IntWalk.i64_in _ (by omega)) | (obtain ⟨z0, z1, z2, z3, z4, z5, z6, z7, z8, z9⟩ := hW; go_simp; simp [*]; done)⟩) hSs ?_
      try simp only [Act.put, List.setIfInBounds_toArray, List.set_cons_zero, List.set_cons_succ]
      refine wpAnyH_take (i := 10) (oi := ⟨some 43, _, _, _, _, _⟩) (v := .agg #[.int .i64 tk, .string ts, .int .i64 tn, .int .i64 0, .slice D tm (capF tm d)]) rfl (by kernel_rfl) (by kernel_rfl) (by kernel_rfl) (fun _ _ _ h => h) (.inl ⟨by kernel_rfl, fun W hW => by first | (obtain ⟨z0, z1, z2, z3, z4, z5, z6, z7, z8, z9⟩ := hW; go_simp; done) | (obtain ⟨z0, z1, z2, z3, z4, z5, z6, z7, z8, z9⟩ := hW; go_simp; omega) | (obtain ⟨z0, z1, z2, z3, z4, z5, z6, z7, z8, z9⟩ := hW; go_simp; exact IntWalk.i64_in _ (by omega)) | (obtain ⟨z0, z1, z2, z3, z4, z5, z6, z7, z8, z9⟩ := hW; go_simp; simp [*]; done)⟩) hSs ?_
      try simp only [Act.put, List.setIfInBounds_toArray, List.set_cons_zero, List.set_cons_succ]
      refine wpAnyH_ready (rs := [9]) (by kernel_rfl) (by simp) (AllReadyH.cons rfl (fun K hK => ?_) AllReadyH.nil)
      rw [if_pos (by kernel_rfl)]
      go_simp
      refine (H1.out _ (hb_1.drew)).mono ?_
      rintro e u_2 ⟨A_2, c_2, rfl, hR_2, hq_2⟩
      have hb_2 := (hb_1.drew).trans (hq_2.mono (hb_1.drew).size)
      refine hK.out _ _ (HSS.out _ hb_2) (fun hS_2 => ?_)
      clear hK K
      try simp only [Act.put, List.setIfInBounds_toArray, List.set_cons_zero, List.set_cons_succ]
      refine wpAnyH_ready (rs := [11]) (by kernel_rfl) (by simp) (AllReadyH.cons rfl (fun K hK => ?_) AllReadyH.nil)
      rw [if_pos (by kernel_rfl)]
      go_simp
      refine (H2.out _ hb_2).mono ?_
      rintro e u_3 ⟨A_3, c_3, rfl, hR_3, hq_3⟩
      have hb_3 := hb_2.trans (hq_3.mono hb_2.size)
      have hR_2_3 := hR_2.below hq_3 (Nat.le_refl _)
      clear hR_2
      refine hK.out _ _ (HSS.out _ hb_3) (fun hS_3 => ?_)
      clear hK K
      try simp only [Act.put, List.setIfInBounds_toArray, List.set_cons_zero, List.set_cons_succ]
      refine wpAnyH_ready (rs := [12]) (by kernel_rfl) (by simp) (AllReadyH.cons rfl (fun K hK => ?_) AllReadyH.nil)
      rw [if_pos (by kernel_rfl)]
      go_simp
      refine (H5.out _ hb_3 A_2 A_3 c_2 c_3 hR_2_3 hR_3).mono ?_
      rintro e u_4 ⟨rfl, hq_4⟩
      have hb_4 := hb_3.trans (hq_4.mono hb_3.size)
      have hR_2_3_4 := hR_2_3.below hq_4 (Nat.le_refl _)
      have hR_3_4 := hR_3.below hq_4 (Nat.le_refl _)
      clear hR_2_3 hR_3
      refine hK.out _ _ (HSS.out _ hb_4) (fun hS_4 => ?_)
      clear hK K
      try simp only [Act.put, List.setIfInBounds_toArray, List.set_cons_zero, List.set_cons_succ]
      refine wpAnyH_take (i := 13) (oi := ⟨some 46, _, _, _, _, _⟩) (v := .bool true) rfl (by kernel_rfl) (by kernel_rfl) (by kernel_rfl) (fun _ _ _ h => h) (.inl ⟨by kernel_rfl, fun W hW => by kernel_rfl⟩) hS_4 ?_
      try simp only [Act.put, List.setIfInBounds_toArray, List.set_cons_zero, List.set_cons_succ]
      refine wpAnyH_take (i := 14) (oi := ⟨some 47, _, _, _, _, _⟩) (v := .bool true) rfl (by kernel_rfl) (by kernel_rfl) (by kernel_rfl) (fun _ _ _ h => h) (.inl ⟨by kernel_rfl, fun W hW => by kernel_rfl⟩) hS_4 ?_
      try simp only [Act.put, List.setIfInBounds_toArray, List.set_cons_zero, List.set_cons_succ]
      refine wpAnyH_take (i := 15) (oi := ⟨some 48, _, _, _, _, _⟩) (v := .agg #[.int .i64 tk, .string ts, .int .i64 tn, .int .i64 ta, .slice A tm tc]) rfl (by kernel_rfl) (by kernel_rfl) (by kernel_rfl) (fun _ _ _ h => h) (.inl ⟨by kernel_rfl, fun W hW => by first | (obtain ⟨z0, z1, z2, z3, z4, z5, z6, z7, z8, z9⟩ := hW; go_simp; done) | (obtain ⟨z0, z1, z2, z3, z4, z5, z6, z7, z8, z9⟩ := hW; go_simp; omega) | (obtain ⟨z0, z1, z2, z3, z4, z5, z6, z7, z8, z9⟩ := hW; go_simp; exact IntWalk.i64_in _ (by omega)) | (obtain ⟨z0, z1, z2, z3, z4, z5, z6, z7, z8, z9⟩ := hW; go_simp; simp [*]; done)⟩) hS_4 ?_
      try simp only [Act.put, List.setIfInBounds_toArray, List.set_cons_zero, List.set_cons_succ]
      refine wpAnyH_take (i := 17) (oi := ⟨some 50, _, _, _, _, _⟩) (v := .agg #[.int .i64 tk, .string ts, .int .i64 tn, .int .i64 0, .slice D tm (capF tm d)]) rfl (by kernel_rfl) (by kernel_rfl) (by kernel_rfl) (fun _ _ _ h => h) (.inl ⟨by kernel_rfl, fun W hW => by first | (obtain ⟨z0, z1, z2, z3, z4, z5, z6, z7, z8, z9⟩ := hW; go_simp; done) | (obtain ⟨z0, z1, z2, z3, z4, z5, z6, z7, z8, z9⟩ := hW; go_simp; omega) | (obtain ⟨z0, z1, z2, z3, z4, z5, z6, z7, z8, z9⟩ := hW; go_simp; exact IntWalk.i64_in _ (by omega)) | (obtain ⟨z0, z1, z2, z3, z4, z5, z6, z7, z8, z9⟩ := hW; go_simp; simp [*]; done)⟩) hS_4 ?_
      try simp only [Act.put, List.setIfInBounds_toArray, List.set_cons_zero, List.set_cons_succ]
      refine wpAnyH_ready (rs := [16]) (by kernel_rfl) (by simp) (AllReadyH.cons rfl (fun K hK => ?_) AllReadyH.nil)
      rw [if_pos (by kernel_rfl)]
      go_simp
      refine (H3.out _ hb_4).mono ?_
      rintro e u_5 ⟨A_5, c_5, rfl, hR_5, hq_5⟩
      have hb_5 := hb_4.trans (hq_5.mono hb_4.size)
      have hR_2_3_4_5 := hR_2_3_4.below hq_5 (Nat.le_refl _)
      have hR_3_4_5 := hR_3_4.below hq_5 (Nat.le_refl _)
      clear hR_2_3_4 hR_3_4
      refine hK.out _ _ (HSS.out _ hb_5) (fun hS_5 => ?_)
      clear hK K
      try simp only [Act.put, List.setIfInBounds_toArray, List.set_cons_zero, List.set_cons_succ]
      refine wpAnyH_ready (rs := [18]) (by kernel_rfl) (by simp) (AllReadyH.cons rfl (fun K hK => ?_) AllReadyH.nil)
      rw [if_pos (by kernel_rfl)]
      go_simp
      refine (H4.out _ hb_5).mono ?_
      rintro e u_6 ⟨A_6, c_6, rfl, hR_6, hq_6⟩
      have hb_6 := hb_5.trans (hq_6.mono hb_5.size)
      have hR_2_3_4_5_6 := hR_2_3_4_5.below hq_6 (Nat.le_refl _)
      have hR_3_4_5_6 := hR_3_4_5.below hq_6 (Nat.le_refl _)
      have hR_5_6 := hR_5.below hq_6 (Nat.le_refl _)
      clear hR_2_3_4_5 hR_3_4_5 hR_5
      refine hK.out _ _ (HSS.out _ hb_6) (fun hS_6 => ?_)
      clear hK K
      try simp only [Act.put, List.setIfInBounds_toArray, List.set_cons_zero, List.set_cons_succ]
      refine wpAnyH_ready (rs := [19]) (by kernel_rfl) (by simp) (AllReadyH.cons rfl (fun K hK => ?_) AllReadyH.nil)
      rw [if_pos (by kernel_rfl)]
      go_simp
      refine (H6.out _ hb_6 A_5 A_6 c_5 c_6 hR_5_6 hR_6).mono ?_
      rintro e u_7 ⟨rfl, hq_7⟩
      have hb_7 := hb_6.trans (hq_7.mono hb_6.size)
      have hR_2_3_4_5_6_7 := hR_2_3_4_5_6.below hq_7 (Nat.le_refl _)
      have hR_3_4_5_6_7 := hR_3_4_5_6.below hq_7 (Nat.le_refl _)
      have hR_5_6_7 := hR_5_6.below hq_7 (Nat.le_refl _)
      have hR_6_7 := hR_6.below hq_7 (Nat.le_refl _)
      clear hR_2_3_4_5_6 hR_3_4_5_6 hR_5_6 hR_6
      refine hK.out _ _ (HSS.out _ hb_7) (fun hS_7 => ?_)
      clear hK K
      try simp only [Act.put, List.setIfInBounds_toArray, List.set_cons_zero, List.set_cons_succ]
      refine wpAnyH_take (i := 20) (oi := ⟨some 53, _, _, _, _, _⟩) (v := .bool true) rfl (by kernel_rfl) (by kernel_rfl) (by kernel_rfl) (fun _ _ _ h => h) (.inl ⟨by kernel_rfl, fun W hW => by kernel_rfl⟩) hS_7 ?_
      try simp only [Act.put, List.setIfInBounds_toArray, List.set_cons_zero, List.set_cons_succ]
      refine wpAnyH_take (i := 21) (oi := ⟨some 2, _, _, _, _, _⟩) (v := .bool true) rfl (by kernel_rfl) (by kernel_rfl) (by kernel_rfl) (fun _ _ _ h => h) (.inl ⟨by kernel_rfl, fun W hW => by kernel_rfl⟩) hS_7 ?_
      try simp only [Act.put, List.setIfInBounds_toArray, List.set_cons_zero, List.set_cons_succ]
      refine wpAnyH_done (by kernel_rfl) ?_ _
      go_wp2_with fail
      go_ret
      exact ⟨rfl, HB0.out.trans (hb_7.mono HB0.out.size)⟩
end Lx
end Go.Proofs.YtobdoahdjbmflaaGreatDoor
