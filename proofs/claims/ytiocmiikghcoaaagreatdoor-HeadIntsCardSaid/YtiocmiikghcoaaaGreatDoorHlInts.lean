/-
  The law HeadInts, walked.
-/
import Derived.BigQuiet
import Derived.Deep.Cut
import Derived.Deep.QuietTactic
import Derived.Test.YtiocmiikghcoaaaGreatDoorC18
namespace Go.Proofs.YtiocmiikghcoaaaGreatDoor
open Go.RowKit
namespace Lx
set_option maxRecDepth 100000
def opT (s : ByteArray) (a b : Int) : Te := .node 8 0 s [numE a, numE b]
theorem may_opT {s : ByteArray} {a b : Int} (h : opV s.data.toList = true) : mayQ (opT s a b) 0 false = true := by
 have ha := may_num (Int.le_refl 0) a
 have hb := may_num (Int.le_refl 0) b
 rw [opT, mayQ]
 simp [headR, mayQL, moreE, ha, hb, dupAt] at *
 exact h
theorem size_opT (s : ByteArray) (a b : Int) : sizeE (opT s a b) ≤ 3 := by simp [opT, numE, sizeE, sizeEL]
theorem opT_step {s : ByteArray} {a b : Int} (h : opV s.data.toList = true) (hz : ¬ (s = ⟨#[47]⟩ ∧ b = 0)) : stepV (opT s a b) = (opE s a b, 3) := by
 rw [stepV_closed (may_opT h), stepE_act (t := opT s a b) rfl]
 show reckonE s (numE a) (numE b) = _
 rw [reckonE]
 exact if_pos ⟨rfl, rfl, hz⟩
theorem opT_fail {a b : Int} (hz : b = 0) : stepV (opT ⟨#[47]⟩ a b) = (failE, 4) := by
 rw [stepV_closed (may_opT (by kernel_rfl)), stepE_act (t := opT ⟨#[47]⟩ a b) rfl]
 show reckonE ⟨#[47]⟩ (numE a) (numE b) = _
 rw [reckonE]
 exact if_neg (fun h => h.2.2 ⟨rfl, hz⟩)
theorem op_0 (a b : Int) : opE ⟨#[43]⟩ a b = .node 7 (wrap64 (a + b)) ⟨#[]⟩ [] := by rw [opE, if_pos rfl, numE, wrapI_64]
theorem op_1 (a b : Int) : opE ⟨#[45]⟩ a b = .node 7 (wrap64 (a - b)) ⟨#[]⟩ [] := by rw [opE, if_neg (by decide), if_pos rfl, numE, wrapI_64]
theorem op_2 (a b : Int) : opE ⟨#[42]⟩ a b = .node 7 (wrap64 (a * b)) ⟨#[]⟩ [] := by rw [opE, if_neg (by decide), if_neg (by decide), if_pos rfl, numE, wrapI_64]
theorem op_5 (a b : Int) : opE ⟨#[47]⟩ a b = .node 7 (wrap64 (a.tdiv b)) ⟨#[]⟩ [] := by rw [opE, if_neg (by decide), if_neg (by decide), if_neg (by decide), if_pos rfl, numE, wrapI_64]
theorem op_3 (a b : Int) : opE ⟨#[60]⟩ a b = truthE (decide (a < b)) := by rw [opE, if_neg (by decide), if_neg (by decide), if_neg (by decide), if_neg (by decide), if_pos rfl]
theorem op_4 (a b : Int) : opE ⟨#[61, 61]⟩ a b = truthE (decide (a = b)) := by rw [opE, if_neg (by decide), if_neg (by decide), if_neg (by decide), if_neg (by decide), if_neg (by decide)]
theorem tdv (a b : Int) : ∃ r, a.tdiv b * b + r = a ∧ (0 ≤ a → 0 ≤ r ∧ r ≤ a) ∧ (a ≤ 0 → r ≤ 0 ∧ a ≤ r) ∧ (0 < b → 0 ≤ a → r < b) := by
 have h := Int.tmod_add_mul_tdiv a b
 refine ⟨a.tmod b, by rw [Int.mul_comm]; omega, fun ha => ?_, fun ha => ?_, fun hb ha => Int.tmod_lt_of_pos a hb⟩
 ·have h1 := Int.tmod_nonneg b ha
  have h2 : 0 ≤ b * a.tdiv b := by
   by_cases hb : 0 ≤ b
   ·exact Int.mul_nonneg hb (Int.tdiv_nonneg ha hb)
   ·have h3 : 0 ≤ a.tdiv (-b) := Int.tdiv_nonneg ha (by omega)
    rw [Int.tdiv_neg] at h3
    have := Int.mul_nonneg (show 0 ≤ -b by omega) h3
    rw [Int.neg_mul_neg] at this
    exact this
  omega
 ·have ha' : 0 ≤ -a := by omega
  have h1 := Int.tmod_nonneg b ha'
  rw [Int.neg_tmod] at h1
  have h2 : 0 ≤ b * (-a).tdiv b := by
   by_cases hb : 0 ≤ b
   ·exact Int.mul_nonneg hb (Int.tdiv_nonneg ha' hb)
   ·have h3 : 0 ≤ (-a).tdiv (-b) := Int.tdiv_nonneg ha' (by omega)
    rw [Int.tdiv_neg] at h3
    have := Int.mul_nonneg (show 0 ≤ -b by omega) h3
    rw [Int.neg_mul_neg] at this
    exact this
  rw [Int.neg_tdiv, Int.mul_neg] at h2
  omega
theorem tdv_le (a b : Int) (hb : b ≠ 0) : -(a.natAbs : Int) ≤ a.tdiv b ∧ a.tdiv b ≤ (a.natAbs : Int) := by
 have h : (a.tdiv b).natAbs ≤ a.natAbs := by
  rw [Int.natAbs_tdiv]
  exact Nat.div_le_self _ _
 omega
/-- What the quotient is, turned round: the facts that HeadInts asks. -/
structure Quo (a b q m p : Int) : Prop where
 hq : wrap64 (a.tdiv b) = q
 hm : wrap64 (q * b) = m
 hp : wrap64 (m + b) = p
 h0 : 0 ≤ a → ¬ a < m
 h1 : 0 ≤ a → 0 < b → b < 1073741824 → a < 1152921504606846976 → ¬ p ≤ a
 h2 : b = -1 → wrap64 (-a) = q
theorem quo_is {a b : Int} (hb : b ≠ 0) (ha0 : -9223372036854775808 ≤ a) (ha1 : a ≤ 9223372036854775807) (hb0 : -9223372036854775808 ≤ b) (hb1 : b ≤ 9223372036854775807) : ∃ q m p, Quo a b q m p := by
 refine ⟨_, _, _, ⟨rfl, rfl, rfl, fun h => ?_, fun h h1 h2 h3 => ?_, fun h => ?_⟩⟩
 ·obtain ⟨r, e, hr, _, _⟩ := tdv a b
  have hl := tdv_le a b hb
  have e1 : wrap64 (a.tdiv b) = a.tdiv b := by unfold wrap64; omega
  have := hr h
  have e2 : wrap64 (a.tdiv b * b) = a.tdiv b * b := by
   generalize a.tdiv b * b = x at *
   unfold wrap64; omega
  rw [e1, e2]
  omega
 ·obtain ⟨r, e, hr, _, hrb⟩ := tdv a b
  have hl := tdv_le a b hb
  have e1 : wrap64 (a.tdiv b) = a.tdiv b := by unfold wrap64; omega
  have := hr h
  have := hrb h1 h
  have e2 : wrap64 (a.tdiv b * b) = a.tdiv b * b := by
   generalize a.tdiv b * b = x at *
   unfold wrap64; omega
  rw [e1, e2]
  have e3 : wrap64 (a.tdiv b * b + b) = a.tdiv b * b + b := by
   generalize a.tdiv b * b = x at *
   unfold wrap64; omega
  rw [e3]
  omega
 ·subst h
  rw [Int.tdiv_neg, Int.tdiv_one]
theorem two_new (V : World) (T : TypeId) (o1 o2 : Array Value) : ∃ Z, Z = ((V.alloc (.cells o1 T)).alloc (.cells o2 T)) ∧ Below V.heap.size V Z ∧ Lies Z V.heap.size T o1 ∧ Lies Z (V.heap.size + 1) T o2 := ⟨_, rfl, below2_new _ _, Lies.old (Lies.new _ _ _) _, lies_next _ _ _ _ (by simp)⟩
theorem one_new (V : World) (T : TypeId) (o : Array Value) : ∃ Z, Z = (V.alloc (.cells o T)) ∧ Below V.heap.size V Z ∧ Lies Z V.heap.size T o := ⟨_, rfl, (Below.refl _ _).alloc (Nat.le_refl _) _, Lies.new _ _ _⟩
set_option maxHeartbeats 16000000 in
theorem ints9_any (a b : Int) (w : World) (hg : Signs w) (hA : -9223372036854775808 ≤ a ∧ a ≤ 9223372036854775807) (hB : -9223372036854775808 ≤ b ∧ b ≤ 9223372036854775807) :
  Calls Tryz.prog 8 #[.int .i64 a, .int .i64 b] w fun e w' => e = .returned (.bool true) ∧ Below w.heap.size w w' := by
 have HSG := Lib.hid hg
 obtain ⟨ha0, ha1⟩ := hA
 obtain ⟨hb0, hb1⟩ := hB
 clear hg
 go_enter Tryz.func8, Tryz.ntmps8
 obtain ⟨W0, hW0⟩ : ∃ Z, Z = w := ⟨_, rfl⟩
 clear hW0
 have HFX := Lib.hid (fixed9_any w HSG.out)
 go_wp2_with fail
 refine HFX.out.mono ?_
 rintro e w2 ⟨rfl, hb2⟩
 clear HFX
 go_upto_region 5 with fail
 have l1 : Lies ((w2.alloc (.cells #[.string ⟨#[43]⟩, .string ⟨#[45]⟩, .string ⟨#[42]⟩, .string ⟨#[60]⟩, .string ⟨#[61, 61]⟩, .string ⟨#[47]⟩] 9)).alloc (.cells #[.int .i64 (wrap64 (a + b)), .int .i64 (wrap64 (a - b)), .int .i64 (wrap64 (a * b)), .int .i64 0, .int .i64 0, .int .i64 0] 3)) w2.heap.size 9 #[.string ⟨#[43]⟩, .string ⟨#[45]⟩, .string ⟨#[42]⟩, .string ⟨#[60]⟩, .string ⟨#[61, 61]⟩, .string ⟨#[47]⟩] := (Lies.new _ _ _).old _
 have l2 : Lies ((w2.alloc (.cells #[.string ⟨#[43]⟩, .string ⟨#[45]⟩, .string ⟨#[42]⟩, .string ⟨#[60]⟩, .string ⟨#[61, 61]⟩, .string ⟨#[47]⟩] 9)).alloc (.cells #[.int .i64 (wrap64 (a + b)), .int .i64 (wrap64 (a - b)), .int .i64 (wrap64 (a * b)), .int .i64 0, .int .i64 0, .int .i64 0] 3)) (w2.heap.size + 1) 3 #[.int .i64 (wrap64 (a + b)), .int .i64 (wrap64 (a - b)), .int .i64 (wrap64 (a * b)), .int .i64 0, .int .i64 0, .int .i64 0] := lies_next _ _ _ _ (by simp)
 have hbw : Below w.heap.size w ((w2.alloc (.cells #[.string ⟨#[43]⟩, .string ⟨#[45]⟩, .string ⟨#[42]⟩, .string ⟨#[60]⟩, .string ⟨#[61, 61]⟩, .string ⟨#[47]⟩] 9)).alloc (.cells #[.int .i64 (wrap64 (a + b)), .int .i64 (wrap64 (a - b)), .int .i64 (wrap64 (a * b)), .int .i64 0, .int .i64 0, .int .i64 0] 3)) := hb2.trans ((below2_new _ _).mono hb2.size)
 obtain ⟨q1, hq⟩ : ∃ q, q = w2.heap.size + 1 := ⟨_, rfl⟩
 rw [← hq] at l2
 rw [← hq]
 clear hq
 obtain ⟨q0, hq⟩ : ∃ q, q = w2.heap.size := ⟨_, rfl⟩
 rw [← hq] at l1
 rw [← hq]
 clear hq hb2
 generalize (w2.alloc (.cells #[.string ⟨#[43]⟩, .string ⟨#[45]⟩, .string ⟨#[42]⟩, .string ⟨#[60]⟩, .string ⟨#[61, 61]⟩, .string ⟨#[47]⟩] 9)).alloc (.cells #[.int .i64 (wrap64 (a + b)), .int .i64 (wrap64 (a - b)), .int .i64 (wrap64 (a * b)), .int .i64 0, .int .i64 0, .int .i64 0] 3) = V2 at *
 go_wp2_with fail
 go_loopw [7] (fun v wr => ∃ i : Nat, i ≤ 6 ∧ v = .int .i64 (i : Int) ∧ Lies wr q0 9 #[.string ⟨#[43]⟩, .string ⟨#[45]⟩, .string ⟨#[42]⟩, .string ⟨#[60]⟩, .string ⟨#[61, 61]⟩, .string ⟨#[47]⟩] ∧ Lies wr q1 3 #[.int .i64 (wrap64 (a + b)), .int .i64 (wrap64 (a - b)), .int .i64 (wrap64 (a * b)), .int .i64 0, .int .i64 0, .int .i64 0] ∧ Below w.heap.size w wr) (fun v _ => 6 - (intOf v).toNat)
 case atStart => exact ⟨0, by omega, rfl, l1, l2, hbw⟩
 case round =>
  clear l1 l2 hbw
  obtain ⟨i, hi, rfl, l1, l2, hbw⟩ := hrel
  rcases (by omega : i = 0 ∨ i = 1 ∨ i = 2 ∨ i = 3 ∨ i = 4 ∨ i = 5 ∨ i = 6) with rfl | rfl | rfl | rfl | rfl | rfl | rfl
  ·have hop : opV (⟨#[43]⟩ : ByteArray).data.toList = true := by kernel_rfl
   have hmo := may_opT (a := a) (b := b) hop
   have hst : stepV (opT ⟨#[43]⟩ a b) = ((.node 7 (wrap64 (a + b)) ⟨#[]⟩ []), 3) := by rw [opT_step hop (fun h => absurd h.1 (by decide)), op_0]
   have HC := Lib.hid (fun W A c (h : EIn W Any (opT ⟨#[43]⟩ a b) A) (g : Signs W) => stepV_any 0 (opT ⟨#[43]⟩ a b) A c W h g (fine_may hmo (by have := size_opT ⟨#[43]⟩ a b; omega)) (fun _ => ⟨hmo, step_fine2 hmo (by have := size_opT ⟨#[43]⟩ a b; omega)⟩))
   rw [hst] at HC
   clear hst hmo hop
   have d1 := l1.cell 0
   simp at d1
   go_upto_region 9 with fail
   obtain ⟨Z, hZ, hbV, lt, lb⟩ := two_new wr 24 #[.int .i64 7, .int .i64 a, .string ⟨#[]⟩, .slice none 0 0, .int .i64 7, .int .i64 b, .string ⟨#[]⟩, .slice none 0 0] #[.int .i64 8, .int .i64 0, .string ⟨#[43]⟩, .slice (some ⟨wr.heap.size, 0, none⟩) 2 2]
   rw [← hZ]
   clear hZ
   replace l1 := l1.below hbV l1.lt
   replace l2 := l2.below hbV l2.lt
   replace hbw := hbw.trans (hbV.mono hbw.size)
   have hE : EIn Z Any (opT ⟨#[43]⟩ a b) (some ⟨wr.heap.size, 0, none⟩) := ein_mk (by decide) (by decide) (by decide) (by simp) (ein_lies2 (c := 0) (d := 0) (t := numE a) (u := numE b) lt trivial (ein_mk (by decide) ha0 ha1 (by simp) (by rw [ELIn]; trivial)) (ein_mk (by decide) hb0 hb1 (by simp) (by rw [ELIn]; trivial)))
   have HC2 := Lib.hid (HC.out _ _ 2 hE (HSG.out.below hbw HSG.out.pos))
   simp only [ev, opT, Te.kind, Te.n, Te.name, Te.parts, List.length_cons, List.length_nil] at HC2
   clear lt hbV hE HC d1
   obtain ⟨⟨x0, x1, x2, x3⟩, _⟩ := lb.four
   go_wp2_with fail
   refine HC2.out.mono ?_
   rintro e w9 ⟨Ax, cx, rfl, _, hb9⟩
   simp only [ev, Te.kind, Te.n, Te.name, Te.parts, List.length_nil]
   obtain ⟨V, hV, hbV, lx⟩ := one_new w9 24 #[.int .i64 7, .int .i64 (wrap64 (a + b)), .string ⟨#[]⟩, .slice Ax 0 (capF 0 cx)]
   replace hbV := hb9.trans (hbV.mono hb9.size)
   replace l1 := l1.below hbV l1.lt
   replace l2 := l2.below hbV l2.lt
   replace hbw := hbw.trans (hbV.mono hbw.size)
   clear x0 x1 x2 x3 HC2 hb9 hbV lb
   go_upto_region 10 with fail
   rw [← hV]
   clear hV
   obtain ⟨b9, hb9⟩ : ∃ q, q = w9.heap.size := ⟨_, rfl⟩
   rw [← hb9] at lx
   rw [← hb9]
   clear hb9
   obtain ⟨⟨x0, x1, x2, x3⟩, _⟩ := lx.four
   have d1 := l1.cell 0
   have d2 := l2.cell 0
   simp at d1 d2
   have HB := Lib.hid hbw
   have L1 := Lib.hid l1
   have L2 := Lib.hid l2
   clear hbw l1 l2
   go_upto_if 14 with fail
   go_region
   go_wp2_with fail
   go_roundw
   case rel => exact ⟨1, by omega, by go_num, L1.out.drew, L2.out.drew, HB.out.drew⟩
   case measure => simp [intOf]
  ·have hop : opV (⟨#[45]⟩ : ByteArray).data.toList = true := by kernel_rfl
   have hmo := may_opT (a := a) (b := b) hop
   have hst : stepV (opT ⟨#[45]⟩ a b) = ((.node 7 (wrap64 (a - b)) ⟨#[]⟩ []), 3) := by rw [opT_step hop (fun h => absurd h.1 (by decide)), op_1]
   have HC := Lib.hid (fun W A c (h : EIn W Any (opT ⟨#[45]⟩ a b) A) (g : Signs W) => stepV_any 0 (opT ⟨#[45]⟩ a b) A c W h g (fine_may hmo (by have := size_opT ⟨#[45]⟩ a b; omega)) (fun _ => ⟨hmo, step_fine2 hmo (by have := size_opT ⟨#[45]⟩ a b; omega)⟩))
   rw [hst] at HC
   clear hst hmo hop
   have d1 := l1.cell 1
   simp at d1
   go_upto_region 9 with fail
   obtain ⟨Z, hZ, hbV, lt, lb⟩ := two_new wr 24 #[.int .i64 7, .int .i64 a, .string ⟨#[]⟩, .slice none 0 0, .int .i64 7, .int .i64 b, .string ⟨#[]⟩, .slice none 0 0] #[.int .i64 8, .int .i64 0, .string ⟨#[45]⟩, .slice (some ⟨wr.heap.size, 0, none⟩) 2 2]
   rw [← hZ]
   clear hZ
   replace l1 := l1.below hbV l1.lt
   replace l2 := l2.below hbV l2.lt
   replace hbw := hbw.trans (hbV.mono hbw.size)
   have hE : EIn Z Any (opT ⟨#[45]⟩ a b) (some ⟨wr.heap.size, 0, none⟩) := ein_mk (by decide) (by decide) (by decide) (by simp) (ein_lies2 (c := 0) (d := 0) (t := numE a) (u := numE b) lt trivial (ein_mk (by decide) ha0 ha1 (by simp) (by rw [ELIn]; trivial)) (ein_mk (by decide) hb0 hb1 (by simp) (by rw [ELIn]; trivial)))
   have HC2 := Lib.hid (HC.out _ _ 2 hE (HSG.out.below hbw HSG.out.pos))
   simp only [ev, opT, Te.kind, Te.n, Te.name, Te.parts, List.length_cons, List.length_nil] at HC2
   clear lt hbV hE HC d1
   obtain ⟨⟨x0, x1, x2, x3⟩, _⟩ := lb.four
   go_wp2_with fail
   refine HC2.out.mono ?_
   rintro e w9 ⟨Ax, cx, rfl, _, hb9⟩
   simp only [ev, Te.kind, Te.n, Te.name, Te.parts, List.length_nil]
   obtain ⟨V, hV, hbV, lx⟩ := one_new w9 24 #[.int .i64 7, .int .i64 (wrap64 (a - b)), .string ⟨#[]⟩, .slice Ax 0 (capF 0 cx)]
   replace hbV := hb9.trans (hbV.mono hb9.size)
   replace l1 := l1.below hbV l1.lt
   replace l2 := l2.below hbV l2.lt
   replace hbw := hbw.trans (hbV.mono hbw.size)
   clear x0 x1 x2 x3 HC2 hb9 hbV lb
   go_upto_region 10 with fail
   rw [← hV]
   clear hV
   obtain ⟨b9, hb9⟩ : ∃ q, q = w9.heap.size := ⟨_, rfl⟩
   rw [← hb9] at lx
   rw [← hb9]
   clear hb9
   obtain ⟨⟨x0, x1, x2, x3⟩, _⟩ := lx.four
   have d1 := l1.cell 1
   have d2 := l2.cell 1
   simp at d1 d2
   have HB := Lib.hid hbw
   have L1 := Lib.hid l1
   have L2 := Lib.hid l2
   clear hbw l1 l2
   go_upto_if 14 with fail
   go_region
   go_wp2_with fail
   go_roundw
   case rel => exact ⟨2, by omega, by go_num, L1.out.drew, L2.out.drew, HB.out.drew⟩
   case measure => simp [intOf]
  ·have hop : opV (⟨#[42]⟩ : ByteArray).data.toList = true := by kernel_rfl
   have hmo := may_opT (a := a) (b := b) hop
   have hst : stepV (opT ⟨#[42]⟩ a b) = ((.node 7 (wrap64 (a * b)) ⟨#[]⟩ []), 3) := by rw [opT_step hop (fun h => absurd h.1 (by decide)), op_2]
   have HC := Lib.hid (fun W A c (h : EIn W Any (opT ⟨#[42]⟩ a b) A) (g : Signs W) => stepV_any 0 (opT ⟨#[42]⟩ a b) A c W h g (fine_may hmo (by have := size_opT ⟨#[42]⟩ a b; omega)) (fun _ => ⟨hmo, step_fine2 hmo (by have := size_opT ⟨#[42]⟩ a b; omega)⟩))
   rw [hst] at HC
   clear hst hmo hop
   have d1 := l1.cell 2
   simp at d1
   go_upto_region 9 with fail
   obtain ⟨Z, hZ, hbV, lt, lb⟩ := two_new wr 24 #[.int .i64 7, .int .i64 a, .string ⟨#[]⟩, .slice none 0 0, .int .i64 7, .int .i64 b, .string ⟨#[]⟩, .slice none 0 0] #[.int .i64 8, .int .i64 0, .string ⟨#[42]⟩, .slice (some ⟨wr.heap.size, 0, none⟩) 2 2]
   rw [← hZ]
   clear hZ
   replace l1 := l1.below hbV l1.lt
   replace l2 := l2.below hbV l2.lt
   replace hbw := hbw.trans (hbV.mono hbw.size)
   have hE : EIn Z Any (opT ⟨#[42]⟩ a b) (some ⟨wr.heap.size, 0, none⟩) := ein_mk (by decide) (by decide) (by decide) (by simp) (ein_lies2 (c := 0) (d := 0) (t := numE a) (u := numE b) lt trivial (ein_mk (by decide) ha0 ha1 (by simp) (by rw [ELIn]; trivial)) (ein_mk (by decide) hb0 hb1 (by simp) (by rw [ELIn]; trivial)))
   have HC2 := Lib.hid (HC.out _ _ 2 hE (HSG.out.below hbw HSG.out.pos))
   simp only [ev, opT, Te.kind, Te.n, Te.name, Te.parts, List.length_cons, List.length_nil] at HC2
   clear lt hbV hE HC d1
   obtain ⟨⟨x0, x1, x2, x3⟩, _⟩ := lb.four
   go_wp2_with fail
   refine HC2.out.mono ?_
   rintro e w9 ⟨Ax, cx, rfl, _, hb9⟩
   simp only [ev, Te.kind, Te.n, Te.name, Te.parts, List.length_nil]
   obtain ⟨V, hV, hbV, lx⟩ := one_new w9 24 #[.int .i64 7, .int .i64 (wrap64 (a * b)), .string ⟨#[]⟩, .slice Ax 0 (capF 0 cx)]
   replace hbV := hb9.trans (hbV.mono hb9.size)
   replace l1 := l1.below hbV l1.lt
   replace l2 := l2.below hbV l2.lt
   replace hbw := hbw.trans (hbV.mono hbw.size)
   clear x0 x1 x2 x3 HC2 hb9 hbV lb
   go_upto_region 10 with fail
   rw [← hV]
   clear hV
   obtain ⟨b9, hb9⟩ : ∃ q, q = w9.heap.size := ⟨_, rfl⟩
   rw [← hb9] at lx
   rw [← hb9]
   clear hb9
   obtain ⟨⟨x0, x1, x2, x3⟩, _⟩ := lx.four
   have d1 := l1.cell 2
   have d2 := l2.cell 2
   simp at d1 d2
   have HB := Lib.hid hbw
   have L1 := Lib.hid l1
   have L2 := Lib.hid l2
   clear hbw l1 l2
   go_upto_if 14 with fail
   go_region
   go_wp2_with fail
   go_roundw
   case rel => exact ⟨3, by omega, by go_num, L1.out.drew, L2.out.drew, HB.out.drew⟩
   case measure => simp [intOf]
  ·by_cases hab : a < b
   ·have hd1 : decide (a < b) = true := by simp [hab]
    have hd2 : (decide (a < b)) = true := by simp [hab]
    have HAB := Lib.hid hab
    clear hab
    have hop : opV (⟨#[60]⟩ : ByteArray).data.toList = true := by kernel_rfl
    have hmo := may_opT (a := a) (b := b) hop
    have hst : stepV (opT ⟨#[60]⟩ a b) = ((.node 4 0 ⟨#[84, 114, 117, 101]⟩ []), 3) := by rw [opT_step hop (fun h => absurd h.1 (by decide)), op_3, show decide (a < b) = true from hd1]; rfl
    have HC := Lib.hid (fun W A c (h : EIn W Any (opT ⟨#[60]⟩ a b) A) (g : Signs W) => stepV_any 0 (opT ⟨#[60]⟩ a b) A c W h g (fine_may hmo (by have := size_opT ⟨#[60]⟩ a b; omega)) (fun _ => ⟨hmo, step_fine2 hmo (by have := size_opT ⟨#[60]⟩ a b; omega)⟩))
    rw [hst] at HC
    clear hst hmo hop
    have d1 := l1.cell 3
    simp at d1
    go_upto_region 9 with fail
    obtain ⟨Z, hZ, hbV, lt, lb⟩ := two_new wr 24 #[.int .i64 7, .int .i64 a, .string ⟨#[]⟩, .slice none 0 0, .int .i64 7, .int .i64 b, .string ⟨#[]⟩, .slice none 0 0] #[.int .i64 8, .int .i64 0, .string ⟨#[60]⟩, .slice (some ⟨wr.heap.size, 0, none⟩) 2 2]
    rw [← hZ]
    clear hZ
    replace l1 := l1.below hbV l1.lt
    replace l2 := l2.below hbV l2.lt
    replace hbw := hbw.trans (hbV.mono hbw.size)
    have hE : EIn Z Any (opT ⟨#[60]⟩ a b) (some ⟨wr.heap.size, 0, none⟩) := ein_mk (by decide) (by decide) (by decide) (by simp) (ein_lies2 (c := 0) (d := 0) (t := numE a) (u := numE b) lt trivial (ein_mk (by decide) ha0 ha1 (by simp) (by rw [ELIn]; trivial)) (ein_mk (by decide) hb0 hb1 (by simp) (by rw [ELIn]; trivial)))
    have HC2 := Lib.hid (HC.out _ _ 2 hE (HSG.out.below hbw HSG.out.pos))
    simp only [ev, opT, Te.kind, Te.n, Te.name, Te.parts, List.length_cons, List.length_nil] at HC2
    clear lt hbV hE HC d1
    obtain ⟨⟨x0, x1, x2, x3⟩, _⟩ := lb.four
    go_wp2_with fail
    refine HC2.out.mono ?_
    rintro e w9 ⟨Ax, cx, rfl, _, hb9⟩
    simp only [ev, Te.kind, Te.n, Te.name, Te.parts, List.length_nil]
    obtain ⟨V, hV, hbV, lx⟩ := one_new w9 24 #[.int .i64 4, .int .i64 0, .string ⟨#[84, 114, 117, 101]⟩, .slice Ax 0 (capF 0 cx)]
    replace hbV := hb9.trans (hbV.mono hb9.size)
    replace l1 := l1.below hbV l1.lt
    replace l2 := l2.below hbV l2.lt
    replace hbw := hbw.trans (hbV.mono hbw.size)
    clear x0 x1 x2 x3 HC2 hb9 hbV lb
    go_upto_region 10 with fail
    rw [← hV]
    clear hV
    obtain ⟨b9, hb9⟩ : ∃ q, q = w9.heap.size := ⟨_, rfl⟩
    rw [← hb9] at lx
    rw [← hb9]
    clear hb9
    obtain ⟨⟨x0, x1, x2, x3⟩, _⟩ := lx.four
    have d1 := l1.cell 3
    have d2 := l2.cell 3
    simp at d1 d2
    have HB := Lib.hid hbw
    have L1 := Lib.hid l1
    have L2 := Lib.hid l2
    clear hbw l1 l2
    go_upto_if 14 with fail
    go_region
    go_wp2_with fail
    go_roundw
    case rel => exact ⟨4, by omega, by go_num, L1.out.drew, L2.out.drew, HB.out.drew⟩
    case measure => simp [intOf]
   ·have hd1 : decide (a < b) = false := by simp [hab]
    have hd2 : (decide (a < b)) = false := by simp [hab]
    have HAB := Lib.hid hab
    clear hab
    have hop : opV (⟨#[60]⟩ : ByteArray).data.toList = true := by kernel_rfl
    have hmo := may_opT (a := a) (b := b) hop
    have hst : stepV (opT ⟨#[60]⟩ a b) = ((.node 4 0 ⟨#[70, 97, 108, 115, 101]⟩ []), 3) := by rw [opT_step hop (fun h => absurd h.1 (by decide)), op_3, show decide (a < b) = false from hd1]; rfl
    have HC := Lib.hid (fun W A c (h : EIn W Any (opT ⟨#[60]⟩ a b) A) (g : Signs W) => stepV_any 0 (opT ⟨#[60]⟩ a b) A c W h g (fine_may hmo (by have := size_opT ⟨#[60]⟩ a b; omega)) (fun _ => ⟨hmo, step_fine2 hmo (by have := size_opT ⟨#[60]⟩ a b; omega)⟩))
    rw [hst] at HC
    clear hst hmo hop
    have d1 := l1.cell 3
    simp at d1
    go_upto_region 9 with fail
    obtain ⟨Z, hZ, hbV, lt, lb⟩ := two_new wr 24 #[.int .i64 7, .int .i64 a, .string ⟨#[]⟩, .slice none 0 0, .int .i64 7, .int .i64 b, .string ⟨#[]⟩, .slice none 0 0] #[.int .i64 8, .int .i64 0, .string ⟨#[60]⟩, .slice (some ⟨wr.heap.size, 0, none⟩) 2 2]
    rw [← hZ]
    clear hZ
    replace l1 := l1.below hbV l1.lt
    replace l2 := l2.below hbV l2.lt
    replace hbw := hbw.trans (hbV.mono hbw.size)
    have hE : EIn Z Any (opT ⟨#[60]⟩ a b) (some ⟨wr.heap.size, 0, none⟩) := ein_mk (by decide) (by decide) (by decide) (by simp) (ein_lies2 (c := 0) (d := 0) (t := numE a) (u := numE b) lt trivial (ein_mk (by decide) ha0 ha1 (by simp) (by rw [ELIn]; trivial)) (ein_mk (by decide) hb0 hb1 (by simp) (by rw [ELIn]; trivial)))
    have HC2 := Lib.hid (HC.out _ _ 2 hE (HSG.out.below hbw HSG.out.pos))
    simp only [ev, opT, Te.kind, Te.n, Te.name, Te.parts, List.length_cons, List.length_nil] at HC2
    clear lt hbV hE HC d1
    obtain ⟨⟨x0, x1, x2, x3⟩, _⟩ := lb.four
    go_wp2_with fail
    refine HC2.out.mono ?_
    rintro e w9 ⟨Ax, cx, rfl, _, hb9⟩
    simp only [ev, Te.kind, Te.n, Te.name, Te.parts, List.length_nil]
    obtain ⟨V, hV, hbV, lx⟩ := one_new w9 24 #[.int .i64 4, .int .i64 0, .string ⟨#[70, 97, 108, 115, 101]⟩, .slice Ax 0 (capF 0 cx)]
    replace hbV := hb9.trans (hbV.mono hb9.size)
    replace l1 := l1.below hbV l1.lt
    replace l2 := l2.below hbV l2.lt
    replace hbw := hbw.trans (hbV.mono hbw.size)
    clear x0 x1 x2 x3 HC2 hb9 hbV lb
    go_upto_region 10 with fail
    rw [← hV]
    clear hV
    obtain ⟨b9, hb9⟩ : ∃ q, q = w9.heap.size := ⟨_, rfl⟩
    rw [← hb9] at lx
    rw [← hb9]
    clear hb9
    obtain ⟨⟨x0, x1, x2, x3⟩, _⟩ := lx.four
    have d1 := l1.cell 3
    have d2 := l2.cell 3
    simp at d1 d2
    have HB := Lib.hid hbw
    have L1 := Lib.hid l1
    have L2 := Lib.hid l2
    clear hbw l1 l2
    go_upto_if 14 with fail
    go_region
    go_wp2_with fail
    go_roundw
    case rel => exact ⟨4, by omega, by go_num, L1.out.drew, L2.out.drew, HB.out.drew⟩
    case measure => simp [intOf]
  ·by_cases hab : a = b
   ·have hd1 : decide (a = b) = true := by simp [hab]
    have hd2 : (a == b) = true := by simp [hab]
    have HAB := Lib.hid hab
    clear hab
    have hop : opV (⟨#[61, 61]⟩ : ByteArray).data.toList = true := by kernel_rfl
    have hmo := may_opT (a := a) (b := b) hop
    have hst : stepV (opT ⟨#[61, 61]⟩ a b) = ((.node 4 0 ⟨#[84, 114, 117, 101]⟩ []), 3) := by rw [opT_step hop (fun h => absurd h.1 (by decide)), op_4, show decide (a = b) = true from hd1]; rfl
    have HC := Lib.hid (fun W A c (h : EIn W Any (opT ⟨#[61, 61]⟩ a b) A) (g : Signs W) => stepV_any 0 (opT ⟨#[61, 61]⟩ a b) A c W h g (fine_may hmo (by have := size_opT ⟨#[61, 61]⟩ a b; omega)) (fun _ => ⟨hmo, step_fine2 hmo (by have := size_opT ⟨#[61, 61]⟩ a b; omega)⟩))
    rw [hst] at HC
    clear hst hmo hop
    have d1 := l1.cell 4
    simp at d1
    go_upto_region 9 with fail
    obtain ⟨Z, hZ, hbV, lt, lb⟩ := two_new wr 24 #[.int .i64 7, .int .i64 a, .string ⟨#[]⟩, .slice none 0 0, .int .i64 7, .int .i64 b, .string ⟨#[]⟩, .slice none 0 0] #[.int .i64 8, .int .i64 0, .string ⟨#[61, 61]⟩, .slice (some ⟨wr.heap.size, 0, none⟩) 2 2]
    rw [← hZ]
    clear hZ
    replace l1 := l1.below hbV l1.lt
    replace l2 := l2.below hbV l2.lt
    replace hbw := hbw.trans (hbV.mono hbw.size)
    have hE : EIn Z Any (opT ⟨#[61, 61]⟩ a b) (some ⟨wr.heap.size, 0, none⟩) := ein_mk (by decide) (by decide) (by decide) (by simp) (ein_lies2 (c := 0) (d := 0) (t := numE a) (u := numE b) lt trivial (ein_mk (by decide) ha0 ha1 (by simp) (by rw [ELIn]; trivial)) (ein_mk (by decide) hb0 hb1 (by simp) (by rw [ELIn]; trivial)))
    have HC2 := Lib.hid (HC.out _ _ 2 hE (HSG.out.below hbw HSG.out.pos))
    simp only [ev, opT, Te.kind, Te.n, Te.name, Te.parts, List.length_cons, List.length_nil] at HC2
    clear lt hbV hE HC d1
    obtain ⟨⟨x0, x1, x2, x3⟩, _⟩ := lb.four
    go_wp2_with fail
    refine HC2.out.mono ?_
    rintro e w9 ⟨Ax, cx, rfl, _, hb9⟩
    simp only [ev, Te.kind, Te.n, Te.name, Te.parts, List.length_nil]
    obtain ⟨V, hV, hbV, lx⟩ := one_new w9 24 #[.int .i64 4, .int .i64 0, .string ⟨#[84, 114, 117, 101]⟩, .slice Ax 0 (capF 0 cx)]
    replace hbV := hb9.trans (hbV.mono hb9.size)
    replace l1 := l1.below hbV l1.lt
    replace l2 := l2.below hbV l2.lt
    replace hbw := hbw.trans (hbV.mono hbw.size)
    clear x0 x1 x2 x3 HC2 hb9 hbV lb
    go_upto_region 10 with fail
    rw [← hV]
    clear hV
    obtain ⟨b9, hb9⟩ : ∃ q, q = w9.heap.size := ⟨_, rfl⟩
    rw [← hb9] at lx
    rw [← hb9]
    clear hb9
    obtain ⟨⟨x0, x1, x2, x3⟩, _⟩ := lx.four
    have d1 := l1.cell 4
    have d2 := l2.cell 4
    simp at d1 d2
    have HB := Lib.hid hbw
    have L1 := Lib.hid l1
    have L2 := Lib.hid l2
    clear hbw l1 l2
    go_upto_if 14 with fail
    go_region
    go_wp2_with fail
    go_roundw
    case rel => exact ⟨5, by omega, by go_num, L1.out.drew, L2.out.drew, HB.out.drew⟩
    case measure => simp [intOf]
   ·have hd1 : decide (a = b) = false := by simp [hab]
    have hd2 : (a == b) = false := by simp [hab]
    have HAB := Lib.hid hab
    clear hab
    have hop : opV (⟨#[61, 61]⟩ : ByteArray).data.toList = true := by kernel_rfl
    have hmo := may_opT (a := a) (b := b) hop
    have hst : stepV (opT ⟨#[61, 61]⟩ a b) = ((.node 4 0 ⟨#[70, 97, 108, 115, 101]⟩ []), 3) := by rw [opT_step hop (fun h => absurd h.1 (by decide)), op_4, show decide (a = b) = false from hd1]; rfl
    have HC := Lib.hid (fun W A c (h : EIn W Any (opT ⟨#[61, 61]⟩ a b) A) (g : Signs W) => stepV_any 0 (opT ⟨#[61, 61]⟩ a b) A c W h g (fine_may hmo (by have := size_opT ⟨#[61, 61]⟩ a b; omega)) (fun _ => ⟨hmo, step_fine2 hmo (by have := size_opT ⟨#[61, 61]⟩ a b; omega)⟩))
    rw [hst] at HC
    clear hst hmo hop
    have d1 := l1.cell 4
    simp at d1
    go_upto_region 9 with fail
    obtain ⟨Z, hZ, hbV, lt, lb⟩ := two_new wr 24 #[.int .i64 7, .int .i64 a, .string ⟨#[]⟩, .slice none 0 0, .int .i64 7, .int .i64 b, .string ⟨#[]⟩, .slice none 0 0] #[.int .i64 8, .int .i64 0, .string ⟨#[61, 61]⟩, .slice (some ⟨wr.heap.size, 0, none⟩) 2 2]
    rw [← hZ]
    clear hZ
    replace l1 := l1.below hbV l1.lt
    replace l2 := l2.below hbV l2.lt
    replace hbw := hbw.trans (hbV.mono hbw.size)
    have hE : EIn Z Any (opT ⟨#[61, 61]⟩ a b) (some ⟨wr.heap.size, 0, none⟩) := ein_mk (by decide) (by decide) (by decide) (by simp) (ein_lies2 (c := 0) (d := 0) (t := numE a) (u := numE b) lt trivial (ein_mk (by decide) ha0 ha1 (by simp) (by rw [ELIn]; trivial)) (ein_mk (by decide) hb0 hb1 (by simp) (by rw [ELIn]; trivial)))
    have HC2 := Lib.hid (HC.out _ _ 2 hE (HSG.out.below hbw HSG.out.pos))
    simp only [ev, opT, Te.kind, Te.n, Te.name, Te.parts, List.length_cons, List.length_nil] at HC2
    clear lt hbV hE HC d1
    obtain ⟨⟨x0, x1, x2, x3⟩, _⟩ := lb.four
    go_wp2_with fail
    refine HC2.out.mono ?_
    rintro e w9 ⟨Ax, cx, rfl, _, hb9⟩
    simp only [ev, Te.kind, Te.n, Te.name, Te.parts, List.length_nil]
    obtain ⟨V, hV, hbV, lx⟩ := one_new w9 24 #[.int .i64 4, .int .i64 0, .string ⟨#[70, 97, 108, 115, 101]⟩, .slice Ax 0 (capF 0 cx)]
    replace hbV := hb9.trans (hbV.mono hb9.size)
    replace l1 := l1.below hbV l1.lt
    replace l2 := l2.below hbV l2.lt
    replace hbw := hbw.trans (hbV.mono hbw.size)
    clear x0 x1 x2 x3 HC2 hb9 hbV lb
    go_upto_region 10 with fail
    rw [← hV]
    clear hV
    obtain ⟨b9, hb9⟩ : ∃ q, q = w9.heap.size := ⟨_, rfl⟩
    rw [← hb9] at lx
    rw [← hb9]
    clear hb9
    obtain ⟨⟨x0, x1, x2, x3⟩, _⟩ := lx.four
    have d1 := l1.cell 4
    have d2 := l2.cell 4
    simp at d1 d2
    have HB := Lib.hid hbw
    have L1 := Lib.hid l1
    have L2 := Lib.hid l2
    clear hbw l1 l2
    go_upto_if 14 with fail
    go_region
    go_wp2_with fail
    go_roundw
    case rel => exact ⟨5, by omega, by go_num, L1.out.drew, L2.out.drew, HB.out.drew⟩
    case measure => simp [intOf]
  ·by_cases hb : b = 0
   ·have HB0 := Lib.hid hb
    clear hb
    have hop : opV (⟨#[47]⟩ : ByteArray).data.toList = true := by kernel_rfl
    have hmo := may_opT (a := a) (b := b) hop
    have hst : stepV (opT ⟨#[47]⟩ a b) = (failE, 4) := opT_fail HB0.out
    have HC := Lib.hid (fun W A c (h : EIn W Any (opT ⟨#[47]⟩ a b) A) (g : Signs W) => stepV_any 0 (opT ⟨#[47]⟩ a b) A c W h g (fine_may hmo (by have := size_opT ⟨#[47]⟩ a b; omega)) (fun _ => ⟨hmo, step_fine2 hmo (by have := size_opT ⟨#[47]⟩ a b; omega)⟩))
    rw [hst] at HC
    clear hst hmo hop
    have d1 := l1.cell 5
    simp at d1
    go_upto_region 9 with fail
    obtain ⟨Z, hZ, hbV, lt, lb⟩ := two_new wr 24 #[.int .i64 7, .int .i64 a, .string ⟨#[]⟩, .slice none 0 0, .int .i64 7, .int .i64 b, .string ⟨#[]⟩, .slice none 0 0] #[.int .i64 8, .int .i64 0, .string ⟨#[47]⟩, .slice (some ⟨wr.heap.size, 0, none⟩) 2 2]
    rw [← hZ]
    clear hZ
    replace l1 := l1.below hbV l1.lt
    replace l2 := l2.below hbV l2.lt
    replace hbw := hbw.trans (hbV.mono hbw.size)
    have hE : EIn Z Any (opT ⟨#[47]⟩ a b) (some ⟨wr.heap.size, 0, none⟩) := ein_mk (by decide) (by decide) (by decide) (by simp) (ein_lies2 (c := 0) (d := 0) (t := numE a) (u := numE b) lt trivial (ein_mk (by decide) ha0 ha1 (by simp) (by rw [ELIn]; trivial)) (ein_mk (by decide) hb0 hb1 (by simp) (by rw [ELIn]; trivial)))
    have HC2 := Lib.hid (HC.out _ _ 2 hE (HSG.out.below hbw HSG.out.pos))
    simp only [ev, opT, Te.kind, Te.n, Te.name, Te.parts, List.length_cons, List.length_nil] at HC2
    clear lt hbV hE HC d1
    obtain ⟨⟨x0, x1, x2, x3⟩, _⟩ := lb.four
    go_wp2_with fail
    refine HC2.out.mono ?_
    rintro e w9 ⟨Ax, cx, rfl, _, hb9⟩
    simp only [ev, failE, Te.kind, Te.n, Te.name, Te.parts, List.length_nil]
    obtain ⟨V, hV, hbV, lx⟩ := one_new w9 24 #[.int .i64 9, .int .i64 0, .string ⟨#[]⟩, .slice Ax 0 (capF 0 cx)]
    replace hbV := hb9.trans (hbV.mono hb9.size)
    replace l1 := l1.below hbV l1.lt
    replace l2 := l2.below hbV l2.lt
    replace hbw := hbw.trans (hbV.mono hbw.size)
    clear x0 x1 x2 x3 HC2 hb9 hbV lb
    go_upto_region 10 with fail
    rw [← hV]
    clear hV
    obtain ⟨b9, hb9⟩ : ∃ q, q = w9.heap.size := ⟨_, rfl⟩
    rw [← hb9] at lx
    rw [← hb9]
    clear hb9
    obtain ⟨⟨x0, x1, x2, x3⟩, _⟩ := lx.four
    have d1 := l1.cell 5
    have d2 := l2.cell 5
    simp at d1 d2
    have HB := Lib.hid hbw
    have hz1 : (b == 0) = true := by simp [HB0.out]
    have hz2 : decide (b = 0) = true := by simp [HB0.out]
    clear hbw
    go_wp2_with fail
    go_ret
    exact ⟨rfl, HB.out⟩
   ·obtain ⟨q, m, p, hQ⟩ := quo_is hb ha0 ha1 hb0 hb1
    have HQ := Lib.hid hQ
    clear hQ
    have hop : opV (⟨#[47]⟩ : ByteArray).data.toList = true := by kernel_rfl
    have hmo := may_opT (a := a) (b := b) hop
    have hst : stepV (opT ⟨#[47]⟩ a b) = ((.node 7 q ⟨#[]⟩ []), 3) := by rw [opT_step hop (fun h => hb h.2), op_5, HQ.out.hq]
    have HC := Lib.hid (fun W A c (h : EIn W Any (opT ⟨#[47]⟩ a b) A) (g : Signs W) => stepV_any 0 (opT ⟨#[47]⟩ a b) A c W h g (fine_may hmo (by have := size_opT ⟨#[47]⟩ a b; omega)) (fun _ => ⟨hmo, step_fine2 hmo (by have := size_opT ⟨#[47]⟩ a b; omega)⟩))
    rw [hst] at HC
    clear hst hmo hop
    have d1 := l1.cell 5
    simp at d1
    go_upto_region 9 with fail
    obtain ⟨Z, hZ, hbV, lt, lb⟩ := two_new wr 24 #[.int .i64 7, .int .i64 a, .string ⟨#[]⟩, .slice none 0 0, .int .i64 7, .int .i64 b, .string ⟨#[]⟩, .slice none 0 0] #[.int .i64 8, .int .i64 0, .string ⟨#[47]⟩, .slice (some ⟨wr.heap.size, 0, none⟩) 2 2]
    rw [← hZ]
    clear hZ
    replace l1 := l1.below hbV l1.lt
    replace l2 := l2.below hbV l2.lt
    replace hbw := hbw.trans (hbV.mono hbw.size)
    have hE : EIn Z Any (opT ⟨#[47]⟩ a b) (some ⟨wr.heap.size, 0, none⟩) := ein_mk (by decide) (by decide) (by decide) (by simp) (ein_lies2 (c := 0) (d := 0) (t := numE a) (u := numE b) lt trivial (ein_mk (by decide) ha0 ha1 (by simp) (by rw [ELIn]; trivial)) (ein_mk (by decide) hb0 hb1 (by simp) (by rw [ELIn]; trivial)))
    have HC2 := Lib.hid (HC.out _ _ 2 hE (HSG.out.below hbw HSG.out.pos))
    simp only [ev, opT, Te.kind, Te.n, Te.name, Te.parts, List.length_cons, List.length_nil] at HC2
    clear lt hbV hE HC d1
    obtain ⟨⟨x0, x1, x2, x3⟩, _⟩ := lb.four
    go_wp2_with fail
    refine HC2.out.mono ?_
    rintro e w9 ⟨Ax, cx, rfl, _, hb9⟩
    simp only [ev, Te.kind, Te.n, Te.name, Te.parts, List.length_nil]
    obtain ⟨V, hV, hbV, lx⟩ := one_new w9 24 #[.int .i64 7, .int .i64 q, .string ⟨#[]⟩, .slice Ax 0 (capF 0 cx)]
    replace hbV := hb9.trans (hbV.mono hb9.size)
    replace l1 := l1.below hbV l1.lt
    replace l2 := l2.below hbV l2.lt
    replace hbw := hbw.trans (hbV.mono hbw.size)
    clear x0 x1 x2 x3 HC2 hb9 hbV lb
    go_upto_region 10 with fail
    rw [← hV]
    clear hV
    obtain ⟨b9, hb9⟩ : ∃ q, q = w9.heap.size := ⟨_, rfl⟩
    rw [← hb9] at lx
    rw [← hb9]
    clear hb9
    obtain ⟨⟨x0, x1, x2, x3⟩, _⟩ := lx.four
    have d1 := l1.cell 5
    have d2 := l2.cell 5
    simp at d1 d2
    have HB := Lib.hid hbw
    have L1 := Lib.hid l1
    have L2 := Lib.hid l2
    clear hbw l1 l2
    go_upto_if 14 with fail
    go_region
    have f0 := HQ.out.h0
    have f1 := HQ.out.h1
    have hm := HQ.out.hm
    have hp := HQ.out.hp
    by_cases h7 : b = -1
    ·have hn := HQ.out.h2 h7
     have h8 : (b == -1) = true := by simp [h7]
     have h9 : decide (b = -1) = true := by simp [h7]
     have H7 := Lib.hid h7
     clear h7 hb
     go_wp2_with fail
     all_goals first
      | (go_roundw; (case rel => exact ⟨6, by omega, by go_num, L1.out.drew, L2.out.drew, HB.out.drew⟩); (case measure => simp [intOf]); done)
      | (exfalso; omega)
      | (have h10 := H7.out; exfalso; omega)
      | (exfalso; have h11 : -a = q := (by rw [← hn]; unfold wrap64; omega); have h12 := ‹(q != -a) = true›; rw [h11] at h12; simp at h12)
    ·go_wp2_with fail
     all_goals first
      | (go_roundw; (case rel => exact ⟨6, by omega, by go_num, L1.out.drew, L2.out.drew, HB.out.drew⟩); (case measure => simp [intOf]); done)
      | (exfalso; omega)
  ·have HB := Lib.hid hbw
   clear l1 l2 hbw
   go_wp2_with fail
   go_ret
   exact ⟨rfl, HB.out⟩
end Lx
end Go.Proofs.YtiocmiikghcoaaaGreatDoor
