/-
  The law HeadRuns, walked.
-/
import Derived.Test.YtiocmiikghcoaaaGreatDoorR9
import Derived.Test.YtiocmiikghcoaaaGreatDoorC18
import Derived.Test.YtiocmiikghcoaaaGreatDoorHx
import Derived.Deep.Cut
namespace Go.Proofs.YtiocmiikghcoaaaGreatDoor
open Go.RowKit
namespace Lx
set_option maxRecDepth 100000
set_option maxHeartbeats 16000000 in
theorem runs9_any (t : Te) (A0 : Option Addr) (c0 : Nat) (y : Int) (w : World) (hg : Signs w) (hI : EIn w Any t A0) (_ : -9223372036854775808 ≤ y ∧ y ≤ 9223372036854775807) :
  Calls Tryz.prog 4 #[ev t A0 c0, .int .i64 y] w fun e w' => e = .returned (.bool true) ∧ Below w.heap.size w w' := by
 obtain ⟨tk, tn, tz, tl⟩ := t
 show Calls Tryz.prog 4 #[.agg #[.int .i64 tk, .int .i64 tn, .string tz, .slice A0 tl.length (capF tl.length c0)], .int .i64 y] w _
 have HX0 := Lib.hid (Bx9.new (c := c0) hI (Below.refl _ w) rfl)
 have HSG := Lib.hid hg
 clear hI hg
 go_enter Tryz.func4, Tryz.ntmps4
 have HFX := Lib.hid (fixed9_any (w.alloc (.cells #[.int .i64 tk, .int .i64 tn, .string tz, .slice A0 tl.length (capF tl.length c0)] 24)) (HSG.out.below HX0.out.bw HSG.out.pos))
 go_wp2_with fail
 refine HFX.out.mono ?_
 rintro e w2 ⟨rfl, hb2⟩
 clear HFX
 replace HX0 := Lib.hid (HX0.out.step hb2)
 clear hb2
 obtain ⟨d0, d1, d2, d3⟩ := HX0.out.four
 have HG := Lib.hid (HX0.out.small 200 (by omega) (by omega))
 cases hv : decide (0 ≤ fewE (.node tk tn tz tl) 200 600)
 ·rw [hv] at HG
  clear hv
  go_wp2_with fail
  refine HG.out.mono ?_
  rintro e w3 ⟨rfl, hb3⟩
  clear HG d0 d1 d2 d3
  replace HX0 := Lib.hid (HX0.out.step hb3)
  clear hb3
  have HFX := Lib.hid (fixed9_any w3 (HSG.out.below HX0.out.bw HSG.out.pos))
  go_wp2_with fail
  refine HFX.out.mono ?_
  rintro e w4 ⟨rfl, hb4⟩
  have hbw := HX0.out.bw.trans (hb4.mono HX0.out.bw.size)
  go_wp2_with fail
  go_ret
  exact ⟨rfl, hbw⟩
 ·rw [hv] at HG
  have hm0 := small9 hv (by omega)
  clear hv
  go_wp2_with fail
  refine HG.out.mono ?_
  rintro e w3 ⟨rfl, hb3⟩
  clear HG d0 d1 d2 d3
  replace HX0 := Lib.hid (HX0.out.step hb3)
  clear hb3
  obtain ⟨d0, d1, d2, d3⟩ := HX0.out.four
  obtain ⟨dd, hdd⟩ : ∃ d : Int, d = (depthE (.node tk tn tz tl) : Int) := ⟨_, rfl⟩
  have HG := Lib.hid (HX0.out.depth (by omega))
  rw [← hdd] at HG
  have hdd0 : 0 ≤ dd := by omega
  by_cases hc : 300 < dd
  ·clear hdd
   go_wp2_with fail
   refine HG.out.mono ?_
   rintro e w5 ⟨rfl, hb5⟩
   clear HG d0 d1 d2 d3
   replace HX0 := Lib.hid (HX0.out.step hb5)
   clear hb5
   have HFX := Lib.hid (fixed9_any w5 (HSG.out.below HX0.out.bw HSG.out.pos))
   go_wp2_with fail
   refine HFX.out.mono ?_
   rintro e w6 ⟨rfl, hb6⟩
   have hbw := HX0.out.bw.trans (hb6.mono HX0.out.bw.size)
   go_wp2_with fail
   go_ret
   exact ⟨rfl, hbw⟩
  ·have HDD := Lib.hid hdd
   clear hdd
   go_wp2_with fail
   refine HG.out.mono ?_
   rintro e w5 ⟨rfl, hb5⟩
   clear HG d0 d1 d2 d3
   replace HX0 := Lib.hid (HX0.out.step hb5)
   clear hb5
   obtain ⟨d0, d1, d2, d3⟩ := HX0.out.four
   have HG := Lib.hid (HX0.out.may 0 (by omega) (by omega) (by omega))
   cases hv : mayQ (.node tk tn tz tl) 0 false
   ·rw [hv] at HG
    clear hv
    go_wp2_with fail
    refine HG.out.mono ?_
    rintro e w7 ⟨rfl, hb7⟩
    clear HG d0 d1 d2 d3
    replace HX0 := Lib.hid (HX0.out.step hb7)
    clear hb7
    have HFX := Lib.hid (fixed9_any w7 (HSG.out.below HX0.out.bw HSG.out.pos))
    go_wp2_with fail
    refine HFX.out.mono ?_
    rintro e w8 ⟨rfl, hb8⟩
    have hbw := HX0.out.bw.trans (hb8.mono HX0.out.bw.size)
    go_wp2_with fail
    go_ret
    exact ⟨rfl, hbw⟩
   ·rw [hv] at HG
    have hmq := hv
    clear hv
    go_wp2_with fail
    refine HG.out.mono ?_
    rintro e w7 ⟨rfl, hb7⟩
    clear HG d0 d1 d2 d3
    replace HX0 := Lib.hid (HX0.out.step hb7)
    clear hb7
    by_cases hc : y < 0
    ·have HFX := Lib.hid (fixed9_any w7 (HSG.out.below HX0.out.bw HSG.out.pos))
     go_wp2_with fail
     refine HFX.out.mono ?_
     rintro e w9 ⟨rfl, hb9⟩
     have hbw := HX0.out.bw.trans (hb9.mono HX0.out.bw.size)
     go_wp2_with fail
     go_ret
     exact ⟨rfl, hbw⟩
    ·have hy0 : 0 ≤ y := by omega
     by_cases hc : 60 < y
     ·have HFX := Lib.hid (fixed9_any w7 (HSG.out.below HX0.out.bw HSG.out.pos))
      go_wp2_with fail
      refine HFX.out.mono ?_
      rintro e w10 ⟨rfl, hb10⟩
      have hbw := HX0.out.bw.trans (hb10.mono HX0.out.bw.size)
      go_wp2_with fail
      go_ret
      exact ⟨rfl, hbw⟩
     ·have hy1 : y ≤ 60 := by omega
      have hf := fine_may hmq (by omega)
      obtain ⟨C, rfl⟩ : ∃ C : Nat, y = (C : Int) := ⟨y.toNat, by omega⟩
      have e1 : runV (.node tk tn tz tl) 60 = runE 60 0 (.node tk tn tz tl) := by rw [runV, if_pos ⟨by omega, by omega, hmq⟩]; rfl
      have HR1 := Lib.hid (run_any (.node tk tn tz tl) A0 c0 60 w7 HX0.out.tin (HSG.out.below HX0.out.bw HSG.out.pos) hf)
      rw [e1] at HR1
      have hc1 := runE_ends 60 0 (.node tk tn tz tl)
      have hri := fun (i : Nat) (h : i < (runE 60 0 (.node tk tn tz tl)).2.1) => run_within hmq h
      have hmi := fun i => iterE_may i (.node tk tn tz tl) 0 hmq
      have hat := runE_at 60 0 (.node tk tn tz tl)
      obtain ⟨R1, hR1⟩ : ∃ R, R = runE 60 0 (.node tk tn tz tl) := ⟨_, rfl⟩
      rw [← hR1] at hc1 HR1 hri hat
      obtain ⟨⟨ak, an, az, al⟩, n1, x1⟩ := R1
      have HR0 := Lib.hid hR1.symm
      have HC1 := Lib.hid hc1
      have HRI : Hid (∀ i, i < n1 → mayQ (iterE i (.node tk tn tz tl)) 0 false = true ∧ sizeE (iterE i (.node tk tn tz tl)) ≤ 5000 ∧ (stepE (iterE i (.node tk tn tz tl))).2 ≠ 0 ∧ (stepE (iterE i (.node tk tn tz tl))).1 = iterE (i + 1) (.node tk tn tz tl)) := Lib.hid hri
      have HMI := Lib.hid hmi
      have HAT : Hid (x1 = 0 → valK ak = true ∧ (.node ak an az al) = iterE n1 (.node tk tn tz tl)) := Lib.hid fun h => by have := hat h; exact ⟨this.1, this.2⟩
      have HSZ : Hid (sizeE (.node tk tn tz tl) ≤ 200) := Lib.hid (by omega)
      clear hR1 hc1 hri hmi hat e1 hf hmq hm0
      obtain ⟨e00, e01, e02, e03⟩ := HX0.out.four
      simp only [ev, Te.kind, Te.n, Te.name, Te.parts] at HR1
      go_wp2_with fail
      refine HR1.out.mono ?_
      rintro e w11 ⟨Aa, ca, rfl, hTa0, hb11⟩
      have hTa : EIn w11 Any (.node ak an az al) Aa := EIn.keep _ hTa0 fun _ _ _ _ => ⟨rfl, trivial⟩
      simp only [ev, Te.kind, Te.n, Te.name, Te.parts]
      replace HX0 := Lib.hid (HX0.out.step hb11)
      clear e00 e01 e02 e03 HR1 hTa0
      go_upto_region 4 with fail
      have HX1 : Hid (Bx9 w (w11.alloc (.cells #[.int .i64 ak, .int .i64 an, .string az, .slice Aa al.length (capF al.length ca)] 24)) w11.heap.size ak an az al Aa ca) := Lib.hid ⟨Lies.new _ _ _, EIn.below _ hTa ((Below.refl _ w11).alloc (Nat.le_refl _) _) (Nat.le_refl _), HX0.out.bw.alloc HX0.out.bw.size _⟩
      replace HX0 := Lib.hid (HX0.out.old (.cells #[.int .i64 ak, .int .i64 an, .string az, .slice Aa al.length (capF al.length ca)] 24))
      clear hTa hb11
      obtain ⟨V1, hV⟩ : ∃ Z, Z = (w11.alloc (.cells #[.int .i64 ak, .int .i64 an, .string az, .slice Aa al.length (capF al.length ca)] 24)) := ⟨_, rfl⟩
      obtain ⟨g1, hg1⟩ : ∃ g, g = w11.heap.size := ⟨_, rfl⟩
      rw [← hV, ← hg1] at HX1
      rw [← hV] at HX0
      rw [← hV, ← hg1]
      clear hV hg1
      obtain ⟨e00, e01, e02, e03⟩ := HX0.out.four
      go_upto_region 5 with fail
      clear e00 e01 e02 e03
      have lx0 : Lies (V1.alloc (.cells #[.int .i64 tk, .int .i64 tn, .string tz, .slice A0 tl.length (capF tl.length c0)] 24)) V1.heap.size 24 #[.int .i64 tk, .int .i64 tn, .string tz, .slice A0 tl.length (capF tl.length c0)] := Lies.new _ _ _
      have hg1q : g1 ≠ V1.heap.size := by have := HX1.out.box.lt; omega
      have hwq : w.heap.size ≤ V1.heap.size := HX0.out.bw.size
      have lA0 := HX1.out.box.old (.cells #[.int .i64 tk, .int .i64 tn, .string tz, .slice A0 tl.length (capF tl.length c0)] 24)
      have hX0 : EIn (V1.alloc (.cells #[.int .i64 tk, .int .i64 tn, .string tz, .slice A0 tl.length (capF tl.length c0)] 24)) (fun g => g ≠ V1.heap.size) (.node tk tn tz tl) A0 := EIn.keep _ HX0.out.tin fun b j _ hlt => ⟨World.cell?_alloc_lt _ _ ⟨b, j, none⟩ hlt, by show b ≠ _; omega⟩
      have hA0 : EIn (V1.alloc (.cells #[.int .i64 tk, .int .i64 tn, .string tz, .slice A0 tl.length (capF tl.length c0)] 24)) (fun g => g ≠ V1.heap.size) (.node ak an az al) Aa := EIn.keep _ HX1.out.tin fun b j _ hlt => ⟨World.cell?_alloc_lt _ _ ⟨b, j, none⟩ hlt, by show b ≠ _; omega⟩
      have hb0 := HX0.out.bw.alloc HX0.out.bw.size (.cells #[.int .i64 tk, .int .i64 tn, .string tz, .slice A0 tl.length (capF tl.length c0)] 24)
      obtain ⟨q4, hq4⟩ : ∃ q, q = V1.heap.size := ⟨_, rfl⟩
      rw [← hq4] at lx0 hg1q hwq hX0 hA0
      rw [← hq4]
      clear hq4 HX0 HX1
      generalize V1.alloc (.cells #[.int .i64 tk, .int .i64 tn, .string tz, .slice A0 tl.length (capF tl.length c0)] 24) = V2 at *
      go_wp2_with fail
      go_loopw [9] (fun v wr => ∃ (i : Nat) (X : Te) (Ax : Option Addr) (cx : Nat), v = .int .i64 (i : Int) ∧ i ≤ C ∧ i ≤ n1 ∧ Hid (X = iterE i (.node tk tn tz tl)) ∧ Lies wr q4 24 #[.int .i64 X.kind, .int .i64 X.n, .string X.name, .slice Ax X.parts.length (capF X.parts.length cx)] ∧ EIn wr (fun g => g ≠ q4) X Ax ∧ Lies wr g1 24 #[.int .i64 ak, .int .i64 an, .string az, .slice Aa al.length (capF al.length ca)] ∧ EIn wr (fun g => g ≠ q4) (.node ak an az al) Aa ∧ Below w.heap.size w wr) (fun v _ => C - (intOf v).toNat)
      case atStart => exact ⟨0, (.node tk tn tz tl), A0, c0, rfl, Nat.zero_le _, Nat.zero_le _, Lib.hid rfl, lx0, hX0, lA0, hA0, hb0⟩
      case round =>
       clear lx0 hX0 lA0 hA0 hb0
       obtain ⟨i, X, Ax, cx, rfl, hiC, hin, HX, lx, hX, lA, hA, hbw⟩ := hrel
       obtain ⟨xk, xn, xz, xl⟩ := X
       simp only [Te.kind, Te.n, Te.name, Te.parts] at lx
       by_cases hgo : i < C ∧ i < n1
       ·have hri := HRI.out i hgo.2
        have hmy := HMI.out (i + 1)
        rw [← HX.out] at hri
        rw [← hri.2.2.2] at hmy
        have HIX := Lib.hid hri.2.2.2
        have hq0 : (i : Int) < (C : Int) := by omega
        have hq1 : (i : Int) < (n1 : Int) := by omega
        have HC0 := Lib.hid (stepV_any 0 (.node xk xn xz xl) Ax cx wr (EIn.keep _ hX fun _ _ _ _ => ⟨rfl, trivial⟩) (HSG.out.below hbw HSG.out.pos) (fine_may hri.1 hri.2.1) (fun _ => ⟨hri.1, step_fine2 hri.1 hri.2.1⟩))
        rw [stepV_closed hri.1] at HC0
        have hfy := step_fine2 hri.1 hri.2.1
        have hwh := hri.2.2.1
        clear hri
        obtain ⟨XW, hXW⟩ : ∃ Z, Z = stepE (.node xk xn xz xl) := ⟨_, rfl⟩
        rw [← hXW] at HC0 HIX hmy hfy hwh
        clear hXW
        obtain ⟨⟨yk, yn, yz, yl⟩, wh⟩ := XW
        have HMY := Lib.hid hmy
        have HFY := Lib.hid hfy
        have hwh : ¬ wh = 0 := hwh
        clear hmy hfy HX
        simp only [ev, Te.kind, Te.n, Te.name, Te.parts] at HC0
        obtain ⟨⟨d0, d1, d2, d3⟩, _⟩ := lx.four
        have hqr := lx.lt
        go_wp2_with fail
        refine HC0.out.mono ?_
        rintro e w9 ⟨Ay, cy, rfl, hTy0, hb9⟩
        have hTy : EIn w9 (fun g => g ≠ q4) (.node yk yn yz yl) Ay := EIn.keep _ hTy0 fun b _ hb _ => ⟨rfl, by show b ≠ q4; have : wr.heap.size ≤ b := hb; omega⟩
        simp only [ev, Te.kind, Te.n, Te.name, Te.parts]
        have lx2 := (lx.below hb9 lx.lt).old (.cells #[.int .i64 yk, .int .i64 yn, .string yz, .slice Ay yl.length (capF yl.length cy)] 24)
        have lA2 := (lA.below hb9 lA.lt).old (.cells #[.int .i64 yk, .int .i64 yn, .string yz, .slice Ay yl.length (capF yl.length cy)] 24)
        have hA2 := EIn.below (w' := w9.alloc (.cells #[.int .i64 yk, .int .i64 yn, .string yz, .slice Ay yl.length (capF yl.length cy)] 24)) _ hA (hb9.alloc hb9.size _) (Nat.le_refl _)
        have hTy2 := EIn.below (w' := w9.alloc (.cells #[.int .i64 yk, .int .i64 yn, .string yz, .slice Ay yl.length (capF yl.length cy)] 24)) _ hTy ((Below.refl _ _).alloc (Nat.le_refl _) _) (Nat.le_refl _)
        have ly : Lies (w9.alloc (.cells #[.int .i64 yk, .int .i64 yn, .string yz, .slice Ay yl.length (capF yl.length cy)] 24)) w9.heap.size 24 #[.int .i64 yk, .int .i64 yn, .string yz, .slice Ay yl.length (capF yl.length cy)] := Lies.new _ _ _
        have hbw2 := (hbw.trans (hb9.mono hbw.size)).alloc (hbw.trans (hb9.mono hbw.size)).size (.cells #[.int .i64 yk, .int .i64 yn, .string yz, .slice Ay yl.length (capF yl.length cy)] 24)
        clear hTy0 hTy d0 d1 d2 d3 HC0 hb9 lx hX lA hA hbw hqr
        go_upto_if 9 with fail
        obtain ⟨b4, hb4⟩ : ∃ b, b = w9.heap.size := ⟨_, rfl⟩
        rw [← hb4] at ly
        rw [← hb4]
        clear hb4
        generalize w9.alloc (.cells #[.int .i64 yk, .int .i64 yn, .string yz, .slice Ay yl.length (capF yl.length cy)] 24) = V0 at *
        have HM := Lib.hid (rMay6_any (.node yk yn yz yl) Ay cy 0 V0 (EIn.keep _ hTy2 fun _ _ _ _ => ⟨rfl, trivial⟩) HFY.out.1 (by omega) (by omega))
        have hmy : mayQ (.node yk yn yz yl) 0 false = true := HMY.out
        rw [hmy] at HM
        simp only [ev, Te.kind, Te.n, Te.name, Te.parts] at HM
        clear hmy HMY HFY
        obtain ⟨⟨d0, d1, d2, d3⟩, _⟩ := ly.four
        go_wp2_with fail
        refine HM.out.mono ?_
        rintro e V ⟨rfl, hb10⟩
        have lx3 := lx2.below hb10 lx2.lt
        have ly3 := ly.below hb10 ly.lt
        have lA3 := lA2.below hb10 lA2.lt
        have hA3 := EIn.below _ hA2 hb10 (Nat.le_refl _)
        have hTy3 := EIn.below _ hTy2 hb10 (Nat.le_refl _)
        have hbw3 := hbw2.trans (hb10.mono hbw2.size)
        clear d0 d1 d2 d3 HM hb10 lx2 ly lA2 hA2 hTy2 hbw2
        obtain ⟨⟨d0, d1, d2, d3⟩, _⟩ := ly3.four
        obtain ⟨⟨x0, x1', x2, x3⟩, g0, g1', g2, g3⟩ := lx3.four
        have Z7 : Hid (∀ W, W = (((V.setCell ⟨q4, 0, none⟩ (.int .i64 yk)).setCell ⟨q4, 1, none⟩ (.int .i64 yn)).setCell ⟨q4, 2, none⟩ (.string yz)).setCell ⟨q4, 3, none⟩ (.slice Ay yl.length (capF yl.length cy)) → Lies W q4 24 #[.int .i64 yk, .int .i64 yn, .string yz, .slice Ay yl.length (capF yl.length cy)] ∧ EIn W (fun g => g ≠ q4) (.node yk yn yz yl) Ay ∧ Lies W g1 24 #[.int .i64 ak, .int .i64 an, .string az, .slice Aa al.length (capF al.length ca)] ∧ EIn W (fun g => g ≠ q4) (.node ak an az al) Aa ∧ Below w.heap.size w W) := Lib.hid fun W hW => by
         subst hW
         have hgo : ¬ (fun g => g ≠ q4) q4 := fun h => h rfl
         refine ⟨lx3.all _ _ _ _, ?_, ?_, ?_, Below.all hbw3 hwq _ _ _ _⟩
         ·exact EIn.setCell _ (EIn.setCell _ (EIn.setCell _ (EIn.setCell _ hTy3 ⟨q4, 0, none⟩ _ hgo) ⟨q4, 1, none⟩ _ hgo) ⟨q4, 2, none⟩ _ hgo) ⟨q4, 3, none⟩ _ hgo
         ·exact (((lA3.far (p := ⟨q4, 0, none⟩) hg1q _).far (p := ⟨q4, 1, none⟩) hg1q _).far (p := ⟨q4, 2, none⟩) hg1q _).far (p := ⟨q4, 3, none⟩) hg1q _
         ·exact EIn.setCell _ (EIn.setCell _ (EIn.setCell _ (EIn.setCell _ hA3 ⟨q4, 0, none⟩ _ hgo) ⟨q4, 1, none⟩ _ hgo) ⟨q4, 2, none⟩ _ hgo) ⟨q4, 3, none⟩ _ hgo
        clear lx3 ly3 lA3 hA3 hTy3 hbw3
        go_upto_region 7 with fail
        obtain ⟨lx4, hX4, lA4, hA4, hbw4⟩ := Z7.out _ rfl
        generalize (((V.setCell ⟨q4, 0, none⟩ (.int .i64 yk)).setCell ⟨q4, 1, none⟩ (.int .i64 yn)).setCell ⟨q4, 2, none⟩ (.string yz)).setCell ⟨q4, 3, none⟩ (.slice Ay yl.length (capF yl.length cy)) = V7 at *
        clear Z7 d0 d1 d2 d3 x0 x1' x2 x3 g0 g1' g2 g3
        have hi60 : (i : Int) + 1 ≤ 100 := by omega
        go_wp2_with fail
        go_roundw
        case rel => exact ⟨i + 1, (.node yk yn yz yl), Ay, cy, by go_num, by omega, by omega, Lib.hid HIX.out, lx4, hX4, lA4, hA4, hbw4⟩
        case measure => simp [intOf]; omega
       ·have hmin : i = min C n1 := by omega
        have hgo0 : ¬ ((i : Int) < (C : Int) ∧ (i : Int) < (n1 : Int)) := fun h => hgo ⟨by omega, by omega⟩
        by_cases hx1 : x1 = 0
        ·subst hx1
         have hre : runE 60 0 (.node xk xn xz xl) = ((.node ak an az al), n1 - i, 0) := by rw [HX.out]; exact run_rest HR0.out hin
         have hmx := HMI.out i
         rw [← HX.out] at hmx
         have hat := HAT.out rfl
         have hmA := HMI.out n1
         rw [← hat.2] at hmA
         have HVA := Lib.hid hat.1
         have hsA : sizeE (.node ak an az al) ≤ 5000 := by
          have h := HR0.out
          by_cases hs : sizeE (.node ak an az al) ≤ 5000
          ·exact hs
          ·exfalso
           have h5 := run_rest h (Nat.le_refl n1)
           rw [← hat.2, runE_wide (by omega)] at h5
           rw [Prod.ext_iff, Prod.ext_iff] at h5
           exact absurd (show (91 : Int) = 0 from h5.2.2) (by decide)
         have hsX : sizeE (.node xk xn xz xl) ≤ 5000 := by
          by_cases hs : sizeE (.node xk xn xz xl) ≤ 5000
          ·exact hs
          ·exfalso
           rw [runE_wide (by omega)] at hre
           rw [Prod.ext_iff, Prod.ext_iff] at hre
           exact absurd (show (91 : Int) = 0 from hre.2.2) (by decide)
         have HMA := Lib.hid (And.intro hmA hsA)
         have hI := Lib.hid (And.intro hmx hsX)
         have HREST : Hid (runV (.node xk xn xz xl) 60 = ((.node ak an az al), n1 - i, 0)) := Lib.hid (by rw [runV, if_pos ⟨by omega, by omega, hmx⟩]; exact hre)
         have hn60 : n1 ≤ 60 := by have := HC1.out.2.1; simpa using this
         have hmn : ((n1 - i : Nat) : Int) = (n1 : Int) - (i : Int) := by omega
         clear hre hmx hat hmA hsA hsX HRI HMI HAT HX HC1 HR0 HSZ
         by_cases hC : i < C
         ·have hn : i = n1 := by omega
          have hC' : (i : Int) < (C : Int) := by omega
          have hmI : min (C : Int) (n1 : Int) = (i : Int) := by omega
          subst hn
          clear hgo hgo0 hC hmin
          have HRX := Lib.hid (run_any (.node xk xn xz xl) Ax cx 60 wr (EIn.keep _ hX fun _ _ _ _ => ⟨rfl, trivial⟩) (HSG.out.below hbw HSG.out.pos) (fine_may (hI.out.1) (hI.out.2)))
          rw [HREST.out] at HRX
          simp only [ev, Te.kind, Te.n, Te.name, Te.parts] at HRX
          obtain ⟨⟨d0, d1, d2, d3⟩, _⟩ := lx.four
          go_wp2_with fail
          refine HRX.out.mono ?_
          rintro e w20 ⟨Ab, cb, rfl, hTb0, hb20⟩
          have hTb : EIn w20 Any (.node ak an az al) Ab := EIn.keep _ hTb0 fun _ _ _ _ => ⟨rfl, trivial⟩
          simp only [ev, Te.kind, Te.n, Te.name, Te.parts]
          have lA2 := (lA.below hb20 lA.lt).old (.cells #[.int .i64 ak, .int .i64 an, .string az, .slice Ab al.length (capF al.length cb)] 24)
          have hA2 := EIn.below (w' := w20.alloc (.cells #[.int .i64 ak, .int .i64 an, .string az, .slice Ab al.length (capF al.length cb)] 24)) _ (EIn.keep (Y := Any) _ hA fun _ _ _ _ => ⟨rfl, trivial⟩) ((hb20.alloc hb20.size _)) (Nat.le_refl _)
          have hTb2 := EIn.below (w' := w20.alloc (.cells #[.int .i64 ak, .int .i64 an, .string az, .slice Ab al.length (capF al.length cb)] 24)) _ hTb ((Below.refl _ _).alloc (Nat.le_refl _) _) (Nat.le_refl _)
          have lb : Lies (w20.alloc (.cells #[.int .i64 ak, .int .i64 an, .string az, .slice Ab al.length (capF al.length cb)] 24)) w20.heap.size 24 #[.int .i64 ak, .int .i64 an, .string az, .slice Ab al.length (capF al.length cb)] := Lies.new _ _ _
          have hbw2 := (hbw.trans (hb20.mono hbw.size)).alloc (hbw.trans (hb20.mono hbw.size)).size (.cells #[.int .i64 ak, .int .i64 an, .string az, .slice Ab al.length (capF al.length cb)] 24)
          clear hTb0 hTb d0 d1 d2 d3 HRX hb20 lA hA hbw lx hX
          go_upto_region 15 with fail
          obtain ⟨b5, hb5⟩ : ∃ b, b = w20.heap.size := ⟨_, rfl⟩
          rw [← hb5] at lb
          rw [← hb5]
          clear hb5
          generalize w20.alloc (.cells #[.int .i64 ak, .int .i64 an, .string az, .slice Ab al.length (capF al.length cb)] 24) = V5 at *
          have HSA := Lib.hid (stepV_any 0 (.node ak an az al) Aa ca V5 hA2 (HSG.out.below hbw2 HSG.out.pos) (fine_may HMA.out.1 HMA.out.2) (fun _ => ⟨HMA.out.1, step_fine2 HMA.out.1 HMA.out.2⟩))
          rw [stepV_closed HMA.out.1, stepE_val (a := (.node ak an az al)) HVA.out] at HSA
          simp only [ev, Te.kind, Te.n, Te.name, Te.parts] at HSA
          obtain ⟨⟨d0, d1, d2, d3⟩, _⟩ := lA2.four
          go_wp2_with fail
          refine HSA.out.mono ?_
          rintro e w21 ⟨As, cs, rfl, _, hb21⟩
          simp only [ev, Te.kind, Te.n, Te.name, Te.parts]
          have lA3 := (lA2.below hb21 lA2.lt).old (.cells #[.int .i64 ak, .int .i64 an, .string az, .slice As al.length (capF al.length cs)] 24)
          have lb3 := (lb.below hb21 lb.lt).old (.cells #[.int .i64 ak, .int .i64 an, .string az, .slice As al.length (capF al.length cs)] 24)
          have hA3 := EIn.below (w' := w21.alloc (.cells #[.int .i64 ak, .int .i64 an, .string az, .slice As al.length (capF al.length cs)] 24)) _ hA2 (hb21.alloc hb21.size _) (Nat.le_refl _)
          have hTb3 := EIn.below (w' := w21.alloc (.cells #[.int .i64 ak, .int .i64 an, .string az, .slice As al.length (capF al.length cs)] 24)) _ hTb2 (hb21.alloc hb21.size _) (Nat.le_refl _)
          have hbw3 := (hbw2.trans (hb21.mono hbw2.size)).alloc (hbw2.trans (hb21.mono hbw2.size)).size (.cells #[.int .i64 ak, .int .i64 an, .string az, .slice As al.length (capF al.length cs)] 24)
          clear d0 d1 d2 d3 HSA hb21 lA2 hA2 lb hTb2 hbw2
          go_upto_region 16 with fail
          obtain ⟨b6, hb6⟩ : ∃ b, b = w21.heap.size := ⟨_, rfl⟩
          rw [← hb6]
          clear hb6
          generalize w21.alloc (.cells #[.int .i64 ak, .int .i64 an, .string az, .slice As al.length (capF al.length cs)] 24) = V6 at *
          have HS1 := Lib.hid (rsame6_any (depthE (.node ak an az al)) (.node ak an az al) (.node ak an az al) Aa Ab ca cb V6 (Nat.le_refl _) hA3 hTb3)
          rw [sameE_refl] at HS1
          have HM1 := Lib.hid (fun W (hb : Below V6.heap.size V6 W) => rMay6_any (.node ak an az al) Aa ca 0 W (EIn.below _ hA3 hb (Nat.le_refl _)) (by have := HMA.out.2; have := depth_size (.node ak an az al); omega) (by omega) (by omega))
          rw [HMA.out.1] at HM1
          simp only [ev, Te.kind, Te.n, Te.name, Te.parts] at HS1 HM1
          have HB := Lib.hid hbw3
          have hk4 : ak = 2 ∨ ak = 4 ∨ ak = 7 ∨ ak = 9 := by
           have h := HVA.out
           simp only [valK, Bool.or_eq_true, decide_eq_true_eq] at h
           exact h
          clear hA3 hTb3 hbw3
          have e16 : ∀ ak' : Int, ak' = ak → True := fun _ _ => trivial
          clear e16
          obtain ⟨⟨d0, d1, d2, d3⟩, _⟩ := lA3.four
          go_upto_region 16 with fail
          go_cut [17] (fun v wx => v = .bool true ∧ wx = V6)
          case first =>
           rcases hk4 with rfl | rfl | rfl | rfl
           all_goals (go_wp2_with fail; go_meet; exact ⟨rfl, rfl⟩)
          case rest =>
           obtain ⟨rfl, rfl⟩ := hcut
           obtain ⟨⟨g0, g1, g2, g3⟩, _⟩ := lb3.four
           go_wp2_with fail
           refine HS1.out.mono ?_
           rintro e w22 ⟨rfl, hb22⟩
           have lA4 := lA3.below hb22 lA3.lt
           clear d0 d1 d2 d3 g0 g1 g2 g3 HS1
           obtain ⟨⟨d0, d1, d2, d3⟩, _⟩ := lA4.four
           go_wp2_with fail
           refine (HM1.out _ hb22).mono ?_
           rintro e w23 ⟨rfl, hb23⟩
           have HB9 := Lib.hid (HB.out.trans ((hb22.trans (hb23.mono hb22.size)).mono HB.out.size))
           clear d0 d1 d2 d3 hb22 hb23 HM1
           go_wp2_with fail
           go_ret
           exact ⟨rfl, HB9.out⟩
         ·have hn : i = C := by omega
          have hmI : min (C : Int) (n1 : Int) = (i : Int) := by omega
          subst hn
          clear hgo hgo0 hC hmin
          have HRX := Lib.hid (run_any (.node xk xn xz xl) Ax cx 60 wr (EIn.keep _ hX fun _ _ _ _ => ⟨rfl, trivial⟩) (HSG.out.below hbw HSG.out.pos) (fine_may (hI.out.1) (hI.out.2)))
          rw [HREST.out] at HRX
          simp only [ev, Te.kind, Te.n, Te.name, Te.parts] at HRX
          obtain ⟨⟨d0, d1, d2, d3⟩, _⟩ := lx.four
          go_wp2_with fail
          refine HRX.out.mono ?_
          rintro e w20 ⟨Ab, cb, rfl, hTb0, hb20⟩
          have hTb : EIn w20 Any (.node ak an az al) Ab := EIn.keep _ hTb0 fun _ _ _ _ => ⟨rfl, trivial⟩
          simp only [ev, Te.kind, Te.n, Te.name, Te.parts]
          have lA2 := (lA.below hb20 lA.lt).old (.cells #[.int .i64 ak, .int .i64 an, .string az, .slice Ab al.length (capF al.length cb)] 24)
          have hA2 := EIn.below (w' := w20.alloc (.cells #[.int .i64 ak, .int .i64 an, .string az, .slice Ab al.length (capF al.length cb)] 24)) _ (EIn.keep (Y := Any) _ hA fun _ _ _ _ => ⟨rfl, trivial⟩) ((hb20.alloc hb20.size _)) (Nat.le_refl _)
          have hTb2 := EIn.below (w' := w20.alloc (.cells #[.int .i64 ak, .int .i64 an, .string az, .slice Ab al.length (capF al.length cb)] 24)) _ hTb ((Below.refl _ _).alloc (Nat.le_refl _) _) (Nat.le_refl _)
          have lb : Lies (w20.alloc (.cells #[.int .i64 ak, .int .i64 an, .string az, .slice Ab al.length (capF al.length cb)] 24)) w20.heap.size 24 #[.int .i64 ak, .int .i64 an, .string az, .slice Ab al.length (capF al.length cb)] := Lies.new _ _ _
          have hbw2 := (hbw.trans (hb20.mono hbw.size)).alloc (hbw.trans (hb20.mono hbw.size)).size (.cells #[.int .i64 ak, .int .i64 an, .string az, .slice Ab al.length (capF al.length cb)] 24)
          clear hTb0 hTb d0 d1 d2 d3 HRX hb20 lA hA hbw lx hX
          go_upto_region 15 with fail
          obtain ⟨b5, hb5⟩ : ∃ b, b = w20.heap.size := ⟨_, rfl⟩
          rw [← hb5] at lb
          rw [← hb5]
          clear hb5
          generalize w20.alloc (.cells #[.int .i64 ak, .int .i64 an, .string az, .slice Ab al.length (capF al.length cb)] 24) = V5 at *
          have HSA := Lib.hid (stepV_any 0 (.node ak an az al) Aa ca V5 hA2 (HSG.out.below hbw2 HSG.out.pos) (fine_may HMA.out.1 HMA.out.2) (fun _ => ⟨HMA.out.1, step_fine2 HMA.out.1 HMA.out.2⟩))
          rw [stepV_closed HMA.out.1, stepE_val (a := (.node ak an az al)) HVA.out] at HSA
          simp only [ev, Te.kind, Te.n, Te.name, Te.parts] at HSA
          obtain ⟨⟨d0, d1, d2, d3⟩, _⟩ := lA2.four
          go_wp2_with fail
          refine HSA.out.mono ?_
          rintro e w21 ⟨As, cs, rfl, _, hb21⟩
          simp only [ev, Te.kind, Te.n, Te.name, Te.parts]
          have lA3 := (lA2.below hb21 lA2.lt).old (.cells #[.int .i64 ak, .int .i64 an, .string az, .slice As al.length (capF al.length cs)] 24)
          have lb3 := (lb.below hb21 lb.lt).old (.cells #[.int .i64 ak, .int .i64 an, .string az, .slice As al.length (capF al.length cs)] 24)
          have hA3 := EIn.below (w' := w21.alloc (.cells #[.int .i64 ak, .int .i64 an, .string az, .slice As al.length (capF al.length cs)] 24)) _ hA2 (hb21.alloc hb21.size _) (Nat.le_refl _)
          have hTb3 := EIn.below (w' := w21.alloc (.cells #[.int .i64 ak, .int .i64 an, .string az, .slice As al.length (capF al.length cs)] 24)) _ hTb2 (hb21.alloc hb21.size _) (Nat.le_refl _)
          have hbw3 := (hbw2.trans (hb21.mono hbw2.size)).alloc (hbw2.trans (hb21.mono hbw2.size)).size (.cells #[.int .i64 ak, .int .i64 an, .string az, .slice As al.length (capF al.length cs)] 24)
          clear d0 d1 d2 d3 HSA hb21 lA2 hA2 lb hTb2 hbw2
          go_upto_region 16 with fail
          obtain ⟨b6, hb6⟩ : ∃ b, b = w21.heap.size := ⟨_, rfl⟩
          rw [← hb6]
          clear hb6
          generalize w21.alloc (.cells #[.int .i64 ak, .int .i64 an, .string az, .slice As al.length (capF al.length cs)] 24) = V6 at *
          have HS1 := Lib.hid (rsame6_any (depthE (.node ak an az al)) (.node ak an az al) (.node ak an az al) Aa Ab ca cb V6 (Nat.le_refl _) hA3 hTb3)
          rw [sameE_refl] at HS1
          have HM1 := Lib.hid (fun W (hb : Below V6.heap.size V6 W) => rMay6_any (.node ak an az al) Aa ca 0 W (EIn.below _ hA3 hb (Nat.le_refl _)) (by have := HMA.out.2; have := depth_size (.node ak an az al); omega) (by omega) (by omega))
          rw [HMA.out.1] at HM1
          simp only [ev, Te.kind, Te.n, Te.name, Te.parts] at HS1 HM1
          have HB := Lib.hid hbw3
          have hk4 : ak = 2 ∨ ak = 4 ∨ ak = 7 ∨ ak = 9 := by
           have h := HVA.out
           simp only [valK, Bool.or_eq_true, decide_eq_true_eq] at h
           exact h
          clear hA3 hTb3 hbw3
          have e16 : ∀ ak' : Int, ak' = ak → True := fun _ _ => trivial
          clear e16
          obtain ⟨⟨d0, d1, d2, d3⟩, _⟩ := lA3.four
          go_upto_region 16 with fail
          go_cut [17] (fun v wx => v = .bool true ∧ wx = V6)
          case first =>
           rcases hk4 with rfl | rfl | rfl | rfl
           all_goals (go_wp2_with fail; go_meet; exact ⟨rfl, rfl⟩)
          case rest =>
           obtain ⟨rfl, rfl⟩ := hcut
           obtain ⟨⟨g0, g1, g2, g3⟩, _⟩ := lb3.four
           go_wp2_with fail
           refine HS1.out.mono ?_
           rintro e w22 ⟨rfl, hb22⟩
           have lA4 := lA3.below hb22 lA3.lt
           clear d0 d1 d2 d3 g0 g1 g2 g3 HS1
           obtain ⟨⟨d0, d1, d2, d3⟩, _⟩ := lA4.four
           go_wp2_with fail
           refine (HM1.out _ hb22).mono ?_
           rintro e w23 ⟨rfl, hb23⟩
           have HB9 := Lib.hid (HB.out.trans ((hb22.trans (hb23.mono hb22.size)).mono HB.out.size))
           clear d0 d1 d2 d3 hb22 hb23 HM1
           go_wp2_with fail
           go_ret
           exact ⟨rfl, HB9.out⟩
        ·have hcs : (x1 = 91 ∨ x1 = 90) ∧ n1 ≤ 60 := by
          have h := HC1.out
          refine ⟨?_, by have := h.2.1; simpa using this⟩
          rcases h.2.2 with h' | ⟨_, h' | ⟨h', _⟩⟩
          ·exact absurd h' hx1
          ·exact .inl h'
          ·exact .inr h'
         obtain ⟨hxx, hn60⟩ := hcs
         have hn60' : (n1 : Int) ≤ 60 := by omega
         have HB := Lib.hid hbw
         clear HC1 HRI HMI HAT HX HR0 HSZ hmin hbw lx hX lA hA hx1
         by_cases hC : i < C
         ·have hC' : (i : Int) < (C : Int) := by omega
          have hN' : ¬ (i : Int) < (n1 : Int) := by omega
          clear hgo hgo0 hC
          rcases hxx with rfl | rfl
          all_goals (go_wp2_with fail; go_ret; exact ⟨rfl, HB.out⟩)
         ·have hC' : ¬ (i : Int) < (C : Int) := by omega
          clear hgo hgo0 hC
          rcases hxx with rfl | rfl
          all_goals (go_wp2_with fail; go_ret; exact ⟨rfl, HB.out⟩)
end Lx
end Go.Proofs.YtiocmiikghcoaaaGreatDoor
