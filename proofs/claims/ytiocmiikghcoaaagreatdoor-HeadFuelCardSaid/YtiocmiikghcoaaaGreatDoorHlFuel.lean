/-
  The law HeadFuel, walked.
-/
import Derived.Test.YtiocmiikghcoaaaGreatDoorR9
import Derived.Test.YtiocmiikghcoaaaGreatDoorC18
namespace Go.Proofs.YtiocmiikghcoaaaGreatDoor
open Go.RowKit
namespace Lx
set_option maxRecDepth 100000
set_option maxHeartbeats 16000000 in
theorem fuel9_any (t : Te) (A0 : Option Addr) (c0 : Nat) (y : Int) (w : World) (hg : Signs w) (hI : EIn w Any t A0) (_ : -9223372036854775808 ≤ y ∧ y ≤ 9223372036854775807) :
  Calls Tryz.prog 5 #[ev t A0 c0, .int .i64 y] w fun e w' => e = .returned (.bool true) ∧ Below w.heap.size w w' := by
 obtain ⟨tk, tn, tz, tl⟩ := t
 show Calls Tryz.prog 5 #[.agg #[.int .i64 tk, .int .i64 tn, .string tz, .slice A0 tl.length (capF tl.length c0)], .int .i64 y] w _
 have HX0 := Lib.hid (Bx9.new (c := c0) hI (Below.refl _ w) rfl)
 have HSG := Lib.hid hg
 clear hI hg
 go_enter Tryz.func5, Tryz.ntmps5
 have HFX := Lib.hid (fixed9_any (w.alloc (.cells #[.int .i64 tk, .int .i64 tn, .string tz, .slice A0 tl.length (capF tl.length c0)] 24)) (HSG.out.below HX0.out.bw HSG.out.pos))
 go_wp2_with fail
 refine HFX.out.mono ?_
 rintro e w2 ⟨rfl, hb2⟩
 clear HFX
 replace HX0 := Lib.hid (HX0.out.step hb2)
 clear hb2
 obtain ⟨d0, d1, d2, d3⟩ := HX0.out.four
 have HG := Lib.hid (HX0.out.small 200 (by omega) (by omega))
 cases hv : decide (0 ≤ fewE (.node tk tn tz tl) 200 600)
 ·rw [hv] at HG
  clear hv
  go_wp2_with fail
  refine HG.out.mono ?_
  rintro e w3 ⟨rfl, hb3⟩
  clear HG d0 d1 d2 d3
  replace HX0 := Lib.hid (HX0.out.step hb3)
  clear hb3
  have HFX := Lib.hid (fixed9_any w3 (HSG.out.below HX0.out.bw HSG.out.pos))
  go_wp2_with fail
  refine HFX.out.mono ?_
  rintro e w4 ⟨rfl, hb4⟩
  have hbw := HX0.out.bw.trans (hb4.mono HX0.out.bw.size)
  go_wp2_with fail
  go_ret
  exact ⟨rfl, hbw⟩
 ·rw [hv] at HG
  have hm0 := small9 hv (by omega)
  clear hv
  go_wp2_with fail
  refine HG.out.mono ?_
  rintro e w3 ⟨rfl, hb3⟩
  clear HG d0 d1 d2 d3
  replace HX0 := Lib.hid (HX0.out.step hb3)
  clear hb3
  obtain ⟨d0, d1, d2, d3⟩ := HX0.out.four
  obtain ⟨dd, hdd⟩ : ∃ d : Int, d = (depthE (.node tk tn tz tl) : Int) := ⟨_, rfl⟩
  have HG := Lib.hid (HX0.out.depth (by omega))
  rw [← hdd] at HG
  have hdd0 : 0 ≤ dd := by omega
  by_cases hc : 300 < dd
  ·clear hdd
   go_wp2_with fail
   refine HG.out.mono ?_
   rintro e w5 ⟨rfl, hb5⟩
   clear HG d0 d1 d2 d3
   replace HX0 := Lib.hid (HX0.out.step hb5)
   clear hb5
   have HFX := Lib.hid (fixed9_any w5 (HSG.out.below HX0.out.bw HSG.out.pos))
   go_wp2_with fail
   refine HFX.out.mono ?_
   rintro e w6 ⟨rfl, hb6⟩
   have hbw := HX0.out.bw.trans (hb6.mono HX0.out.bw.size)
   go_wp2_with fail
   go_ret
   exact ⟨rfl, hbw⟩
  ·have HDD := Lib.hid hdd
   clear hdd
   go_wp2_with fail
   refine HG.out.mono ?_
   rintro e w5 ⟨rfl, hb5⟩
   clear HG d0 d1 d2 d3
   replace HX0 := Lib.hid (HX0.out.step hb5)
   clear hb5
   obtain ⟨d0, d1, d2, d3⟩ := HX0.out.four
   have HG := Lib.hid (HX0.out.may 0 (by omega) (by omega) (by omega))
   cases hv : mayQ (.node tk tn tz tl) 0 false
   ·rw [hv] at HG
    clear hv
    go_wp2_with fail
    refine HG.out.mono ?_
    rintro e w7 ⟨rfl, hb7⟩
    clear HG d0 d1 d2 d3
    replace HX0 := Lib.hid (HX0.out.step hb7)
    clear hb7
    have HFX := Lib.hid (fixed9_any w7 (HSG.out.below HX0.out.bw HSG.out.pos))
    go_wp2_with fail
    refine HFX.out.mono ?_
    rintro e w8 ⟨rfl, hb8⟩
    have hbw := HX0.out.bw.trans (hb8.mono HX0.out.bw.size)
    go_wp2_with fail
    go_ret
    exact ⟨rfl, hbw⟩
   ·rw [hv] at HG
    have hmq := hv
    clear hv
    go_wp2_with fail
    refine HG.out.mono ?_
    rintro e w7 ⟨rfl, hb7⟩
    clear HG d0 d1 d2 d3
    replace HX0 := Lib.hid (HX0.out.step hb7)
    clear hb7
    by_cases hc : y < 0
    ·have HFX := Lib.hid (fixed9_any w7 (HSG.out.below HX0.out.bw HSG.out.pos))
     go_wp2_with fail
     refine HFX.out.mono ?_
     rintro e w9 ⟨rfl, hb9⟩
     have hbw := HX0.out.bw.trans (hb9.mono HX0.out.bw.size)
     go_wp2_with fail
     go_ret
     exact ⟨rfl, hbw⟩
    ·have hy0 : 0 ≤ y := by omega
     by_cases hc : 60 < y
     ·have HFX := Lib.hid (fixed9_any w7 (HSG.out.below HX0.out.bw HSG.out.pos))
      go_wp2_with fail
      refine HFX.out.mono ?_
      rintro e w10 ⟨rfl, hb10⟩
      have hbw := HX0.out.bw.trans (hb10.mono HX0.out.bw.size)
      go_wp2_with fail
      go_ret
      exact ⟨rfl, hbw⟩
     ·have hy1 : y ≤ 60 := by omega
      have hf := fine_may hmq (by omega)
      obtain ⟨Y, rfl⟩ : ∃ Y : Nat, y = (Y : Int) := ⟨y.toNat, by omega⟩
      have hc1 := runE_ends 60 0 (.node tk tn tz tl)
      have hc2 := runE_less 60 Y 0 (.node tk tn tz tl) (by omega)
      have hc3 := runE_ends Y 0 (.node tk tn tz tl)
      have e1 : runV (.node tk tn tz tl) 60 = runE 60 0 (.node tk tn tz tl) := by rw [runV, if_pos ⟨by omega, by omega, hmq⟩]; rfl
      have e2 : runV (.node tk tn tz tl) (Y : Int) = runE Y 0 (.node tk tn tz tl) := by rw [runV, if_pos ⟨by omega, by omega, hmq⟩, Int.toNat_natCast]
      have HR1 := Lib.hid (run_any (.node tk tn tz tl) A0 c0 60 w7 HX0.out.tin (HSG.out.below HX0.out.bw HSG.out.pos) hf)
      have HR2 := Lib.hid (fun W (hb : Below w7.heap.size w7 W) => run_any (.node tk tn tz tl) A0 c0 (Y : Int) W (EIn.below _ HX0.out.tin hb (Nat.le_refl _)) (HSG.out.below (HX0.out.bw.trans (hb.mono HX0.out.bw.size)) HSG.out.pos) hf)
      rw [e1] at HR1
      rw [e2] at HR2
      obtain ⟨R1, hR1⟩ : ∃ R, R = runE 60 0 (.node tk tn tz tl) := ⟨_, rfl⟩
      obtain ⟨R2, hR2⟩ : ∃ R, R = runE Y 0 (.node tk tn tz tl) := ⟨_, rfl⟩
      rw [← hR1] at hc1 hc2 HR1
      rw [← hR2] at hc2 HR2 hc3
      clear hR1 hR2 e1 e2 hf hmq
      obtain ⟨⟨ak, an, az, al⟩, n1, x1⟩ := R1
      obtain ⟨⟨bk, bn, bz, bl⟩, n2, x2⟩ := R2
      have HC1 := Lib.hid hc1
      have HC2 := Lib.hid hc2
      have HC3 := Lib.hid hc3
      clear hc1 hc2 hc3
      obtain ⟨e00, e01, e02, e03⟩ := HX0.out.four
      simp only [ev, Te.kind, Te.n, Te.name, Te.parts] at HR1 HR2
      go_wp2_with fail
      refine HR1.out.mono ?_
      rintro e w11 ⟨Aa, ca, rfl, hTa0, hb11⟩
      have hTa : EIn w11 Any (.node ak an az al) Aa := EIn.keep _ hTa0 fun _ _ _ _ => ⟨rfl, trivial⟩
      clear hTa0
      simp only [ev, Te.kind, Te.n, Te.name, Te.parts]
      have HR3 := Lib.hid (HR2.out (w11.alloc (.cells #[.int .i64 ak, .int .i64 an, .string az, .slice Aa al.length (capF al.length ca)] 24)) (hb11.alloc hb11.size _))
      replace HX0 := Lib.hid (HX0.out.step hb11)
      clear e00 e01 e02 e03 HR1 HR2
      go_upto_region 4 with fail
      have HX1 : Hid (Bx9 w (w11.alloc (.cells #[.int .i64 ak, .int .i64 an, .string az, .slice Aa al.length (capF al.length ca)] 24)) w11.heap.size ak an az al Aa ca) := Lib.hid ⟨Lies.new _ _ _, EIn.below _ hTa ((Below.refl _ w11).alloc (Nat.le_refl _) _) (Nat.le_refl _), HX0.out.bw.alloc HX0.out.bw.size _⟩
      replace HX0 := Lib.hid (HX0.out.old (.cells #[.int .i64 ak, .int .i64 an, .string az, .slice Aa al.length (capF al.length ca)] 24))
      clear hTa hb11
      obtain ⟨V, hV⟩ : ∃ V, V = (w11.alloc (.cells #[.int .i64 ak, .int .i64 an, .string az, .slice Aa al.length (capF al.length ca)] 24)) := ⟨_, rfl⟩
      obtain ⟨g1, hg1⟩ : ∃ g, g = w11.heap.size := ⟨_, rfl⟩
      rw [← hV, ← hg1] at HX1
      rw [← hV] at HX0 HR3
      rw [← hV, ← hg1]
      clear hV hg1
      obtain ⟨e00, e01, e02, e03⟩ := HX0.out.four
      go_wp2_with fail
      refine HR3.out.mono ?_
      rintro e w12 ⟨Ab, cb, rfl, hTb0, hb12⟩
      have hTb : EIn w12 Any (.node bk bn bz bl) Ab := EIn.keep _ hTb0 fun _ _ _ _ => ⟨rfl, trivial⟩
      clear hTb0
      simp only [ev, Te.kind, Te.n, Te.name, Te.parts]
      replace HX0 := Lib.hid (HX0.out.step hb12)
      replace HX1 := Lib.hid (HX1.out.step hb12)
      clear e00 e01 e02 e03 HR3
      go_upto_region 5 with fail
      have HX2 : Hid (Bx9 w (w12.alloc (.cells #[.int .i64 bk, .int .i64 bn, .string bz, .slice Ab bl.length (capF bl.length cb)] 24)) w12.heap.size bk bn bz bl Ab cb) := Lib.hid ⟨Lies.new _ _ _, EIn.below _ hTb ((Below.refl _ w12).alloc (Nat.le_refl _) _) (Nat.le_refl _), HX0.out.bw.alloc HX0.out.bw.size _⟩
      replace HX0 := Lib.hid (HX0.out.old (.cells #[.int .i64 bk, .int .i64 bn, .string bz, .slice Ab bl.length (capF bl.length cb)] 24))
      replace HX1 := Lib.hid (HX1.out.old (.cells #[.int .i64 bk, .int .i64 bn, .string bz, .slice Ab bl.length (capF bl.length cb)] 24))
      clear hTb hb12
      obtain ⟨V2, hV⟩ : ∃ V, V = (w12.alloc (.cells #[.int .i64 bk, .int .i64 bn, .string bz, .slice Ab bl.length (capF bl.length cb)] 24)) := ⟨_, rfl⟩
      obtain ⟨g2, hg2⟩ : ∃ g, g = w12.heap.size := ⟨_, rfl⟩
      rw [← hV, ← hg2] at HX2
      rw [← hV] at HX0 HX1
      rw [← hV, ← hg2]
      clear hV hg2
      by_cases hx : x1 = 0 ∧ n1 ≤ Y
      ·obtain ⟨hx0, hx1⟩ := hx
       have he := HC2.out.1 (by show n1 ≤ 0 + Y; omega)
       simp only [Prod.mk.injEq, Te.node.injEq] at he
       obtain ⟨⟨rfl, rfl, rfl, rfl⟩, rfl, rfl⟩ := he
       subst hx0
       have HS := Lib.hid (rsame6_any (depthE (.node bk bn bz bl)) (.node bk bn bz bl) (.node bk bn bz bl) Aa Ab ca cb V2 (Nat.le_refl _) HX1.out.tin HX2.out.tin)
       rw [sameE_refl] at HS
       simp only [ev, Te.kind, Te.n, Te.name, Te.parts] at HS
       obtain ⟨e10, e11, e12, e13⟩ := HX1.out.four
       obtain ⟨e20, e21, e22, e23⟩ := HX2.out.four
       have HB := Lib.hid HX2.out.bw
       have hyn : (n2 : Int) ≤ (Y : Int) := by omega
       clear HC1 HC2 HC3
       go_wp2_with fail
       refine HS.out.mono ?_
       rintro e w9 ⟨rfl, hb9⟩
       have HB9 := Lib.hid (HB.out.trans (hb9.mono HB.out.size))
       clear hb9 e10 e11 e12 e13 e20 e21 e22 e23 HS
       go_wp2_with fail
       go_ret
       exact ⟨rfl, HB9.out⟩
      ·have hk : (.node bk bn bz bl) = noE ∧ n2 ≤ Y ∧ x2 ≠ 0 ∧ (x2 = 90 → n2 = Y) := by
        have h3 := HC3.out
        have h1 := HC1.out
        by_cases hn : n1 ≤ Y
        ·have he := HC2.out.1 (by show n1 ≤ 0 + Y; omega)
         simp only [Prod.mk.injEq] at he
         obtain ⟨_, e2, e3⟩ := he
         have hx2 : x2 ≠ 0 := fun h => hx ⟨by omega, hn⟩
         rcases h3.2.2 with h | ⟨h, h' | ⟨h', h''⟩⟩
         ·exact absurd h hx2
         ·exact ⟨h, by omega, hx2, fun h9 => by omega⟩
         ·exact ⟨h, by omega, hx2, fun _ => by omega⟩
        ·have he := HC2.out.2 (by show 0 + Y < n1; omega)
         simp only [Prod.mk.injEq] at he
         obtain ⟨e1, e2, e3⟩ := he
         exact ⟨e1, by omega, by omega, fun _ => by omega⟩
       obtain ⟨hb0, hn2, hx2, hx3⟩ := hk
       simp only [noE, Te.node.injEq] at hb0
       obtain ⟨rfl, rfl, rfl, rfl⟩ := hb0
       have HS := Lib.hid (fun W (hb : Below V2.heap.size V2 W) => rsame6_any 1 noE noE Ab none cb 0 W (by decide) (EIn.below _ HX2.out.tin hb (Nat.le_refl _)) (no_ein W Any))
       rw [sameE_refl] at HS
       simp only [ev, noE, Te.kind, Te.n, Te.name, Te.parts] at HS
       obtain ⟨e20, e21, e22, e23⟩ := HX2.out.four
       have HB := Lib.hid HX2.out.bw
       have HBB := Lib.hid (fun W (hb : Below V2.heap.size V2 W) => HB.out.trans (hb.mono HB.out.size))
       have hyn : (n2 : Int) ≤ (Y : Int) := by omega
       clear HC1 HC2 HC3
       by_cases hx1 : x1 = 0
       ·subst hx1
        have hcn : ¬ (n1 : Int) ≤ (Y : Int) := fun h => hx ⟨rfl, by omega⟩
        clear hx
        by_cases h90 : x2 = 90
        ·have hxY : (n2 : Int) = (Y : Int) := by have := hx3 h90; omega
         subst h90
         go_wp2_with fail
         refine (HS.out _ (Below.refl _ _)).mono ?_
         rintro e w9 ⟨rfl, hb9⟩
         have HB9 := Lib.hid (HBB.out _ hb9)
         clear hb9 e20 e21 e22 e23 HS
         go_wp2_with fail
         go_ret
         first | exact ⟨rfl, HB9.out⟩ | exact ⟨congrArg (fun b => Ending.returned (Value.bool b)) (show (x2 != 0) = true by simpa using hx2), HB9.out⟩
        ·clear hx3
         go_wp2_with fail
         refine (HS.out _ (Below.refl _ _)).mono ?_
         rintro e w9 ⟨rfl, hb9⟩
         have HB9 := Lib.hid (HBB.out _ hb9)
         clear hb9 e20 e21 e22 e23 HS
         go_wp2_with fail
         go_ret
         first | exact ⟨rfl, HB9.out⟩ | exact ⟨congrArg (fun b => Ending.returned (Value.bool b)) (show (x2 != 0) = true by simpa using hx2), HB9.out⟩
       ·clear hx
        by_cases h90 : x2 = 90
        ·have hxY : (n2 : Int) = (Y : Int) := by have := hx3 h90; omega
         subst h90
         go_wp2_with fail
         refine (HS.out _ (Below.refl _ _)).mono ?_
         rintro e w9 ⟨rfl, hb9⟩
         have HB9 := Lib.hid (HBB.out _ hb9)
         clear hb9 e20 e21 e22 e23 HS
         go_wp2_with fail
         go_ret
         first | exact ⟨rfl, HB9.out⟩ | exact ⟨congrArg (fun b => Ending.returned (Value.bool b)) (show (x2 != 0) = true by simpa using hx2), HB9.out⟩
        ·clear hx3
         go_wp2_with fail
         refine (HS.out _ (Below.refl _ _)).mono ?_
         rintro e w9 ⟨rfl, hb9⟩
         have HB9 := Lib.hid (HBB.out _ hb9)
         clear hb9 e20 e21 e22 e23 HS
         go_wp2_with fail
         go_ret
         first | exact ⟨rfl, HB9.out⟩ | exact ⟨congrArg (fun b => Ending.returned (Value.bool b)) (show (x2 != 0) = true by simpa using hx2), HB9.out⟩
end Lx
end Go.Proofs.YtiocmiikghcoaaaGreatDoor
