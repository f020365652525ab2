/-
  The law HeadLazy, walked.
-/
import Derived.Test.YtiocmiikghcoaaaGreatDoorR9
import Derived.Test.YtiocmiikghcoaaaGreatDoorC18
import Derived.Test.YtiocmiikghcoaaaGreatDoorHz
namespace Go.Proofs.YtiocmiikghcoaaaGreatDoor
open Go.RowKit
namespace Lx
set_option maxRecDepth 100000
set_option maxHeartbeats 16000000 in
theorem lazy9_any (a : Te) (A0 : Option Addr) (c0 : Nat) (b : Te) (A1 : Option Addr) (c1 : Nat) (w : World) (hg : Signs w) (hI : EIn w Any a A0) (hJ : EIn w Any b A1) :
  Calls Tryz.prog 6 #[ev a A0 c0, ev b A1 c1] w fun e w' => e = .returned (.bool true) ∧ Below w.heap.size w w' := by
 obtain ⟨ak, an, az, al⟩ := a
 obtain ⟨bk, bn, bz, bl⟩ := b
 show Calls Tryz.prog 6 #[.agg #[.int .i64 ak, .int .i64 an, .string az, .slice A0 al.length (capF al.length c0)], .agg #[.int .i64 bk, .int .i64 bn, .string bz, .slice A1 bl.length (capF bl.length c1)]] w _
 have HX0 := Lib.hid ((Bx9.new (c := c0) hI (Below.refl _ w) rfl).old (.cells #[.int .i64 bk, .int .i64 bn, .string bz, .slice A1 bl.length (capF bl.length c1)] 24))
 have HX1 := Lib.hid (Bx9.new (c := c1) (g := w.heap.size + 1) hJ ((Below.refl _ w).alloc (Nat.le_refl _) (.cells #[.int .i64 ak, .int .i64 an, .string az, .slice A0 al.length (capF al.length c0)] 24)) (by simp))
 have HSG := Lib.hid hg
 clear hI hJ hg
 go_enter Tryz.func6, Tryz.ntmps6
 have HFX := Lib.hid (fixed9_any ((w.alloc (.cells #[.int .i64 ak, .int .i64 an, .string az, .slice A0 al.length (capF al.length c0)] 24)).alloc (.cells #[.int .i64 bk, .int .i64 bn, .string bz, .slice A1 bl.length (capF bl.length c1)] 24)) (HSG.out.below HX0.out.bw HSG.out.pos))
 go_wp2_with fail
 refine HFX.out.mono ?_
 rintro e w2 ⟨rfl, hb2⟩
 clear HFX
 replace HX0 := Lib.hid (HX0.out.step hb2)
 replace HX1 := Lib.hid (HX1.out.step hb2)
 clear hb2
 obtain ⟨d0, d1, d2, d3⟩ := HX0.out.four
 have HG := Lib.hid (HX0.out.small 100 (by omega) (by omega))
 cases hv : decide (0 ≤ fewE (.node ak an az al) 100 600)
 ·rw [hv] at HG
  clear hv
  go_wp2_with fail
  refine HG.out.mono ?_
  rintro e w3 ⟨rfl, hb3⟩
  clear HG d0 d1 d2 d3
  replace HX0 := Lib.hid (HX0.out.step hb3)
  replace HX1 := Lib.hid (HX1.out.step hb3)
  clear hb3
  have HFX := Lib.hid (fixed9_any w3 (HSG.out.below HX0.out.bw HSG.out.pos))
  go_wp2_with fail
  refine HFX.out.mono ?_
  rintro e w4 ⟨rfl, hb4⟩
  have hbw := HX0.out.bw.trans (hb4.mono HX0.out.bw.size)
  go_wp2_with fail
  go_ret
  exact ⟨rfl, hbw⟩
 ·rw [hv] at HG
  have hm0 := small9 hv (by omega)
  clear hv
  go_wp2_with fail
  refine HG.out.mono ?_
  rintro e w3 ⟨rfl, hb3⟩
  clear HG d0 d1 d2 d3
  replace HX0 := Lib.hid (HX0.out.step hb3)
  replace HX1 := Lib.hid (HX1.out.step hb3)
  clear hb3
  obtain ⟨d0, d1, d2, d3⟩ := HX0.out.four
  obtain ⟨dd, hdd⟩ : ∃ d : Int, d = (depthE (.node ak an az al) : Int) := ⟨_, rfl⟩
  have HG := Lib.hid (HX0.out.depth (by omega))
  rw [← hdd] at HG
  have hdd0 : 0 ≤ dd := by omega
  by_cases hc : 300 < dd
  ·clear hdd
   go_wp2_with fail
   refine HG.out.mono ?_
   rintro e w5 ⟨rfl, hb5⟩
   clear HG d0 d1 d2 d3
   replace HX0 := Lib.hid (HX0.out.step hb5)
   replace HX1 := Lib.hid (HX1.out.step hb5)
   clear hb5
   have HFX := Lib.hid (fixed9_any w5 (HSG.out.below HX0.out.bw HSG.out.pos))
   go_wp2_with fail
   refine HFX.out.mono ?_
   rintro e w6 ⟨rfl, hb6⟩
   have hbw := HX0.out.bw.trans (hb6.mono HX0.out.bw.size)
   go_wp2_with fail
   go_ret
   exact ⟨rfl, hbw⟩
  ·have HDD := Lib.hid hdd
   clear hdd
   go_wp2_with fail
   refine HG.out.mono ?_
   rintro e w5 ⟨rfl, hb5⟩
   clear HG d0 d1 d2 d3
   replace HX0 := Lib.hid (HX0.out.step hb5)
   replace HX1 := Lib.hid (HX1.out.step hb5)
   clear hb5
   obtain ⟨d0, d1, d2, d3⟩ := HX1.out.four
   have HG := Lib.hid (HX1.out.small 100 (by omega) (by omega))
   cases hv : decide (0 ≤ fewE (.node bk bn bz bl) 100 600)
   ·rw [hv] at HG
    clear hv
    go_wp2_with fail
    refine HG.out.mono ?_
    rintro e w7 ⟨rfl, hb7⟩
    clear HG d0 d1 d2 d3
    replace HX0 := Lib.hid (HX0.out.step hb7)
    replace HX1 := Lib.hid (HX1.out.step hb7)
    clear hb7
    have HFX := Lib.hid (fixed9_any w7 (HSG.out.below HX0.out.bw HSG.out.pos))
    go_wp2_with fail
    refine HFX.out.mono ?_
    rintro e w8 ⟨rfl, hb8⟩
    have hbw := HX0.out.bw.trans (hb8.mono HX0.out.bw.size)
    go_wp2_with fail
    go_ret
    exact ⟨rfl, hbw⟩
   ·rw [hv] at HG
    have hm1 := small9 hv (by omega)
    clear hv
    go_wp2_with fail
    refine HG.out.mono ?_
    rintro e w7 ⟨rfl, hb7⟩
    clear HG d0 d1 d2 d3
    replace HX0 := Lib.hid (HX0.out.step hb7)
    replace HX1 := Lib.hid (HX1.out.step hb7)
    clear hb7
    obtain ⟨d0, d1, d2, d3⟩ := HX1.out.four
    obtain ⟨dd, hdd⟩ : ∃ d : Int, d = (depthE (.node bk bn bz bl) : Int) := ⟨_, rfl⟩
    have HG := Lib.hid (HX1.out.depth (by omega))
    rw [← hdd] at HG
    have hdd0 : 0 ≤ dd := by omega
    by_cases hc : 300 < dd
    ·clear hdd
     go_wp2_with fail
     refine HG.out.mono ?_
     rintro e w9 ⟨rfl, hb9⟩
     clear HG d0 d1 d2 d3
     replace HX0 := Lib.hid (HX0.out.step hb9)
     replace HX1 := Lib.hid (HX1.out.step hb9)
     clear hb9
     have HFX := Lib.hid (fixed9_any w9 (HSG.out.below HX0.out.bw HSG.out.pos))
     go_wp2_with fail
     refine HFX.out.mono ?_
     rintro e w10 ⟨rfl, hb10⟩
     have hbw := HX0.out.bw.trans (hb10.mono HX0.out.bw.size)
     go_wp2_with fail
     go_ret
     exact ⟨rfl, hbw⟩
    ·have HDD := Lib.hid hdd
     clear hdd
     go_wp2_with fail
     refine HG.out.mono ?_
     rintro e w9 ⟨rfl, hb9⟩
     clear HG d0 d1 d2 d3
     replace HX0 := Lib.hid (HX0.out.step hb9)
     replace HX1 := Lib.hid (HX1.out.step hb9)
     clear hb9
     obtain ⟨d0, d1, d2, d3⟩ := HX0.out.four
     have HG := Lib.hid (HX0.out.may 0 (by omega) (by omega) (by omega))
     cases hv : mayQ (.node ak an az al) 0 false
     ·rw [hv] at HG
      clear hv
      go_wp2_with fail
      refine HG.out.mono ?_
      rintro e w11 ⟨rfl, hb11⟩
      clear HG d0 d1 d2 d3
      replace HX0 := Lib.hid (HX0.out.step hb11)
      replace HX1 := Lib.hid (HX1.out.step hb11)
      clear hb11
      have HFX := Lib.hid (fixed9_any w11 (HSG.out.below HX0.out.bw HSG.out.pos))
      go_wp2_with fail
      refine HFX.out.mono ?_
      rintro e w12 ⟨rfl, hb12⟩
      have hbw := HX0.out.bw.trans (hb12.mono HX0.out.bw.size)
      go_wp2_with fail
      go_ret
      exact ⟨rfl, hbw⟩
     ·rw [hv] at HG
      have hma := hv
      clear hv
      go_wp2_with fail
      refine HG.out.mono ?_
      rintro e w11 ⟨rfl, hb11⟩
      clear HG d0 d1 d2 d3
      replace HX0 := Lib.hid (HX0.out.step hb11)
      replace HX1 := Lib.hid (HX1.out.step hb11)
      clear hb11
      obtain ⟨d0, d1, d2, d3⟩ := HX1.out.four
      have HG := Lib.hid (HX1.out.may 0 (by omega) (by omega) (by omega))
      cases hv : mayQ (.node bk bn bz bl) 0 false
      ·rw [hv] at HG
       clear hv
       go_wp2_with fail
       refine HG.out.mono ?_
       rintro e w13 ⟨rfl, hb13⟩
       clear HG d0 d1 d2 d3
       replace HX0 := Lib.hid (HX0.out.step hb13)
       replace HX1 := Lib.hid (HX1.out.step hb13)
       clear hb13
       have HFX := Lib.hid (fixed9_any w13 (HSG.out.below HX0.out.bw HSG.out.pos))
       go_wp2_with fail
       refine HFX.out.mono ?_
       rintro e w14 ⟨rfl, hb14⟩
       have hbw := HX0.out.bw.trans (hb14.mono HX0.out.bw.size)
       go_wp2_with fail
       go_ret
       exact ⟨rfl, hbw⟩
      ·rw [hv] at HG
       have hmb := hv
       clear hv
       go_wp2_with fail
       refine HG.out.mono ?_
       rintro e w13 ⟨rfl, hb13⟩
       clear HG d0 d1 d2 d3
       replace HX0 := Lib.hid (HX0.out.step hb13)
       replace HX1 := Lib.hid (HX1.out.step hb13)
       clear hb13
       have hfp := may_pair hma hmb
       have hff := may_first hma hmb
       have hfk := may_konst hma hmb
       have hsz : sizeE (pairE (.node ak an az al) (.node bk bn bz bl)) ≤ 201 ∧ sizeE (firstE (.node ak an az al) (.node bk bn bz bl)) ≤ 300 ∧ sizeE (konstE (.node ak an az al) (.node bk bn bz bl)) ≤ 300 := by
        simp only [pairE, firstE, konstE, lamT, altP, sizeE, sizeEL] at hm0 hm1 ⊢
        omega
       obtain ⟨hs1, hs2, hs3⟩ := hsz
       have e1 := pair_run hma hmb (by omega) (by omega)
       have e2 := first_step hma hmb
       have e3 := konst_step hma hmb
       have HR1 := Lib.hid (fun W A c (h : EIn W Any (pairE (.node ak an az al) (.node bk bn bz bl)) A) (g : Signs W) => run_any (pairE (.node ak an az al) (.node bk bn bz bl)) A c 0 W h g (fine_may hfp (by omega)))
       have HR2 := Lib.hid (fun W A c (h : EIn W Any (firstE (.node ak an az al) (.node bk bn bz bl)) A) (g : Signs W) => stepV_any 0 (firstE (.node ak an az al) (.node bk bn bz bl)) A c W h g (fine_may hff (by omega)) (fun _ => ⟨hff, step_fine2 hff (by omega)⟩))
       have HR3 := Lib.hid (fun W A c (h : EIn W Any (konstE (.node ak an az al) (.node bk bn bz bl)) A) (g : Signs W) => stepV_any 0 (konstE (.node ak an az al) (.node bk bn bz bl)) A c W h g (fine_may hfk (by omega)) (fun _ => ⟨hfk, step_fine2 hfk (by omega)⟩))
       rw [e1] at HR1
       rw [e2] at HR2
       rw [e3] at HR3
       clear e1 e2 e3 hfp hff hfk hs1 hs2 hs3
       obtain ⟨e00, e01, e02, e03⟩ := HX0.out.four
       obtain ⟨e10, e11, e12, e13⟩ := HX1.out.four
       go_upto_region 4 with fail
       clear e00 e01 e02 e03 e10 e11 e12 e13
       obtain ⟨V3, hV⟩ : ∃ V, V = ((w13.alloc (.cells #[.int .i64 ak, .int .i64 an, .string az, .slice A0 al.length (capF al.length c0), .int .i64 bk, .int .i64 bn, .string bz, .slice A1 bl.length (capF bl.length c1)] 24)).alloc (.cells #[.int .i64 4, .int .i64 0, .string ⟨#[80]⟩, .slice (some ⟨w13.heap.size, 0, none⟩) 2 2] 24)) := ⟨_, rfl⟩
       have hbV : Below w13.heap.size w13 V3 := by rw [hV]; exact below2_new _ _
       have l3_0 : Lies V3 (w13.heap.size) 24 #[.int .i64 ak, .int .i64 an, .string az, .slice A0 al.length (capF al.length c0), .int .i64 bk, .int .i64 bn, .string bz, .slice A1 bl.length (capF bl.length c1)] := by rw [hV]; exact Lies.old (Lies.new _ _ _) _
       have l3_1 : Lies V3 (w13.heap.size + 1) 24 #[.int .i64 4, .int .i64 0, .string ⟨#[80]⟩, .slice (some ⟨w13.heap.size, 0, none⟩) 2 2] := by rw [hV]; exact lies_next (w13.alloc (.cells #[.int .i64 ak, .int .i64 an, .string az, .slice A0 al.length (capF al.length c0), .int .i64 bk, .int .i64 bn, .string bz, .slice A1 bl.length (capF bl.length c1)] 24)) _ _ _ (by simp)
       rw [← hV]
       clear hV
       replace HX0 := Lib.hid (HX0.out.step hbV)
       replace HX1 := Lib.hid (HX1.out.step hbV)
       obtain ⟨q3_1, hq⟩ : ∃ q, q = w13.heap.size + 1 := ⟨_, rfl⟩
       try rw [← hq] at l3_0
       try rw [← hq] at l3_1
       rw [← hq]
       clear hq
       obtain ⟨q3_0, hq⟩ : ∃ q, q = w13.heap.size := ⟨_, rfl⟩
       try rw [← hq] at l3_0
       try rw [← hq] at l3_1
       rw [← hq]
       clear hq
       have hP : EIn V3 Any (pairE (.node ak an az al) (.node bk bn bz bl)) (some ⟨q3_0, 0, none⟩) := ein_mk (by decide) (by decide) (by decide) (by simp) (ein_lies2 (c := c0) (d := c1) (t := (.node ak an az al)) (u := (.node bk bn bz bl)) l3_0 trivial HX0.out.tin HX1.out.tin)
       clear l3_0
       obtain ⟨⟨x0, x1, x2, x3⟩, _⟩ := l3_1.four
       go_upto_region 5 with fail
       clear x0 x1 x2 x3
       obtain ⟨V4, hV⟩ : ∃ V, V = (((V3.alloc (.cells #[.int .i64 1, .int .i64 1, .string ⟨#[]⟩, .slice none 0 0] 24)).alloc (.cells #[.int .i64 4, .int .i64 0, .string ⟨#[80]⟩, .slice (some ⟨q3_0, 0, none⟩) 2 2, .int .i64 6, .int .i64 2, .string ⟨#[80]⟩, .slice (some ⟨V3.heap.size, 0, none⟩) 1 1] 24)).alloc (.cells #[.int .i64 5, .int .i64 0, .string ⟨#[]⟩, .slice (some ⟨V3.heap.size + 1, 0, none⟩) 2 2] 24)) := ⟨_, rfl⟩
       have hbV : Below V3.heap.size V3 V4 := by rw [hV]; exact (below2_new _ _).alloc (by simp; omega) _
       have l4_0 : Lies V4 (V3.heap.size) 24 #[.int .i64 1, .int .i64 1, .string ⟨#[]⟩, .slice none 0 0] := by rw [hV]; exact Lies.old (Lies.old (Lies.new _ _ _) _) _
       have l4_1 : Lies V4 (V3.heap.size + 1) 24 #[.int .i64 4, .int .i64 0, .string ⟨#[80]⟩, .slice (some ⟨q3_0, 0, none⟩) 2 2, .int .i64 6, .int .i64 2, .string ⟨#[80]⟩, .slice (some ⟨V3.heap.size, 0, none⟩) 1 1] := by rw [hV]; exact Lies.old (lies_next (V3.alloc (.cells #[.int .i64 1, .int .i64 1, .string ⟨#[]⟩, .slice none 0 0] 24)) _ _ _ (by simp)) _
       have l4_2 : Lies V4 (V3.heap.size + 1 + 1) 24 #[.int .i64 5, .int .i64 0, .string ⟨#[]⟩, .slice (some ⟨V3.heap.size + 1, 0, none⟩) 2 2] := by rw [hV]; exact lies_next ((V3.alloc (.cells #[.int .i64 1, .int .i64 1, .string ⟨#[]⟩, .slice none 0 0] 24)).alloc (.cells #[.int .i64 4, .int .i64 0, .string ⟨#[80]⟩, .slice (some ⟨q3_0, 0, none⟩) 2 2, .int .i64 6, .int .i64 2, .string ⟨#[80]⟩, .slice (some ⟨V3.heap.size, 0, none⟩) 1 1] 24)) _ _ _ (by simp)
       rw [← hV]
       clear hV
       replace HX0 := Lib.hid (HX0.out.step hbV)
       replace HX1 := Lib.hid (HX1.out.step hbV)
       replace hP := EIn.below _ hP hbV (Nat.le_refl _)
       obtain ⟨q4_2, hq⟩ : ∃ q, q = V3.heap.size + 1 + 1 := ⟨_, rfl⟩
       try rw [← hq] at l4_0
       try rw [← hq] at l4_1
       try rw [← hq] at l4_2
       rw [← hq]
       clear hq
       obtain ⟨q4_1, hq⟩ : ∃ q, q = V3.heap.size + 1 := ⟨_, rfl⟩
       try rw [← hq] at l4_0
       try rw [← hq] at l4_1
       try rw [← hq] at l4_2
       rw [← hq]
       clear hq
       obtain ⟨q4_0, hq⟩ : ∃ q, q = V3.heap.size := ⟨_, rfl⟩
       try rw [← hq] at l4_0
       try rw [← hq] at l4_1
       try rw [← hq] at l4_2
       rw [← hq]
       clear hq
       replace l3_1 := l3_1.below hbV l3_1.lt
       have hAl : EIn V4 Any altP (some ⟨q4_0, 0, none⟩) := ein_mk (by decide) (by decide) (by decide) (by simp) (ein_lies1 (c := 0) (t := .node 1 1 ⟨#[]⟩ []) l4_0 trivial (ein_mk (by decide) (by decide) (by decide) (by simp) (by rw [ELIn]; trivial)))
       have hF : EIn V4 Any (firstE (.node ak an az al) (.node bk bn bz bl)) (some ⟨q4_1, 0, none⟩) := ein_mk (by decide) (by decide) (by decide) (by simp) (ein_lies2 (c := 2) (d := 1) (t := pairE (.node ak an az al) (.node bk bn bz bl)) (u := altP) l4_1 trivial hP hAl)
       clear l4_0 l4_1 hAl hbV
       obtain ⟨e00, e01, e02, e03⟩ := HX0.out.four
       obtain ⟨e10, e11, e12, e13⟩ := (HX1.out.old (.cells #[.int .i64 ak, .int .i64 an, .string az, .slice A0 al.length (capF al.length c0)] 24)).four
       go_upto_region 6 with fail
       clear e00 e01 e02 e03 e10 e11 e12 e13
       obtain ⟨V5, hV⟩ : ∃ V, V = (((V4.alloc (.cells #[.int .i64 ak, .int .i64 an, .string az, .slice A0 al.length (capF al.length c0)] 24)).alloc (.cells #[.int .i64 2, .int .i64 0, .string ⟨#[]⟩, .slice (some ⟨V4.heap.size, 0, none⟩) 1 1, .int .i64 bk, .int .i64 bn, .string bz, .slice A1 bl.length (capF bl.length c1)] 24)).alloc (.cells #[.int .i64 3, .int .i64 0, .string ⟨#[]⟩, .slice (some ⟨V4.heap.size + 1, 0, none⟩) 2 2] 24)) := ⟨_, rfl⟩
       have hbV : Below V4.heap.size V4 V5 := by rw [hV]; exact (below2_new _ _).alloc (by simp; omega) _
       have l5_0 : Lies V5 (V4.heap.size) 24 #[.int .i64 ak, .int .i64 an, .string az, .slice A0 al.length (capF al.length c0)] := by rw [hV]; exact Lies.old (Lies.old (Lies.new _ _ _) _) _
       have l5_1 : Lies V5 (V4.heap.size + 1) 24 #[.int .i64 2, .int .i64 0, .string ⟨#[]⟩, .slice (some ⟨V4.heap.size, 0, none⟩) 1 1, .int .i64 bk, .int .i64 bn, .string bz, .slice A1 bl.length (capF bl.length c1)] := by rw [hV]; exact Lies.old (lies_next (V4.alloc (.cells #[.int .i64 ak, .int .i64 an, .string az, .slice A0 al.length (capF al.length c0)] 24)) _ _ _ (by simp)) _
       have l5_2 : Lies V5 (V4.heap.size + 1 + 1) 24 #[.int .i64 3, .int .i64 0, .string ⟨#[]⟩, .slice (some ⟨V4.heap.size + 1, 0, none⟩) 2 2] := by rw [hV]; exact lies_next ((V4.alloc (.cells #[.int .i64 ak, .int .i64 an, .string az, .slice A0 al.length (capF al.length c0)] 24)).alloc (.cells #[.int .i64 2, .int .i64 0, .string ⟨#[]⟩, .slice (some ⟨V4.heap.size, 0, none⟩) 1 1, .int .i64 bk, .int .i64 bn, .string bz, .slice A1 bl.length (capF bl.length c1)] 24)) _ _ _ (by simp)
       rw [← hV]
       clear hV
       replace HX0 := Lib.hid (HX0.out.step hbV)
       replace HX1 := Lib.hid (HX1.out.step hbV)
       replace hP := EIn.below _ hP hbV (Nat.le_refl _)
       replace hF := EIn.below _ hF hbV (Nat.le_refl _)
       obtain ⟨q5_2, hq⟩ : ∃ q, q = V4.heap.size + 1 + 1 := ⟨_, rfl⟩
       try rw [← hq] at l5_0
       try rw [← hq] at l5_1
       try rw [← hq] at l5_2
       rw [← hq]
       clear hq
       obtain ⟨q5_1, hq⟩ : ∃ q, q = V4.heap.size + 1 := ⟨_, rfl⟩
       try rw [← hq] at l5_0
       try rw [← hq] at l5_1
       try rw [← hq] at l5_2
       rw [← hq]
       clear hq
       obtain ⟨q5_0, hq⟩ : ∃ q, q = V4.heap.size := ⟨_, rfl⟩
       try rw [← hq] at l5_0
       try rw [← hq] at l5_1
       try rw [← hq] at l5_2
       rw [← hq]
       clear hq
       replace l3_1 := l3_1.below hbV l3_1.lt
       replace l4_2 := l4_2.below hbV l4_2.lt
       have hLa : EIn V5 Any (lamT (.node ak an az al)) (some ⟨q5_0, 0, none⟩) := ein_mk (by decide) (by decide) (by decide) (by simp) (ein_lies1 (c := c0) (t := (.node ak an az al)) l5_0 trivial HX0.out.tin)
       have hK : EIn V5 Any (konstE (.node ak an az al) (.node bk bn bz bl)) (some ⟨q5_1, 0, none⟩) := ein_mk (by decide) (by decide) (by decide) (by simp) (ein_lies2 (c := 1) (d := c1) (t := lamT (.node ak an az al)) (u := (.node bk bn bz bl)) l5_1 trivial hLa HX1.out.tin)
       clear l5_0 l5_1 hLa hbV
       have HC1 := Lib.hid (HR1.out V5 _ 2 hP (HSG.out.below HX0.out.bw HSG.out.pos))
       simp only [ev, pairE, Te.kind, Te.n, Te.name, Te.parts, List.length_cons, List.length_nil] at HC1
       obtain ⟨⟨x0, x1, x2, x3⟩, _⟩ := l3_1.four
       go_wp2_with fail
       refine HC1.out.mono ?_
       rintro e w20 ⟨Ax, cx, rfl, hTx0, hb20⟩
       have hTx : EIn w20 Any (pairE (.node ak an az al) (.node bk bn bz bl)) Ax := EIn.keep _ hTx0 fun _ _ _ _ => ⟨rfl, trivial⟩
       simp only [ev, Te.kind, Te.n, Te.name, Te.parts, List.length_cons, List.length_nil]
       replace HX0 := Lib.hid (HX0.out.step hb20)
       replace HX1 := Lib.hid (HX1.out.step hb20)
       replace l3_1 := l3_1.below hb20 l3_1.lt
       replace l4_2 := l4_2.below hb20 l4_2.lt
       replace l5_2 := l5_2.below hb20 l5_2.lt
       replace hP := EIn.below _ hP hb20 (Nat.le_refl _)
       replace hF := EIn.below _ hF hb20 (Nat.le_refl _)
       replace hK := EIn.below _ hK hb20 (Nat.le_refl _)
       clear hb20
       clear hTx0 x0 x1 x2 x3 HC1
       go_upto_region 7 with fail
       obtain ⟨V6, hV⟩ : ∃ V, V = (w20.alloc (.cells #[.int .i64 4, .int .i64 0, .string pB9, .slice Ax (0 + 1 + 1) (capF (0 + 1 + 1) cx)] 24)) := ⟨_, rfl⟩
       have hbV : Below w20.heap.size w20 V6 := by rw [hV]; exact (Below.refl _ w20).alloc (Nat.le_refl _) _
       have l6_0 : Lies V6 (w20.heap.size) 24 #[.int .i64 4, .int .i64 0, .string pB9, .slice Ax (0 + 1 + 1) (capF (0 + 1 + 1) cx)] := by rw [hV]; exact Lies.new _ _ _
       rw [← hV]
       clear hV
       replace HX0 := Lib.hid (HX0.out.step hbV)
       replace HX1 := Lib.hid (HX1.out.step hbV)
       replace hP := EIn.below _ hP hbV (Nat.le_refl _)
       replace hF := EIn.below _ hF hbV (Nat.le_refl _)
       replace hK := EIn.below _ hK hbV (Nat.le_refl _)
       replace hTx := EIn.below _ hTx hbV (Nat.le_refl _)
       obtain ⟨q6_0, hq⟩ : ∃ q, q = w20.heap.size := ⟨_, rfl⟩
       try rw [← hq] at l6_0
       rw [← hq]
       clear hq
       replace l3_1 := l3_1.below hbV l3_1.lt
       replace l4_2 := l4_2.below hbV l4_2.lt
       replace l5_2 := l5_2.below hbV l5_2.lt
       clear hbV
       have HC := Lib.hid (HR2.out V6 _ 2 hF (HSG.out.below HX0.out.bw HSG.out.pos))
       simp only [ev, firstE, Te.kind, Te.n, Te.name, Te.parts, List.length_cons, List.length_nil] at HC
       obtain ⟨⟨x0, x1, x2, x3⟩, _⟩ := l4_2.four
       go_wp2_with fail
       refine HC.out.mono ?_
       rintro e w21 ⟨Ay, cy, rfl, hT0, hb21⟩
       have hTy : EIn w21 Any (.node ak an az al) Ay := EIn.keep _ hT0 fun _ _ _ _ => ⟨rfl, trivial⟩
       simp only [ev, Te.kind, Te.n, Te.name, Te.parts]
       replace HX0 := Lib.hid (HX0.out.step hb21)
       replace HX1 := Lib.hid (HX1.out.step hb21)
       replace l3_1 := l3_1.below hb21 l3_1.lt
       replace l5_2 := l5_2.below hb21 l5_2.lt
       replace l6_0 := l6_0.below hb21 l6_0.lt
       replace l4_2 := l4_2.below hb21 l4_2.lt
       replace hP := EIn.below _ hP hb21 (Nat.le_refl _)
       replace hK := EIn.below _ hK hb21 (Nat.le_refl _)
       replace hTx := EIn.below _ hTx hb21 (Nat.le_refl _)
       clear hb21
       clear hT0 x0 x1 x2 x3 HC
       go_upto_region 8 with fail
       obtain ⟨V7, hV⟩ : ∃ V, V = (w21.alloc (.cells #[.int .i64 ak, .int .i64 an, .string az, .slice Ay al.length (capF al.length cy)] 24)) := ⟨_, rfl⟩
       have hbV : Below w21.heap.size w21 V7 := by rw [hV]; exact (Below.refl _ w21).alloc (Nat.le_refl _) _
       have l7_0 : Lies V7 (w21.heap.size) 24 #[.int .i64 ak, .int .i64 an, .string az, .slice Ay al.length (capF al.length cy)] := by rw [hV]; exact Lies.new _ _ _
       rw [← hV]
       clear hV
       replace HX0 := Lib.hid (HX0.out.step hbV)
       replace HX1 := Lib.hid (HX1.out.step hbV)
       replace hP := EIn.below _ hP hbV (Nat.le_refl _)
       replace hK := EIn.below _ hK hbV (Nat.le_refl _)
       replace hTx := EIn.below _ hTx hbV (Nat.le_refl _)
       replace hTy := EIn.below _ hTy hbV (Nat.le_refl _)
       obtain ⟨q7_0, hq⟩ : ∃ q, q = w21.heap.size := ⟨_, rfl⟩
       try rw [← hq] at l7_0
       rw [← hq]
       clear hq
       replace l3_1 := l3_1.below hbV l3_1.lt
       replace l5_2 := l5_2.below hbV l5_2.lt
       replace l6_0 := l6_0.below hbV l6_0.lt
       replace l4_2 := l4_2.below hbV l4_2.lt
       clear hbV
       have HC := Lib.hid (HR3.out V7 _ 2 hK (HSG.out.below HX0.out.bw HSG.out.pos))
       simp only [ev, konstE, Te.kind, Te.n, Te.name, Te.parts, List.length_cons, List.length_nil] at HC
       obtain ⟨⟨x0, x1, x2, x3⟩, _⟩ := l5_2.four
       go_wp2_with fail
       refine HC.out.mono ?_
       rintro e w22 ⟨Az, cz, rfl, hT0, hb22⟩
       have hTz : EIn w22 Any (.node ak an az al) Az := EIn.keep _ hT0 fun _ _ _ _ => ⟨rfl, trivial⟩
       simp only [ev, Te.kind, Te.n, Te.name, Te.parts]
       replace HX0 := Lib.hid (HX0.out.step hb22)
       replace HX1 := Lib.hid (HX1.out.step hb22)
       replace l3_1 := l3_1.below hb22 l3_1.lt
       replace l6_0 := l6_0.below hb22 l6_0.lt
       replace l7_0 := l7_0.below hb22 l7_0.lt
       replace l5_2 := l5_2.below hb22 l5_2.lt
       replace hP := EIn.below _ hP hb22 (Nat.le_refl _)
       replace hTx := EIn.below _ hTx hb22 (Nat.le_refl _)
       replace hTy := EIn.below _ hTy hb22 (Nat.le_refl _)
       clear hb22
       clear hT0 x0 x1 x2 x3 HC
       go_upto_region 9 with fail
       obtain ⟨V8, hV⟩ : ∃ V, V = (w22.alloc (.cells #[.int .i64 ak, .int .i64 an, .string az, .slice Az al.length (capF al.length cz)] 24)) := ⟨_, rfl⟩
       have hbV : Below w22.heap.size w22 V8 := by rw [hV]; exact (Below.refl _ w22).alloc (Nat.le_refl _) _
       have l8_0 : Lies V8 (w22.heap.size) 24 #[.int .i64 ak, .int .i64 an, .string az, .slice Az al.length (capF al.length cz)] := by rw [hV]; exact Lies.new _ _ _
       rw [← hV]
       clear hV
       replace HX0 := Lib.hid (HX0.out.step hbV)
       replace HX1 := Lib.hid (HX1.out.step hbV)
       replace hP := EIn.below _ hP hbV (Nat.le_refl _)
       replace hTx := EIn.below _ hTx hbV (Nat.le_refl _)
       replace hTy := EIn.below _ hTy hbV (Nat.le_refl _)
       replace hTz := EIn.below _ hTz hbV (Nat.le_refl _)
       obtain ⟨q8_0, hq⟩ : ∃ q, q = w22.heap.size := ⟨_, rfl⟩
       try rw [← hq] at l8_0
       rw [← hq]
       clear hq
       replace l3_1 := l3_1.below hbV l3_1.lt
       replace l6_0 := l6_0.below hbV l6_0.lt
       replace l7_0 := l7_0.below hbV l7_0.lt
       replace l5_2 := l5_2.below hbV l5_2.lt
       clear hbV
       have HS1 := Lib.hid (fun W (hb : Below V8.heap.size V8 W) => rsame6_any (depthE (pairE (.node ak an az al) (.node bk bn bz bl))) (pairE (.node ak an az al) (.node bk bn bz bl)) (pairE (.node ak an az al) (.node bk bn bz bl)) Ax (some ⟨q3_0, 0, none⟩) cx 2 W (Nat.le_refl _) (EIn.below _ hTx hb (Nat.le_refl _)) (EIn.below _ hP hb (Nat.le_refl _)))
       have HS2 := Lib.hid (fun W (hb : Below V8.heap.size V8 W) => rsame6_any (depthE (.node ak an az al)) (.node ak an az al) (.node ak an az al) Ay A0 cy c0 W (Nat.le_refl _) (EIn.below _ hTy hb (Nat.le_refl _)) (EIn.below _ HX0.out.tin hb (Nat.le_refl _)))
       have HS3 := Lib.hid (fun W (hb : Below V8.heap.size V8 W) => rsame6_any (depthE (.node ak an az al)) (.node ak an az al) (.node ak an az al) Az A0 cz c0 W (Nat.le_refl _) (EIn.below _ hTz hb (Nat.le_refl _)) (EIn.below _ HX0.out.tin hb (Nat.le_refl _)))
       rw [sameE_refl] at HS1 HS2 HS3
       simp only [ev, pairE, Te.kind, Te.n, Te.name, Te.parts, List.length_cons, List.length_nil] at HS1 HS2 HS3
       have HB := Lib.hid HX0.out.bw
       have hx0 := HX0.out.box
       clear hP hTx hTy hTz HR1 HR2 HR3 HX0 HX1 l4_2 l5_2
       obtain ⟨⟨x0, x1, x2, x3⟩, _⟩ := l3_1.four
       obtain ⟨⟨y0, y1, y2, y3⟩, _⟩ := l6_0.four
       go_wp2_with fail
       refine (HS1.out _ (Below.refl _ _)).mono ?_
       rintro e w31 ⟨rfl, hb31⟩
       clear x0 x1 x2 x3 y0 y1 y2 y3
       have l7_1 := l7_0.below hb31 l7_0.lt
       have l8_1 := l8_0.below hb31 l8_0.lt
       have hx1 := hx0.below hb31 hx0.lt
       obtain ⟨⟨x0, x1, x2, x3⟩, _⟩ := l7_1.four
       obtain ⟨⟨y0, y1, y2, y3⟩, _⟩ := hx1.four
       go_wp2_with fail
       refine (HS2.out _ hb31).mono ?_
       rintro e w32 ⟨rfl, hb32⟩
       clear x0 x1 x2 x3 y0 y1 y2 y3
       have hb32' := hb31.trans (hb32.mono hb31.size)
       have l8_2 := l8_1.below hb32 l8_1.lt
       have hx2 := hx1.below hb32 hx1.lt
       obtain ⟨⟨x0, x1, x2, x3⟩, _⟩ := l8_2.four
       obtain ⟨⟨y0, y1, y2, y3⟩, _⟩ := hx2.four
       go_wp2_with fail
       refine (HS3.out _ hb32').mono ?_
       rintro e w33 ⟨rfl, hb33⟩
       have HB9 := Lib.hid (HB.out.trans ((hb32'.trans (hb33.mono hb32'.size)).mono HB.out.size))
       clear x0 x1 x2 x3 y0 y1 y2 y3 hb33 hb32 hb32' hb31
       go_wp2_with fail
       go_ret
       exact ⟨rfl, HB9.out⟩
end Lx
end Go.Proofs.YtiocmiikghcoaaaGreatDoor
