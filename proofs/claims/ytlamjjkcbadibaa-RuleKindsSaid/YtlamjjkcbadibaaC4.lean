/-
  Texts that lie one behind the other: RuG RuH RuI.
-/
import Derived.Test.YtlamjjkcbadibaaC3
import Derived.ChangeKeysEq
namespace Go.Proofs.Ytlamjjkcbadibaa
open Go Go.RowKit
namespace Lx
set_option maxRecDepth 100000
theorem uArr : Try.prog.underlying 39 = some (.array 2 3) := by kernel_rfl
theorem cInt1 : Try.prog.cellsOf 3 = 1 := by kernel_rfl
theorem arr_eql (a b c d : Int) (U : World) : (binOp .eql 39 (.agg #[.int .i64 a, .int .i64 b]) (.agg #[.int .i64 c, .int .i64 d])).run Try.prog U = .ok (.bool ((a, b) == (c, d))) U := by
  obtain ⟨i, hi⟩ : ∃ i, Try.prog.info? 3 = some i := Option.isSome_iff_exists.1 (by kernel_rfl)
  have h2 : (Op.equalIn 10000 39 (.agg #[.int .i64 a, .int .i64 b]) (.agg #[.int .i64 c, .int .i64 d])).run Try.prog U = .ok ((a, b) == (c, d)) U := by
    rw [run_equalIn_array U 9999 _ _ uArr hi, cInt1, show List.range 2 = [0, 1] from rfl]
    simp only [Op.eqItems]
    have p0 : ∀ (x y : Int) (V : World), (part 3 #[.int .i64 x, .int .i64 y] (0 * 1)).run Try.prog V = .ok (.int .i64 x) V := fun x y V => by go_simp
    have p1 : ∀ (x y : Int) (V : World), (part 3 #[.int .i64 x, .int .i64 y] (1 * 1)).run Try.prog V = .ok (.int .i64 y) V := fun x y V => by go_simp
    have q : ∀ (x y : Int) (V : World), (Op.equalIn 9999 3 (.int .i64 x) (.int .i64 y)).run Try.prog V = .ok (x == y) V := fun x y V => run_equalIn_int V 9998 3 .i64 .i64 x y Try.underlying3
    by_cases e1 : a = c
    · subst e1
      by_cases e2 : b = d
      · subst e2
        simp [Sem.run_bind, p0, p1, q]
      · simp [Sem.run_bind, p0, p1, q, e2]
    · simp [Sem.run_bind, p0, p1, q, e1]
  go_simp
/-- A contract that tells a plan, over all worlds above one. -/
theorem calm_pl1 {f : FuncId} {p : Pl} {args : Array Value} {W : World} (h : ∀ U, Below W.heap.size W U → Calls Try.prog f args U (GivesPl1 p U)) (V : Abv W) : Calls Try.prog f args V.1 (GivesPl1 p V.1) := h V.1 V.2
theorem calm_pl {f : FuncId} {p : Pl} {x : Int} {args : Array Value} {W : World} (h : ∀ U, Below W.heap.size W U → Calls Try.prog f args U (GivesPl p x U)) (V : Abv W) : Calls Try.prog f args V.1 (GivesPl p x V.1) := h V.1 V.2
set_option maxHeartbeats 8000000 in
theorem ruanswer_any (x y : Nd) (Bx Cx : Option Addr) (bx cx : Nat) (By Cy : Option Addr) (by_ cy : Nat) (w : World) (hI : NdIn w AnyB x Bx Cx) (hJ : NdIn w AnyB y By Cy) :
    Calls Try.prog 32 #[ndv x Bx bx Cx cx, ndv y By by_ Cy cy] w (GivesPl (answerV x y).1 (answerV x y).2 w) := by
  have HK := Lib.hid (fun (U : World) (hU : Below w.heap.size w U) => rupick_any x y Bx Cx bx cx By Cy by_ cy U (hI.below hU (Nat.le_refl _)) (hJ.below hU (Nat.le_refl _)))
  have HO := Lib.hid (fun (U : World) (_ : Below w.heap.size w U) => ruout_any x y Bx Cx bx cx By Cy by_ cy U)
  have HE : Hid (answerV x y = if (x.kind = 3 ∧ y.kind = 2 ∨ x.kind = 9 ∧ y.kind = 8) ∧ x.level ≠ y.level then (Pl.zero, 140)
    else if x.kind = 3 ∧ y.kind = 2 then (Pl.one 1, 0) else if x.kind = 9 ∧ y.kind = 8 then (pickV x y, 0)
    else if x.kind = 11 ∧ y.kind = 10 then (Pl.one 3, 0) else if x.kind = 12 ∧ y.kind = 10 then (outV x y, 0) else (Pl.one 5, 0)) := Lib.hid rfl
  obtain ⟨PK, hPK⟩ : ∃ q, q = pickV x y := ⟨_, rfl⟩
  obtain ⟨PO, hPO⟩ : ∃ q, q = outV x y := ⟨_, rfl⟩
  obtain ⟨PP, hPP⟩ : ∃ q, q = answerV x y := ⟨_, rfl⟩
  rw [← hPK] at HK HE
  rw [← hPO] at HO HE
  rw [← hPP] at HE ⊢
  clear hPK hPO hPP hI hJ
  obtain ⟨xk, xl, xn, xs, xa, xt⟩ := x
  obtain ⟨yk, yl, yn, ys, ya, yt⟩ := y
  unfold ndv
  simp only at HE HK HO ⊢
  obtain ⟨W, hW⟩ : ∃ W, W = (((w.alloc (.cells #[.int .i64 xk, .int .i64 xl, .int .i64 xn, .string xs, .slice Bx xa.length (capN xa.length bx), .slice Cx xt.length (capN xt.length cx)] 25)).alloc (.cells #[.int .i64 yk, .int .i64 yl, .int .i64 yn, .string ys, .slice By ya.length (capN ya.length by_), .slice Cy yt.length (capN yt.length cy)] 25)).alloc (.cells #[.int .i64 0, .bool false, .int .i64 0, .int .i64 0, .int .i64 0, .int .i64 0, .int .i64 0, .string ⟨#[]⟩, .slice none 0 0, .slice none 0 0] 29)) := ⟨_, rfl⟩
  have hbW : Below w.heap.size w W := by rw [hW]; exact ((((Below.refl _ w).alloc (Nat.le_refl _) _).alloc (by simp) _).alloc (by simp; omega) _)
  have L0 : Lies W (w.heap.size) 25 #[.int .i64 xk, .int .i64 xl, .int .i64 xn, .string xs, .slice Bx xa.length (capN xa.length bx), .slice Cx xt.length (capN xt.length cx)] := by
    rw [hW]
    refine Lies.old ?_ _
    refine Lies.old ?_ _
    exact Lies.new _ _ _
  have L1 : Lies W (w.heap.size + 1) 25 #[.int .i64 yk, .int .i64 yl, .int .i64 yn, .string ys, .slice By ya.length (capN ya.length by_), .slice Cy yt.length (capN yt.length cy)] := by
    rw [hW]
    refine Lies.old ?_ _
    simpa using Lies.new (w.alloc (.cells #[.int .i64 xk, .int .i64 xl, .int .i64 xn, .string xs, .slice Bx xa.length (capN xa.length bx), .slice Cx xt.length (capN xt.length cx)] 25)) 25 #[.int .i64 yk, .int .i64 yl, .int .i64 yn, .string ys, .slice By ya.length (capN ya.length by_), .slice Cy yt.length (capN yt.length cy)]
  have L2 : Lies W (w.heap.size + 1 + 1) 29 #[.int .i64 0, .bool false, .int .i64 0, .int .i64 0, .int .i64 0, .int .i64 0, .int .i64 0, .string ⟨#[]⟩, .slice none 0 0, .slice none 0 0] := by
    rw [hW]
    simpa using Lies.new ((w.alloc (.cells #[.int .i64 xk, .int .i64 xl, .int .i64 xn, .string xs, .slice Bx xa.length (capN xa.length bx), .slice Cx xt.length (capN xt.length cx)] 25)).alloc (.cells #[.int .i64 yk, .int .i64 yl, .int .i64 yn, .string ys, .slice By ya.length (capN ya.length by_), .slice Cy yt.length (capN yt.length cy)] 25)) 29 #[.int .i64 0, .bool false, .int .i64 0, .int .i64 0, .int .i64 0, .int .i64 0, .int .i64 0, .string ⟨#[]⟩, .slice none 0 0, .slice none 0 0]
  obtain ⟨x0, x1, x2, x3, x4, x5⟩ := six_cells L0
  replace x0 := Abv.cell x0
  replace x1 := Abv.cell x1
  replace x2 := Abv.cell x2
  replace x3 := Abv.cell x3
  replace x4 := Abv.cell x4
  replace x5 := Abv.cell x5
  obtain ⟨y0, y1, y2, y3, y4, y5⟩ := six_cells L1
  replace y0 := Abv.cell y0
  replace y1 := Abv.cell y1
  replace y2 := Abv.cell y2
  replace y3 := Abv.cell y3
  replace y4 := Abv.cell y4
  replace y5 := Abv.cell y5
  obtain ⟨r0, r1, r2, r3, r4, r5, r6, r7, r8, r9⟩ := ten_cells L2
  replace r0 := Abv.cell r0
  replace r1 := Abv.cell r1
  replace r2 := Abv.cell r2
  replace r3 := Abv.cell r3
  replace r4 := Abv.cell r4
  replace r5 := Abv.cell r5
  replace r6 := Abv.cell r6
  replace r7 := Abv.cell r7
  replace r8 := Abv.cell r8
  replace r9 := Abv.cell r9
  have HR := Lib.hid L2
  obtain ⟨f0, f1, f2, f3, f4, f5, f6, f7, f8, f9⟩ := ten_frozen L2
  replace f0 := Abv.unfrozen L2.lt f0
  replace f1 := Abv.unfrozen L2.lt f1
  replace f2 := Abv.unfrozen L2.lt f2
  replace f3 := Abv.unfrozen L2.lt f3
  replace f4 := Abv.unfrozen L2.lt f4
  replace f5 := Abv.unfrozen L2.lt f5
  replace f6 := Abv.unfrozen L2.lt f6
  replace f7 := Abv.unfrozen L2.lt f7
  replace f8 := Abv.unfrozen L2.lt f8
  replace f9 := Abv.unfrozen L2.lt f9
  have HB := Lib.hid hbW
  clear L0 L1 L2 hbW
  have HKV := fun V : Abv W => HK.out V.1 (HB.out.trans (V.2.mono HB.out.size))
  have HOV := fun V : Abv W => HO.out V.1 (HB.out.trans (V.2.mono HB.out.size))
  clear HK HO
  have HHK := Lib.hid HKV
  have HHO := Lib.hid HOV
  clear HKV HOV
  have hq := fun (a b c d : Int) (U : World) => arr_eql a b c d U
  by_cases b1 : xk = 3 ∧ yk = 2
  · obtain ⟨rfl, rfl⟩ := b1
    by_cases hl : xl = yl
    · subst hl
      replace HE : Hid (PP = (Pl.one 1, 0)) := Lib.hid (by rw [HE.out, if_neg (by simp), if_pos ⟨rfl, rfl⟩])
      go_enter Try.func32, Try.ntmps32
      go_upto_region 1 with fail
      rw [← hW]
      clear hW
      obtain ⟨V0, hV0⟩ := calm_in W
      rw [← hV0]
      clear hV0
      go_upto_region 2 with fail
      obtain ⟨V1, hV1⟩ : ∃ V : Abv W, V.1 = V0.1.alloc (.cells #[.int .i64 3, .int .i64 2] 39) := ⟨⟨_, V0.2.alloc V0.2.size _⟩, rfl⟩
      obtain ⟨ga, hga⟩ : ∃ g, g = V0.1.heap.size := ⟨_, rfl⟩
      have LA : Lies V1.1 ga 39 #[.int .i64 3, .int .i64 2] := by rw [hV1, hga]; exact Lies.new _ _ _
      have a0 : V1.1.cell? ⟨ga, 0, none⟩ = some (.int .i64 3) := LA.cell 0
      have a1 : V1.1.cell? ⟨ga, 1, none⟩ = some (.int .i64 2) := LA.cell 1
      rw [← hV1, ← hga]
      clear hV1 hga LA V0
      go_wp2_with fail
      refine bodyPost_ret (res_plan2 (p := 4) (q := 5) Try.results32 rfl (lies_put10 (HR.out.below V1.2 HR.out.lt) _ _ _ _ _ _ _ _ _ _)) rfl ?_
      rw [HE.out]
      exact ⟨none, 0, rfl, PlOk.leaf rfl, put10_below (HB.out.trans (V1.2.mono HB.out.size)) (by omega) _ _ _ _ _ _ _ _ _ _⟩
    · have hl0 : (xl == yl) = false := by simpa using hl
      replace HE : Hid (PP = (Pl.zero, 140)) := Lib.hid (by rw [HE.out, if_pos ⟨.inl ⟨rfl, rfl⟩, hl⟩])
      clear hl
      go_enter Try.func32, Try.ntmps32
      go_upto_region 1 with fail
      rw [← hW]
      clear hW
      obtain ⟨V0, hV0⟩ := calm_in W
      rw [← hV0]
      clear hV0
      go_upto_region 2 with fail
      obtain ⟨V1, hV1⟩ : ∃ V : Abv W, V.1 = V0.1.alloc (.cells #[.int .i64 3, .int .i64 2] 39) := ⟨⟨_, V0.2.alloc V0.2.size _⟩, rfl⟩
      obtain ⟨ga, hga⟩ : ∃ g, g = V0.1.heap.size := ⟨_, rfl⟩
      have LA : Lies V1.1 ga 39 #[.int .i64 3, .int .i64 2] := by rw [hV1, hga]; exact Lies.new _ _ _
      have a0 : V1.1.cell? ⟨ga, 0, none⟩ = some (.int .i64 3) := LA.cell 0
      have a1 : V1.1.cell? ⟨ga, 1, none⟩ = some (.int .i64 2) := LA.cell 1
      rw [← hV1, ← hga]
      clear hV1 hga LA V0
      go_wp2_with fail
      refine bodyPost_ret (res_plan2 (p := 4) (q := 5) Try.results32 rfl (lies_put10 (HR.out.below V1.2 HR.out.lt) _ _ _ _ _ _ _ _ _ _)) rfl ?_
      rw [HE.out]
      exact ⟨none, 0, rfl, PlOk.leaf rfl, put10_below (HB.out.trans (V1.2.mono HB.out.size)) (by omega) _ _ _ _ _ _ _ _ _ _⟩
  · by_cases b2 : xk = 9 ∧ yk = 8
    · obtain ⟨rfl, rfl⟩ := b2
      by_cases hl : xl = yl
      · subst hl
        replace HE : Hid (PP = (PK, 0)) := Lib.hid (by rw [HE.out, if_neg (by simp), if_neg (by decide), if_pos ⟨rfl, rfl⟩])
        go_enter Try.func32, Try.ntmps32
        go_upto_region 1 with fail
        rw [← hW]
        clear hW
        obtain ⟨V0, hV0⟩ := calm_in W
        rw [← hV0]
        clear hV0
        go_upto_region 2 with fail
        obtain ⟨V1, hV1⟩ : ∃ V : Abv W, V.1 = V0.1.alloc (.cells #[.int .i64 9, .int .i64 8] 39) := ⟨⟨_, V0.2.alloc V0.2.size _⟩, rfl⟩
        obtain ⟨ga, hga⟩ : ∃ g, g = V0.1.heap.size := ⟨_, rfl⟩
        have LA : Lies V1.1 ga 39 #[.int .i64 9, .int .i64 8] := by rw [hV1, hga]; exact Lies.new _ _ _
        have a0 : V1.1.cell? ⟨ga, 0, none⟩ = some (.int .i64 9) := LA.cell 0
        have a1 : V1.1.cell? ⟨ga, 1, none⟩ = some (.int .i64 8) := LA.cell 1
        rw [← hV1, ← hga]
        clear hV1 hga LA V0
        go_wp2_with fail
        refine (HHK.out V1).mono ?_
        rintro e w5 ⟨C5, c5, rfl, hP5, hb5⟩
        have lr := (HR.out.below V1.2 HR.out.lt).below hb5 (Nat.lt_of_lt_of_le HR.out.lt V1.2.size)
        have hr9 := Nat.lt_of_lt_of_le HR.out.lt V1.2.size
        clear r0 r1 r2 r3 r4 r5 r6 r7 r8 r9 f0 f1 f2 f3 f4 f5 f6 f7 f8 f9
        obtain ⟨r0, r1, r2, r3, r4, r5, r6, r7, r8, r9⟩ := ten_cells lr
        obtain ⟨f0, f1, f2, f3, f4, f5, f6, f7, f8, f9⟩ := ten_frozen lr
        have HL := Lib.hid lr
        have HP5 := Lib.hid hP5
        have HB5 := Lib.hid hb5
        have HR9 := Lib.hid hr9
        clear lr hP5 hb5 hr9
        simp only [plv]
        go_wp2_with fail
        refine bodyPost_ret (res_plan2 (p := 4) (q := 5) Try.results32 rfl (lies_put10 HL.out _ _ _ _ _ _ _ _ _ _)) rfl ?_
        rw [HE.out]
        exact givesPl_put HP5.out (by omega) HR9.out (HB.out.trans (V1.2.mono HB.out.size)) HB5.out _ _ _ _ _ _ _ _ _ _
      · have hl0 : (xl == yl) = false := by simpa using hl
        replace HE : Hid (PP = (Pl.zero, 140)) := Lib.hid (by rw [HE.out, if_pos ⟨.inr ⟨rfl, rfl⟩, hl⟩])
        clear hl
        go_enter Try.func32, Try.ntmps32
        go_upto_region 1 with fail
        rw [← hW]
        clear hW
        obtain ⟨V0, hV0⟩ := calm_in W
        rw [← hV0]
        clear hV0
        go_upto_region 2 with fail
        obtain ⟨V1, hV1⟩ : ∃ V : Abv W, V.1 = V0.1.alloc (.cells #[.int .i64 9, .int .i64 8] 39) := ⟨⟨_, V0.2.alloc V0.2.size _⟩, rfl⟩
        obtain ⟨ga, hga⟩ : ∃ g, g = V0.1.heap.size := ⟨_, rfl⟩
        have LA : Lies V1.1 ga 39 #[.int .i64 9, .int .i64 8] := by rw [hV1, hga]; exact Lies.new _ _ _
        have a0 : V1.1.cell? ⟨ga, 0, none⟩ = some (.int .i64 9) := LA.cell 0
        have a1 : V1.1.cell? ⟨ga, 1, none⟩ = some (.int .i64 8) := LA.cell 1
        rw [← hV1, ← hga]
        clear hV1 hga LA V0
        go_wp2_with fail
        refine bodyPost_ret (res_plan2 (p := 4) (q := 5) Try.results32 rfl (lies_put10 (HR.out.below V1.2 HR.out.lt) _ _ _ _ _ _ _ _ _ _)) rfl ?_
        rw [HE.out]
        exact ⟨none, 0, rfl, PlOk.leaf rfl, put10_below (HB.out.trans (V1.2.mono HB.out.size)) (by omega) _ _ _ _ _ _ _ _ _ _⟩
    · by_cases b3 : xk = 11 ∧ yk = 10
      · obtain ⟨rfl, rfl⟩ := b3
        replace HE : Hid (PP = (Pl.one 3, 0)) := Lib.hid (by rw [HE.out, if_neg (by omega), if_neg (by omega), if_neg (by omega), if_pos ⟨rfl, rfl⟩])
        clear b1 b2
        go_enter Try.func32, Try.ntmps32
        go_upto_region 1 with fail
        rw [← hW]
        clear hW
        obtain ⟨V0, hV0⟩ := calm_in W
        rw [← hV0]
        clear hV0
        go_upto_region 2 with fail
        obtain ⟨V1, hV1⟩ : ∃ V : Abv W, V.1 = V0.1.alloc (.cells #[.int .i64 11, .int .i64 10] 39) := ⟨⟨_, V0.2.alloc V0.2.size _⟩, rfl⟩
        obtain ⟨ga, hga⟩ : ∃ g, g = V0.1.heap.size := ⟨_, rfl⟩
        have LA : Lies V1.1 ga 39 #[.int .i64 11, .int .i64 10] := by rw [hV1, hga]; exact Lies.new _ _ _
        have a0 : V1.1.cell? ⟨ga, 0, none⟩ = some (.int .i64 11) := LA.cell 0
        have a1 : V1.1.cell? ⟨ga, 1, none⟩ = some (.int .i64 10) := LA.cell 1
        rw [← hV1, ← hga]
        clear hV1 hga LA V0
        go_wp2_with fail
        refine bodyPost_ret (res_plan2 (p := 4) (q := 5) Try.results32 rfl (lies_put10 (HR.out.below V1.2 HR.out.lt) _ _ _ _ _ _ _ _ _ _)) rfl ?_
        rw [HE.out]
        exact ⟨none, 0, rfl, PlOk.leaf rfl, put10_below (HB.out.trans (V1.2.mono HB.out.size)) (by omega) _ _ _ _ _ _ _ _ _ _⟩
      · by_cases b4 : xk = 12 ∧ yk = 10
        · obtain ⟨rfl, rfl⟩ := b4
          replace HE : Hid (PP = (PO, 0)) := Lib.hid (by rw [HE.out, if_neg (by omega), if_neg (by omega), if_neg (by omega), if_neg (by omega), if_pos ⟨rfl, rfl⟩])
          clear b1 b2 b3
          go_enter Try.func32, Try.ntmps32
          go_upto_region 1 with fail
          rw [← hW]
          clear hW
          obtain ⟨V0, hV0⟩ := calm_in W
          rw [← hV0]
          clear hV0
          go_upto_region 2 with fail
          obtain ⟨V1, hV1⟩ : ∃ V : Abv W, V.1 = V0.1.alloc (.cells #[.int .i64 12, .int .i64 10] 39) := ⟨⟨_, V0.2.alloc V0.2.size _⟩, rfl⟩
          obtain ⟨ga, hga⟩ : ∃ g, g = V0.1.heap.size := ⟨_, rfl⟩
          have LA : Lies V1.1 ga 39 #[.int .i64 12, .int .i64 10] := by rw [hV1, hga]; exact Lies.new _ _ _
          have a0 : V1.1.cell? ⟨ga, 0, none⟩ = some (.int .i64 12) := LA.cell 0
          have a1 : V1.1.cell? ⟨ga, 1, none⟩ = some (.int .i64 10) := LA.cell 1
          rw [← hV1, ← hga]
          clear hV1 hga LA V0
          go_wp2_with fail
          refine (HHO.out V1).mono ?_
          rintro e w5 ⟨C5, c5, rfl, hP5, hb5⟩
          have lr := (HR.out.below V1.2 HR.out.lt).below hb5 (Nat.lt_of_lt_of_le HR.out.lt V1.2.size)
          have hr9 := Nat.lt_of_lt_of_le HR.out.lt V1.2.size
          clear r0 r1 r2 r3 r4 r5 r6 r7 r8 r9 f0 f1 f2 f3 f4 f5 f6 f7 f8 f9
          obtain ⟨r0, r1, r2, r3, r4, r5, r6, r7, r8, r9⟩ := ten_cells lr
          obtain ⟨f0, f1, f2, f3, f4, f5, f6, f7, f8, f9⟩ := ten_frozen lr
          have HL := Lib.hid lr
          have HP5 := Lib.hid hP5
          have HB5 := Lib.hid hb5
          have HR9 := Lib.hid hr9
          clear lr hP5 hb5 hr9
          simp only [plv]
          go_wp2_with fail
          refine bodyPost_ret (res_plan2 (p := 4) (q := 5) Try.results32 rfl (lies_put10 HL.out _ _ _ _ _ _ _ _ _ _)) rfl ?_
          rw [HE.out]
          exact givesPl_put HP5.out (by omega) HR9.out (HB.out.trans (V1.2.mono HB.out.size)) HB5.out _ _ _ _ _ _ _ _ _ _
        · replace HE : Hid (PP = (Pl.one 5, 0)) := Lib.hid (by rw [HE.out, if_neg (by omega), if_neg b1, if_neg b2, if_neg b3, if_neg b4])
          have q1 : ((xk, yk) == ((3 : Int), (2 : Int))) = false := by rw [beq_eq_false_iff_ne]; intro e; injection e with e e'; exact b1 ⟨e, e'⟩
          have q2 : ((xk, yk) == ((9 : Int), (8 : Int))) = false := by rw [beq_eq_false_iff_ne]; intro e; injection e with e e'; exact b2 ⟨e, e'⟩
          have q3 : ((xk, yk) == ((11 : Int), (10 : Int))) = false := by rw [beq_eq_false_iff_ne]; intro e; injection e with e e'; exact b3 ⟨e, e'⟩
          have q4 : ((xk, yk) == ((12 : Int), (10 : Int))) = false := by rw [beq_eq_false_iff_ne]; intro e; injection e with e e'; exact b4 ⟨e, e'⟩
          have p1 := fun U => (hq xk yk 3 2 U).trans (by rw [q1])
          have p2 := fun U => (hq xk yk 9 8 U).trans (by rw [q2])
          have p3 := fun U => (hq xk yk 11 10 U).trans (by rw [q3])
          have p4 := fun U => (hq xk yk 12 10 U).trans (by rw [q4])
          clear b1 b2 b3 b4 q1 q2 q3 q4 hq
          go_enter Try.func32, Try.ntmps32
          go_upto_region 1 with fail
          rw [← hW]
          clear hW
          obtain ⟨V0, hV0⟩ := calm_in W
          rw [← hV0]
          clear hV0
          go_upto_region 2 with fail
          obtain ⟨V1, hV1⟩ : ∃ V : Abv W, V.1 = V0.1.alloc (.cells #[.int .i64 xk, .int .i64 yk] 39) := ⟨⟨_, V0.2.alloc V0.2.size _⟩, rfl⟩
          obtain ⟨ga, hga⟩ : ∃ g, g = V0.1.heap.size := ⟨_, rfl⟩
          have LA : Lies V1.1 ga 39 #[.int .i64 xk, .int .i64 yk] := by rw [hV1, hga]; exact Lies.new _ _ _
          have a0 : V1.1.cell? ⟨ga, 0, none⟩ = some (.int .i64 xk) := LA.cell 0
          have a1 : V1.1.cell? ⟨ga, 1, none⟩ = some (.int .i64 yk) := LA.cell 1
          rw [← hV1, ← hga]
          clear hV1 hga LA V0
          go_wp2_with fail
          refine bodyPost_ret (res_plan2 (p := 4) (q := 5) Try.results32 rfl (lies_put10 (HR.out.below V1.2 HR.out.lt) _ _ _ _ _ _ _ _ _ _)) rfl ?_
          rw [HE.out]
          exact ⟨none, 0, rfl, PlOk.leaf rfl, put10_below (HB.out.trans (V1.2.mono HB.out.size)) (by omega) _ _ _ _ _ _ _ _ _ _⟩
end Lx
end Go.Proofs.Ytlamjjkcbadibaa
namespace Go.Proofs.Ytlamjjkcbadibaa
open Go Go.RowKit
namespace Lx
set_option maxRecDepth 100000
set_option maxHeartbeats 8000000 in
theorem ruplan_any (x y : Nd) (Bx Cx : Option Addr) (bx cx : Nat) (By Cy : Option Addr) (by_ cy : Nat) (w : World) (hI : NdIn w AnyB x Bx Cx) (hJ : NdIn w AnyB y By Cy) :
    Calls Try.prog 23 #[ndv x Bx bx Cx cx, ndv y By by_ Cy cy] w (GivesPl (planV x y).1 (planV x y).2 w) := by
  have HP := Lib.hid (fun (U : World) (_ : Below w.heap.size w U) => rupass_any x y Bx Cx bx cx By Cy by_ cy U)
  have HA := Lib.hid (fun (U : World) (hU : Below w.heap.size w U) => ruanswer_any x y Bx Cx bx cx By Cy by_ cy U (hI.below hU (Nat.le_refl _)) (hJ.below hU (Nat.le_refl _)))
  have HE : Hid (planV x y = if roleV x.kind = 1 then (Pl.one 8, 0) else if roleV x.kind = 2 ∧ x.level < y.level then passV x y
    else if roleV x.kind = 2 ∧ x.level = y.level ∧ x.kind = y.kind then (Pl.one 6, 0)
    else if roleV x.kind = 3 ∧ roleV y.kind = 4 then answerV x y else (Pl.zero, 140)) := Lib.hid rfl
  obtain ⟨QP, hQP⟩ : ∃ q, q = passV x y := ⟨_, rfl⟩
  obtain ⟨QA, hQA⟩ : ∃ q, q = answerV x y := ⟨_, rfl⟩
  obtain ⟨PP, hPP⟩ : ∃ q, q = planV x y := ⟨_, rfl⟩
  rw [← hQP] at HP HE
  rw [← hQA] at HA HE
  rw [← hPP] at HE ⊢
  clear hQP hQA hPP hI hJ
  unfold ndv at HA ⊢
  obtain ⟨W, hW⟩ : ∃ W, W = (((w.alloc (.cells #[.int .i64 x.kind, .int .i64 x.level, .int .i64 x.n, .string x.name, .slice Bx x.alts.length (capN x.alts.length bx), .slice Cx x.to.length (capN x.to.length cx)] 25)).alloc (.cells #[.int .i64 y.kind, .int .i64 y.level, .int .i64 y.n, .string y.name, .slice By y.alts.length (capN y.alts.length by_), .slice Cy y.to.length (capN y.to.length cy)] 25)).alloc (.cells #[.int .i64 0, .bool false, .int .i64 0, .int .i64 0, .int .i64 0, .int .i64 0, .int .i64 0, .string ⟨#[]⟩, .slice none 0 0, .slice none 0 0] 29)) := ⟨_, rfl⟩
  have hbW : Below w.heap.size w W := by rw [hW]; exact ((((Below.refl _ w).alloc (Nat.le_refl _) _).alloc (by simp) _).alloc (by simp; omega) _)
  have L0 : Lies W (w.heap.size) 25 #[.int .i64 x.kind, .int .i64 x.level, .int .i64 x.n, .string x.name, .slice Bx x.alts.length (capN x.alts.length bx), .slice Cx x.to.length (capN x.to.length cx)] := by
    rw [hW]
    refine Lies.old ?_ _
    refine Lies.old ?_ _
    exact Lies.new _ _ _
  have L1 : Lies W (w.heap.size + 1) 25 #[.int .i64 y.kind, .int .i64 y.level, .int .i64 y.n, .string y.name, .slice By y.alts.length (capN y.alts.length by_), .slice Cy y.to.length (capN y.to.length cy)] := by
    rw [hW]
    refine Lies.old ?_ _
    simpa using Lies.new (w.alloc (.cells #[.int .i64 x.kind, .int .i64 x.level, .int .i64 x.n, .string x.name, .slice Bx x.alts.length (capN x.alts.length bx), .slice Cx x.to.length (capN x.to.length cx)] 25)) 25 #[.int .i64 y.kind, .int .i64 y.level, .int .i64 y.n, .string y.name, .slice By y.alts.length (capN y.alts.length by_), .slice Cy y.to.length (capN y.to.length cy)]
  have L2 : Lies W (w.heap.size + 1 + 1) 29 #[.int .i64 0, .bool false, .int .i64 0, .int .i64 0, .int .i64 0, .int .i64 0, .int .i64 0, .string ⟨#[]⟩, .slice none 0 0, .slice none 0 0] := by
    rw [hW]
    simpa using Lies.new ((w.alloc (.cells #[.int .i64 x.kind, .int .i64 x.level, .int .i64 x.n, .string x.name, .slice Bx x.alts.length (capN x.alts.length bx), .slice Cx x.to.length (capN x.to.length cx)] 25)).alloc (.cells #[.int .i64 y.kind, .int .i64 y.level, .int .i64 y.n, .string y.name, .slice By y.alts.length (capN y.alts.length by_), .slice Cy y.to.length (capN y.to.length cy)] 25)) 29 #[.int .i64 0, .bool false, .int .i64 0, .int .i64 0, .int .i64 0, .int .i64 0, .int .i64 0, .string ⟨#[]⟩, .slice none 0 0, .slice none 0 0]
  obtain ⟨x0, x1, x2, x3, x4, x5⟩ := six_cells L0
  replace x0 := Abv.cell x0
  replace x1 := Abv.cell x1
  replace x2 := Abv.cell x2
  replace x3 := Abv.cell x3
  replace x4 := Abv.cell x4
  replace x5 := Abv.cell x5
  obtain ⟨y0, y1, y2, y3, y4, y5⟩ := six_cells L1
  replace y0 := Abv.cell y0
  replace y1 := Abv.cell y1
  replace y2 := Abv.cell y2
  replace y3 := Abv.cell y3
  replace y4 := Abv.cell y4
  replace y5 := Abv.cell y5
  obtain ⟨r0, r1, r2, r3, r4, r5, r6, r7, r8, r9⟩ := ten_cells L2
  replace r0 := Abv.cell r0
  replace r1 := Abv.cell r1
  replace r2 := Abv.cell r2
  replace r3 := Abv.cell r3
  replace r4 := Abv.cell r4
  replace r5 := Abv.cell r5
  replace r6 := Abv.cell r6
  replace r7 := Abv.cell r7
  replace r8 := Abv.cell r8
  replace r9 := Abv.cell r9
  have HR := Lib.hid L2
  obtain ⟨f0, f1, f2, f3, f4, f5, f6, f7, f8, f9⟩ := ten_frozen L2
  replace f0 := Abv.unfrozen L2.lt f0
  replace f1 := Abv.unfrozen L2.lt f1
  replace f2 := Abv.unfrozen L2.lt f2
  replace f3 := Abv.unfrozen L2.lt f3
  replace f4 := Abv.unfrozen L2.lt f4
  replace f5 := Abv.unfrozen L2.lt f5
  replace f6 := Abv.unfrozen L2.lt f6
  replace f7 := Abv.unfrozen L2.lt f7
  replace f8 := Abv.unfrozen L2.lt f8
  replace f9 := Abv.unfrozen L2.lt f9
  have HB := Lib.hid hbW
  clear L0 L1 L2 hbW
  have HPV := Lib.hid (fun V : Abv W => HP.out V.1 (HB.out.trans (V.2.mono HB.out.size)))
  have HAV := Lib.hid (fun V : Abv W => HA.out V.1 (HB.out.trans (V.2.mono HB.out.size)))
  clear HP HA
  have HX := fun V : Abv W => calm_all (fun U => rurole_any x Bx Cx bx cx U) V
  have HY := fun V : Abv W => calm_all (fun U => rurole_any y By Cy by_ cy U) V
  unfold ndv at HX HY
  have hrc := role_cases x.kind
  obtain ⟨rx, hrx⟩ : ∃ r, r = roleV x.kind := ⟨_, rfl⟩
  obtain ⟨ry, hry⟩ : ∃ r, r = roleV y.kind := ⟨_, rfl⟩
  rw [← hrx] at HX HE hrc
  rw [← hry] at HY HE
  clear hrx hry
  rcases hrc with rfl | rfl | rfl | rfl | rfl
  · replace HE : Hid (PP = (Pl.zero, 140)) := Lib.hid (by rw [HE.out, if_neg (by decide), if_neg (by omega), if_neg (by omega), if_neg (by omega)])
    go_enter Try.func23, Try.ntmps23
    go_upto_region 1 with fail
    rw [← hW]
    clear hW
    obtain ⟨V0, hV0⟩ := calm_in W
    rw [← hV0]
    clear hV0
    go_wp2_with fail
    refine (HX _).mono ?_
    rintro e _ ⟨rfl, V1, rfl⟩
    go_wp2_with fail
    refine (HX _).mono ?_
    rintro e _ ⟨rfl, V2, rfl⟩
    go_wp2_with fail
    refine (HX _).mono ?_
    rintro e _ ⟨rfl, V3, rfl⟩
    go_wp2_with fail
    refine (HX _).mono ?_
    rintro e _ ⟨rfl, V4, rfl⟩
    go_wp2_with fail
    refine bodyPost_ret (res_plan2 (p := 4) (q := 5) Try.results23 rfl (lies_put10 (HR.out.below V4.2 HR.out.lt) _ _ _ _ _ _ _ _ _ _)) rfl ?_
    rw [HE.out]
    exact ⟨none, 0, rfl, PlOk.leaf rfl, put10_below (HB.out.trans (V4.2.mono HB.out.size)) (by omega) _ _ _ _ _ _ _ _ _ _⟩
  · replace HE : Hid (PP = (Pl.one 8, 0)) := Lib.hid (by rw [HE.out, if_pos rfl])
    go_enter Try.func23, Try.ntmps23
    go_upto_region 1 with fail
    rw [← hW]
    clear hW
    obtain ⟨V0, hV0⟩ := calm_in W
    rw [← hV0]
    clear hV0
    go_wp2_with fail
    refine (HX _).mono ?_
    rintro e _ ⟨rfl, V1, rfl⟩
    go_wp2_with fail
    refine bodyPost_ret (res_plan2 (p := 4) (q := 5) Try.results23 rfl (lies_put10 (HR.out.below V1.2 HR.out.lt) _ _ _ _ _ _ _ _ _ _)) rfl ?_
    rw [HE.out]
    exact ⟨none, 0, rfl, PlOk.leaf rfl, put10_below (HB.out.trans (V1.2.mono HB.out.size)) (by omega) _ _ _ _ _ _ _ _ _ _⟩
  · by_cases h1 : x.level < y.level
    · replace HE : Hid (PP = QP) := Lib.hid (by rw [HE.out, if_neg (by decide), if_pos ⟨rfl, h1⟩])
      have d1 : decide (x.level < y.level) = true := decide_eq_true h1
      go_enter Try.func23, Try.ntmps23
      go_upto_region 1 with fail
      rw [← hW]
      clear hW
      obtain ⟨V0, hV0⟩ := calm_in W
      rw [← hV0]
      clear hV0
      go_wp2_with fail
      refine (HX _).mono ?_
      rintro e _ ⟨rfl, V1, rfl⟩
      go_wp2_with fail
      refine (HX _).mono ?_
      rintro e _ ⟨rfl, V2, rfl⟩
      go_wp2_with fail
      refine (HPV.out V2).mono ?_
      rintro e w5 ⟨C5, c5, rfl, hP5, hb5⟩
      have lr := (HR.out.below V2.2 HR.out.lt).below hb5 (Nat.lt_of_lt_of_le HR.out.lt V2.2.size)
      have hr9 := Nat.lt_of_lt_of_le HR.out.lt V2.2.size
      clear r0 r1 r2 r3 r4 r5 r6 r7 r8 r9 f0 f1 f2 f3 f4 f5 f6 f7 f8 f9
      obtain ⟨r0, r1, r2, r3, r4, r5, r6, r7, r8, r9⟩ := ten_cells lr
      obtain ⟨f0, f1, f2, f3, f4, f5, f6, f7, f8, f9⟩ := ten_frozen lr
      have HL := Lib.hid lr
      have HP5 := Lib.hid hP5
      have HB5 := Lib.hid hb5
      have HR9 := Lib.hid hr9
      clear lr hP5 hb5 hr9
      simp only [plv]
      go_wp2_with fail
      refine bodyPost_ret (res_plan2 (p := 4) (q := 5) Try.results23 rfl (lies_put10 HL.out _ _ _ _ _ _ _ _ _ _)) rfl ?_
      rw [HE.out]
      exact givesPl_put HP5.out (by omega) HR9.out (HB.out.trans (V2.2.mono HB.out.size)) HB5.out _ _ _ _ _ _ _ _ _ _
    · have d1 : decide (x.level < y.level) = false := decide_eq_false h1
      by_cases h2 : x.level = y.level
      · have d2 : (x.level == y.level) = true := by simpa using h2
        by_cases h3 : x.kind = y.kind
        · have d3 : (x.kind == y.kind) = true := by simpa using h3
          replace HE : Hid (PP = (Pl.one 6, 0)) := Lib.hid (by rw [HE.out, if_neg (by decide), if_neg (by omega), if_pos ⟨rfl, h2, h3⟩])
          clear h1 h2 h3
          go_enter Try.func23, Try.ntmps23
          go_upto_region 1 with fail
          rw [← hW]
          clear hW
          obtain ⟨V0, hV0⟩ := calm_in W
          rw [← hV0]
          clear hV0
          go_wp2_with fail
          refine (HX _).mono ?_
          rintro e _ ⟨rfl, V1, rfl⟩
          go_wp2_with fail
          refine (HX _).mono ?_
          rintro e _ ⟨rfl, V2, rfl⟩
          go_wp2_with fail
          refine (HX _).mono ?_
          rintro e _ ⟨rfl, V3, rfl⟩
          go_wp2_with fail
          refine bodyPost_ret (res_plan2 (p := 4) (q := 5) Try.results23 rfl (lies_put10 (HR.out.below V3.2 HR.out.lt) _ _ _ _ _ _ _ _ _ _)) rfl ?_
          rw [HE.out]
          exact ⟨none, 0, rfl, PlOk.leaf rfl, put10_below (HB.out.trans (V3.2.mono HB.out.size)) (by omega) _ _ _ _ _ _ _ _ _ _⟩
        · have d3 : (x.kind == y.kind) = false := by simpa using h3
          replace HE : Hid (PP = (Pl.zero, 140)) := Lib.hid (by rw [HE.out, if_neg (by decide), if_neg (by omega), if_neg (fun e => h3 e.2.2), if_neg (by omega)])
          clear h1 h2 h3
          go_enter Try.func23, Try.ntmps23
          go_upto_region 1 with fail
          rw [← hW]
          clear hW
          obtain ⟨V0, hV0⟩ := calm_in W
          rw [← hV0]
          clear hV0
          go_wp2_with fail
          refine (HX _).mono ?_
          rintro e _ ⟨rfl, V1, rfl⟩
          go_wp2_with fail
          refine (HX _).mono ?_
          rintro e _ ⟨rfl, V2, rfl⟩
          go_wp2_with fail
          refine (HX _).mono ?_
          rintro e _ ⟨rfl, V3, rfl⟩
          go_wp2_with fail
          refine (HX _).mono ?_
          rintro e _ ⟨rfl, V4, rfl⟩
          go_wp2_with fail
          refine bodyPost_ret (res_plan2 (p := 4) (q := 5) Try.results23 rfl (lies_put10 (HR.out.below V4.2 HR.out.lt) _ _ _ _ _ _ _ _ _ _)) rfl ?_
          rw [HE.out]
          exact ⟨none, 0, rfl, PlOk.leaf rfl, put10_below (HB.out.trans (V4.2.mono HB.out.size)) (by omega) _ _ _ _ _ _ _ _ _ _⟩
      · have d2 : (x.level == y.level) = false := by simpa using h2
        replace HE : Hid (PP = (Pl.zero, 140)) := Lib.hid (by rw [HE.out, if_neg (by decide), if_neg (by omega), if_neg (fun e => h2 e.2.1), if_neg (by omega)])
        clear h1 h2
        go_enter Try.func23, Try.ntmps23
        go_upto_region 1 with fail
        rw [← hW]
        clear hW
        obtain ⟨V0, hV0⟩ := calm_in W
        rw [← hV0]
        clear hV0
        go_wp2_with fail
        refine (HX _).mono ?_
        rintro e _ ⟨rfl, V1, rfl⟩
        go_wp2_with fail
        refine (HX _).mono ?_
        rintro e _ ⟨rfl, V2, rfl⟩
        go_wp2_with fail
        refine (HX _).mono ?_
        rintro e _ ⟨rfl, V3, rfl⟩
        go_wp2_with fail
        refine (HX _).mono ?_
        rintro e _ ⟨rfl, V4, rfl⟩
        go_wp2_with fail
        refine bodyPost_ret (res_plan2 (p := 4) (q := 5) Try.results23 rfl (lies_put10 (HR.out.below V4.2 HR.out.lt) _ _ _ _ _ _ _ _ _ _)) rfl ?_
        rw [HE.out]
        exact ⟨none, 0, rfl, PlOk.leaf rfl, put10_below (HB.out.trans (V4.2.mono HB.out.size)) (by omega) _ _ _ _ _ _ _ _ _ _⟩
  · by_cases h1 : ry = 4
    · subst h1
      replace HE : Hid (PP = QA) := Lib.hid (by rw [HE.out, if_neg (by decide), if_neg (by omega), if_neg (by omega), if_pos ⟨rfl, rfl⟩])
      go_enter Try.func23, Try.ntmps23
      go_upto_region 1 with fail
      rw [← hW]
      clear hW
      obtain ⟨V0, hV0⟩ := calm_in W
      rw [← hV0]
      clear hV0
      go_wp2_with fail
      refine (HX _).mono ?_
      rintro e _ ⟨rfl, V1, rfl⟩
      go_wp2_with fail
      refine (HX _).mono ?_
      rintro e _ ⟨rfl, V2, rfl⟩
      go_wp2_with fail
      refine (HX _).mono ?_
      rintro e _ ⟨rfl, V3, rfl⟩
      go_wp2_with fail
      refine (HX _).mono ?_
      rintro e _ ⟨rfl, V4, rfl⟩
      go_wp2_with fail
      refine (HY _).mono ?_
      rintro e _ ⟨rfl, V5, rfl⟩
      go_wp2_with fail
      refine (HAV.out V5).mono ?_
      rintro e w5 ⟨C5, c5, rfl, hP5, hb5⟩
      have lr := (HR.out.below V5.2 HR.out.lt).below hb5 (Nat.lt_of_lt_of_le HR.out.lt V5.2.size)
      have hr9 := Nat.lt_of_lt_of_le HR.out.lt V5.2.size
      clear r0 r1 r2 r3 r4 r5 r6 r7 r8 r9 f0 f1 f2 f3 f4 f5 f6 f7 f8 f9
      obtain ⟨r0, r1, r2, r3, r4, r5, r6, r7, r8, r9⟩ := ten_cells lr
      obtain ⟨f0, f1, f2, f3, f4, f5, f6, f7, f8, f9⟩ := ten_frozen lr
      have HL := Lib.hid lr
      have HP5 := Lib.hid hP5
      have HB5 := Lib.hid hb5
      have HR9 := Lib.hid hr9
      clear lr hP5 hb5 hr9
      simp only [plv]
      go_wp2_with fail
      refine bodyPost_ret (res_plan2 (p := 4) (q := 5) Try.results23 rfl (lies_put10 HL.out _ _ _ _ _ _ _ _ _ _)) rfl ?_
      rw [HE.out]
      exact givesPl_put HP5.out (by omega) HR9.out (HB.out.trans (V5.2.mono HB.out.size)) HB5.out _ _ _ _ _ _ _ _ _ _
    · have d1 : (ry == 4) = false := by simpa using h1
      replace HE : Hid (PP = (Pl.zero, 140)) := Lib.hid (by rw [HE.out, if_neg (by decide), if_neg (by omega), if_neg (by omega), if_neg (fun e => h1 e.2)])
      clear h1
      go_enter Try.func23, Try.ntmps23
      go_upto_region 1 with fail
      rw [← hW]
      clear hW
      obtain ⟨V0, hV0⟩ := calm_in W
      rw [← hV0]
      clear hV0
      go_wp2_with fail
      refine (HX _).mono ?_
      rintro e _ ⟨rfl, V1, rfl⟩
      go_wp2_with fail
      refine (HX _).mono ?_
      rintro e _ ⟨rfl, V2, rfl⟩
      go_wp2_with fail
      refine (HX _).mono ?_
      rintro e _ ⟨rfl, V3, rfl⟩
      go_wp2_with fail
      refine (HX _).mono ?_
      rintro e _ ⟨rfl, V4, rfl⟩
      go_wp2_with fail
      refine (HY _).mono ?_
      rintro e _ ⟨rfl, V5, rfl⟩
      go_wp2_with fail
      refine bodyPost_ret (res_plan2 (p := 4) (q := 5) Try.results23 rfl (lies_put10 (HR.out.below V5.2 HR.out.lt) _ _ _ _ _ _ _ _ _ _)) rfl ?_
      rw [HE.out]
      exact ⟨none, 0, rfl, PlOk.leaf rfl, put10_below (HB.out.trans (V5.2.mono HB.out.size)) (by omega) _ _ _ _ _ _ _ _ _ _⟩
  · replace HE : Hid (PP = (Pl.zero, 140)) := Lib.hid (by rw [HE.out, if_neg (by decide), if_neg (by omega), if_neg (by omega), if_neg (by omega)])
    go_enter Try.func23, Try.ntmps23
    go_upto_region 1 with fail
    rw [← hW]
    clear hW
    obtain ⟨V0, hV0⟩ := calm_in W
    rw [← hV0]
    clear hV0
    go_wp2_with fail
    refine (HX _).mono ?_
    rintro e _ ⟨rfl, V1, rfl⟩
    go_wp2_with fail
    refine (HX _).mono ?_
    rintro e _ ⟨rfl, V2, rfl⟩
    go_wp2_with fail
    refine (HX _).mono ?_
    rintro e _ ⟨rfl, V3, rfl⟩
    go_wp2_with fail
    refine (HX _).mono ?_
    rintro e _ ⟨rfl, V4, rfl⟩
    go_wp2_with fail
    refine bodyPost_ret (res_plan2 (p := 4) (q := 5) Try.results23 rfl (lies_put10 (HR.out.below V4.2 HR.out.lt) _ _ _ _ _ _ _ _ _ _)) rfl ?_
    rw [HE.out]
    exact ⟨none, 0, rfl, PlOk.leaf rfl, put10_below (HB.out.trans (V4.2.mono HB.out.size)) (by omega) _ _ _ _ _ _ _ _ _ _⟩
end Lx
end Go.Proofs.Ytlamjjkcbadibaa
namespace Go.Proofs.Ytlamjjkcbadibaa
open Go Go.RowKit
namespace Lx
set_option maxRecDepth 100000
set_option maxHeartbeats 8000000 in
theorem ruof_any (x y : Nd) (Bx Cx : Option Addr) (bx cx : Nat) (By Cy : Option Addr) (by_ cy : Nat) (w : World) (hI : NdIn w AnyB x Bx Cx) (hJ : NdIn w AnyB y By Cy) :
    Calls Try.prog 11 #[ndv x Bx bx Cx cx, ndv y By by_ Cy cy] w (GivesPl (ofN x y).1 (ofN x y).2 w) := by
  have HP1 := Lib.hid (fun (U : World) (hU : Below w.heap.size w U) => ruplan_any x y Bx Cx bx cx By Cy by_ cy U (hI.below hU (Nat.le_refl _)) (hJ.below hU (Nat.le_refl _)))
  have HP2 := Lib.hid (fun (U : World) (hU : Below w.heap.size w U) => ruplan_any y x By Cy by_ cy Bx Cx bx cx U (hJ.below hU (Nat.le_refl _)) (hI.below hU (Nat.le_refl _)))
  have HE : Hid (ofN x y = let s := aheadV y x; let r := planV (xOf s x y) (xOf s y x); ({ r.1 with swap := s && decide (r.2 = 0) }, r.2)) := Lib.hid rfl
  obtain ⟨Q1, hQ1⟩ : ∃ q, q = planV x y := ⟨_, rfl⟩
  obtain ⟨Q2, hQ2⟩ : ∃ q, q = planV y x := ⟨_, rfl⟩
  obtain ⟨PP, hPP⟩ : ∃ q, q = ofN x y := ⟨_, rfl⟩
  rw [← hQ1] at HP1
  rw [← hQ2] at HP2
  rw [← hPP] at HE ⊢
  unfold ndv at HP1 HP2 ⊢
  obtain ⟨W, hW⟩ : ∃ W, W = (((w.alloc (.cells #[.int .i64 x.kind, .int .i64 x.level, .int .i64 x.n, .string x.name, .slice Bx x.alts.length (capN x.alts.length bx), .slice Cx x.to.length (capN x.to.length cx)] 25)).alloc (.cells #[.int .i64 y.kind, .int .i64 y.level, .int .i64 y.n, .string y.name, .slice By y.alts.length (capN y.alts.length by_), .slice Cy y.to.length (capN y.to.length cy)] 25)).alloc (.cells #[.int .i64 0, .bool false, .int .i64 0, .int .i64 0, .int .i64 0, .int .i64 0, .int .i64 0, .string ⟨#[]⟩, .slice none 0 0, .slice none 0 0] 29)) := ⟨_, rfl⟩
  have hbW : Below w.heap.size w W := by rw [hW]; exact ((((Below.refl _ w).alloc (Nat.le_refl _) _).alloc (by simp) _).alloc (by simp; omega) _)
  have L0 : Lies W (w.heap.size) 25 #[.int .i64 x.kind, .int .i64 x.level, .int .i64 x.n, .string x.name, .slice Bx x.alts.length (capN x.alts.length bx), .slice Cx x.to.length (capN x.to.length cx)] := by
    rw [hW]
    refine Lies.old ?_ _
    refine Lies.old ?_ _
    exact Lies.new _ _ _
  have L1 : Lies W (w.heap.size + 1) 25 #[.int .i64 y.kind, .int .i64 y.level, .int .i64 y.n, .string y.name, .slice By y.alts.length (capN y.alts.length by_), .slice Cy y.to.length (capN y.to.length cy)] := by
    rw [hW]
    refine Lies.old ?_ _
    simpa using Lies.new (w.alloc (.cells #[.int .i64 x.kind, .int .i64 x.level, .int .i64 x.n, .string x.name, .slice Bx x.alts.length (capN x.alts.length bx), .slice Cx x.to.length (capN x.to.length cx)] 25)) 25 #[.int .i64 y.kind, .int .i64 y.level, .int .i64 y.n, .string y.name, .slice By y.alts.length (capN y.alts.length by_), .slice Cy y.to.length (capN y.to.length cy)]
  have L2 : Lies W (w.heap.size + 1 + 1) 29 #[.int .i64 0, .bool false, .int .i64 0, .int .i64 0, .int .i64 0, .int .i64 0, .int .i64 0, .string ⟨#[]⟩, .slice none 0 0, .slice none 0 0] := by
    rw [hW]
    simpa using Lies.new ((w.alloc (.cells #[.int .i64 x.kind, .int .i64 x.level, .int .i64 x.n, .string x.name, .slice Bx x.alts.length (capN x.alts.length bx), .slice Cx x.to.length (capN x.to.length cx)] 25)).alloc (.cells #[.int .i64 y.kind, .int .i64 y.level, .int .i64 y.n, .string y.name, .slice By y.alts.length (capN y.alts.length by_), .slice Cy y.to.length (capN y.to.length cy)] 25)) 29 #[.int .i64 0, .bool false, .int .i64 0, .int .i64 0, .int .i64 0, .int .i64 0, .int .i64 0, .string ⟨#[]⟩, .slice none 0 0, .slice none 0 0]
  obtain ⟨x0, x1, x2, x3, x4, x5⟩ := six_cells L0
  replace x0 := Abv.cell x0
  replace x1 := Abv.cell x1
  replace x2 := Abv.cell x2
  replace x3 := Abv.cell x3
  replace x4 := Abv.cell x4
  replace x5 := Abv.cell x5
  obtain ⟨y0, y1, y2, y3, y4, y5⟩ := six_cells L1
  replace y0 := Abv.cell y0
  replace y1 := Abv.cell y1
  replace y2 := Abv.cell y2
  replace y3 := Abv.cell y3
  replace y4 := Abv.cell y4
  replace y5 := Abv.cell y5
  obtain ⟨r0, r1, r2, r3, r4, r5, r6, r7, r8, r9⟩ := ten_cells L2
  replace r0 := Abv.cell r0
  replace r1 := Abv.cell r1
  replace r2 := Abv.cell r2
  replace r3 := Abv.cell r3
  replace r4 := Abv.cell r4
  replace r5 := Abv.cell r5
  replace r6 := Abv.cell r6
  replace r7 := Abv.cell r7
  replace r8 := Abv.cell r8
  replace r9 := Abv.cell r9
  have HR := Lib.hid L2
  obtain ⟨f0, f1, f2, f3, f4, f5, f6, f7, f8, f9⟩ := ten_frozen L2
  replace f0 := Abv.unfrozen L2.lt f0
  replace f1 := Abv.unfrozen L2.lt f1
  replace f2 := Abv.unfrozen L2.lt f2
  replace f3 := Abv.unfrozen L2.lt f3
  replace f4 := Abv.unfrozen L2.lt f4
  replace f5 := Abv.unfrozen L2.lt f5
  replace f6 := Abv.unfrozen L2.lt f6
  replace f7 := Abv.unfrozen L2.lt f7
  replace f8 := Abv.unfrozen L2.lt f8
  replace f9 := Abv.unfrozen L2.lt f9
  have HB := Lib.hid hbW
  clear L0 L1 L2 hbW
  have HA := fun V : Abv W => calm_all (fun U => ruahead_any y x By Cy by_ cy Bx Cx bx cx U) V
  have HN := fun (s : Bool) (V : Abv W) => calm_all (fun U => runamed_any s x.kind x.level x.n y.kind y.level y.n x.name y.name Bx Cx By Cy x.alts.length (capN x.alts.length bx) x.to.length (capN x.to.length cx) y.alts.length (capN y.alts.length by_) y.to.length (capN y.to.length cy) U) V
  unfold ndsel at HN
  cases hS : aheadV y x with
  | true =>
    rw [hS] at HA
    replace HE : Hid (PP = ({ Q2.1 with swap := decide (Q2.2 = 0) }, Q2.2)) := Lib.hid (by rw [HE.out, hS, hQ2]; rfl)
    have HNT := HN true
    simp only [if_true] at HNT
    clear hQ1 hQ2 hPP hI hJ HN hS HP1 Q1
    go_enter Try.func11, Try.ntmps11
    go_upto_region 1 with fail
    rw [← hW]
    clear hW
    obtain ⟨V0, hV0⟩ := calm_in W
    rw [← hV0]
    clear hV0
    go_wp2_with fail
    refine (HA _).mono ?_
    rintro e _ ⟨rfl, V1, rfl⟩
    go_wp2_with fail
    refine (HNT _).mono ?_
    rintro e _ ⟨rfl, V2, rfl⟩
    go_upto_region 3 with fail
    obtain ⟨V3, hV3⟩ : ∃ V : Abv W, V.1 = ((V2.1.alloc (.cells #[.int .i64 y.kind, .int .i64 y.level, .int .i64 y.n, .string y.name, .slice By y.alts.length (capN y.alts.length by_), .slice Cy y.to.length (capN y.to.length cy)] 25)).alloc (.cells #[.int .i64 x.kind, .int .i64 x.level, .int .i64 x.n, .string x.name, .slice Bx x.alts.length (capN x.alts.length bx), .slice Cx x.to.length (capN x.to.length cx)] 25)) := ⟨⟨_, (V2.2.alloc V2.2.size _).alloc (by have := V2.2.size; simp; omega) _⟩, rfl⟩
    have LA : Lies V3.1 V2.1.heap.size 25 #[.int .i64 y.kind, .int .i64 y.level, .int .i64 y.n, .string y.name, .slice By y.alts.length (capN y.alts.length by_), .slice Cy y.to.length (capN y.to.length cy)] := by rw [hV3]; exact (Lies.new _ _ _).old _
    have LB : Lies V3.1 (V2.1.heap.size + 1) 25 #[.int .i64 x.kind, .int .i64 x.level, .int .i64 x.n, .string x.name, .slice Bx x.alts.length (capN x.alts.length bx), .slice Cx x.to.length (capN x.to.length cx)] := by rw [hV3]; simpa using Lies.new (V2.1.alloc (.cells #[.int .i64 y.kind, .int .i64 y.level, .int .i64 y.n, .string y.name, .slice By y.alts.length (capN y.alts.length by_), .slice Cy y.to.length (capN y.to.length cy)] 25)) 25 #[.int .i64 x.kind, .int .i64 x.level, .int .i64 x.n, .string x.name, .slice Bx x.alts.length (capN x.alts.length bx), .slice Cx x.to.length (capN x.to.length cx)]
    obtain ⟨gb, hgb⟩ : ∃ g, g = V2.1.heap.size + 1 := ⟨_, rfl⟩
    obtain ⟨ga, hga⟩ : ∃ g, g = V2.1.heap.size := ⟨_, rfl⟩
    rw [← hga] at LA
    rw [← hgb] at LB
    rw [← hV3, ← hgb, ← hga]
    obtain ⟨m0, m1, m2, m3, m4, m5⟩ := six_cells LA
    obtain ⟨n0, n1, n2, n3, n4, n5⟩ := six_cells LB
    clear hV3 hgb hga LA LB V1 V2 HA HNT x0 x1 x2 x3 x4 x5 y0 y1 y2 y3 y4 y5
    go_wp2_with fail
    refine (HP2.out V3.1 (HB.out.trans (V3.2.mono HB.out.size))).mono ?_
    rintro e w5 ⟨C5, c5, rfl, hP5, hb5⟩
    have hr9 := Nat.lt_of_lt_of_le HR.out.lt V3.2.size
    have lr := ((HR.out.below V3.2 HR.out.lt).below hb5 hr9)
    clear r0 r1 r2 r3 r4 r5 r6 r7 r8 r9 f0 f1 f2 f3 f4 f5 f6 f7 f8 f9 m0 m1 m2 m3 m4 m5 n0 n1 n2 n3 n4 n5
    have HP5 := Lib.hid hP5
    have HB5 := Lib.hid hb5
    have HR9 := Lib.hid hr9
    have HL0 := Lib.hid lr
    clear lr hP5 hb5 hr9 HP2
    simp only [plv]
    obtain ⟨Q2, QE⟩ := Q2
    simp only at HE HP5 ⊢
    by_cases hq : QE = 0
    · subst hq
      replace HE : Hid (PP = ({ Q2 with swap := true }, 0)) := HE
      go_upto_region 5 with fail
      obtain ⟨w6, hw6⟩ : ∃ w6, w6 = w5.alloc (.cells #[.int .i64 Q2.kind, .bool true, .int .i64 Q2.level, .int .i64 Q2.alt, .int .i64 Q2.node.kind, .int .i64 Q2.node.level, .int .i64 Q2.node.n, .string Q2.node.name, .slice none 0 0, .slice C5 Q2.node.to.length (capN Q2.node.to.length c5)] 29) := ⟨_, rfl⟩
      have LP : Lies w6 w5.heap.size 29 #[.int .i64 Q2.kind, .bool true, .int .i64 Q2.level, .int .i64 Q2.alt, .int .i64 Q2.node.kind, .int .i64 Q2.node.level, .int .i64 Q2.node.n, .string Q2.node.name, .slice none 0 0, .slice C5 Q2.node.to.length (capN Q2.node.to.length c5)] := by rw [hw6]; exact Lies.new _ _ _
      have lr : Lies w6 (w.heap.size + 1 + 1) 29 #[.int .i64 0, .bool false, .int .i64 0, .int .i64 0, .int .i64 0, .int .i64 0, .int .i64 0, .string ⟨#[]⟩, .slice none 0 0, .slice none 0 0] := by rw [hw6]; exact HL0.out.old _
      have HB6 := Lib.hid (show Below V3.1.heap.size V3.1 w6 by rw [hw6]; exact HB5.out.alloc HB5.out.size _)
      have HP6 := Lib.hid (show PlOk w6 (fun g => V3.1.heap.size ≤ g) Q2 C5 by rw [hw6]; exact HP5.out.below ((Below.refl _ w5).alloc (Nat.le_refl _) _) (Nat.le_refl _))
      rw [← hw6]
      clear hw6
      obtain ⟨r0, r1, r2, r3, r4, r5, r6, r7, r8, r9⟩ := ten_cells lr
      obtain ⟨f0, f1, f2, f3, f4, f5, f6, f7, f8, f9⟩ := ten_frozen lr
      obtain ⟨q0, q1, q2, q3, q4, q5, q6, q7, q8, q9⟩ := ten_cells LP
      have HL := Lib.hid lr
      clear lr LP HL0 HP5 HB5
      go_wp2_with fail
      refine bodyPost_ret (res_plan2 (p := 4) (q := 5) Try.results11 rfl (lies_put10 HL.out _ _ _ _ _ _ _ _ _ _)) rfl ?_
      rw [HE.out]
      exact givesPl_put (p := { Q2 with swap := true }) HP6.out (by omega) HR9.out (HB.out.trans (V3.2.mono HB.out.size)) HB6.out _ _ _ _ _ _ _ _ _ _
    · have hq0 : (QE == 0) = false := by simpa using hq
      replace HE : Hid (PP = ({ Q2 with swap := false }, QE)) := Lib.hid (by rw [HE.out, decide_eq_false hq])
      clear hq
      go_upto_region 5 with fail
      obtain ⟨w6, hw6⟩ : ∃ w6, w6 = w5.alloc (.cells #[.int .i64 Q2.kind, .bool false, .int .i64 Q2.level, .int .i64 Q2.alt, .int .i64 Q2.node.kind, .int .i64 Q2.node.level, .int .i64 Q2.node.n, .string Q2.node.name, .slice none 0 0, .slice C5 Q2.node.to.length (capN Q2.node.to.length c5)] 29) := ⟨_, rfl⟩
      have LP : Lies w6 w5.heap.size 29 #[.int .i64 Q2.kind, .bool false, .int .i64 Q2.level, .int .i64 Q2.alt, .int .i64 Q2.node.kind, .int .i64 Q2.node.level, .int .i64 Q2.node.n, .string Q2.node.name, .slice none 0 0, .slice C5 Q2.node.to.length (capN Q2.node.to.length c5)] := by rw [hw6]; exact Lies.new _ _ _
      have lr : Lies w6 (w.heap.size + 1 + 1) 29 #[.int .i64 0, .bool false, .int .i64 0, .int .i64 0, .int .i64 0, .int .i64 0, .int .i64 0, .string ⟨#[]⟩, .slice none 0 0, .slice none 0 0] := by rw [hw6]; exact HL0.out.old _
      have HB6 := Lib.hid (show Below V3.1.heap.size V3.1 w6 by rw [hw6]; exact HB5.out.alloc HB5.out.size _)
      have HP6 := Lib.hid (show PlOk w6 (fun g => V3.1.heap.size ≤ g) Q2 C5 by rw [hw6]; exact HP5.out.below ((Below.refl _ w5).alloc (Nat.le_refl _) _) (Nat.le_refl _))
      rw [← hw6]
      clear hw6
      obtain ⟨r0, r1, r2, r3, r4, r5, r6, r7, r8, r9⟩ := ten_cells lr
      obtain ⟨f0, f1, f2, f3, f4, f5, f6, f7, f8, f9⟩ := ten_frozen lr
      obtain ⟨q0, q1, q2, q3, q4, q5, q6, q7, q8, q9⟩ := ten_cells LP
      have HL := Lib.hid lr
      clear lr LP HL0 HP5 HB5
      go_wp2_with fail
      refine bodyPost_ret (res_plan2 (p := 4) (q := 5) Try.results11 rfl (lies_put10 HL.out _ _ _ _ _ _ _ _ _ _)) rfl ?_
      rw [HE.out]
      exact givesPl_put (p := { Q2 with swap := false }) HP6.out (by omega) HR9.out (HB.out.trans (V3.2.mono HB.out.size)) HB6.out _ _ _ _ _ _ _ _ _ _
  | false =>
    rw [hS] at HA
    replace HE : Hid (PP = ({ Q1.1 with swap := false }, Q1.2)) := Lib.hid (by rw [HE.out, hS, hQ1]; rfl)
    have HNT := HN false
    simp only [Bool.false_eq_true, if_false] at HNT
    clear hQ1 hQ2 hPP hI hJ HN hS HP2 Q2
    go_enter Try.func11, Try.ntmps11
    go_upto_region 1 with fail
    rw [← hW]
    clear hW
    obtain ⟨V0, hV0⟩ := calm_in W
    rw [← hV0]
    clear hV0
    go_wp2_with fail
    refine (HA _).mono ?_
    rintro e _ ⟨rfl, V1, rfl⟩
    go_wp2_with fail
    refine (HNT _).mono ?_
    rintro e _ ⟨rfl, V2, rfl⟩
    go_upto_region 3 with fail
    obtain ⟨V3, hV3⟩ : ∃ V : Abv W, V.1 = ((V2.1.alloc (.cells #[.int .i64 x.kind, .int .i64 x.level, .int .i64 x.n, .string x.name, .slice Bx x.alts.length (capN x.alts.length bx), .slice Cx x.to.length (capN x.to.length cx)] 25)).alloc (.cells #[.int .i64 y.kind, .int .i64 y.level, .int .i64 y.n, .string y.name, .slice By y.alts.length (capN y.alts.length by_), .slice Cy y.to.length (capN y.to.length cy)] 25)) := ⟨⟨_, (V2.2.alloc V2.2.size _).alloc (by have := V2.2.size; simp; omega) _⟩, rfl⟩
    have LA : Lies V3.1 V2.1.heap.size 25 #[.int .i64 x.kind, .int .i64 x.level, .int .i64 x.n, .string x.name, .slice Bx x.alts.length (capN x.alts.length bx), .slice Cx x.to.length (capN x.to.length cx)] := by rw [hV3]; exact (Lies.new _ _ _).old _
    have LB : Lies V3.1 (V2.1.heap.size + 1) 25 #[.int .i64 y.kind, .int .i64 y.level, .int .i64 y.n, .string y.name, .slice By y.alts.length (capN y.alts.length by_), .slice Cy y.to.length (capN y.to.length cy)] := by rw [hV3]; simpa using Lies.new (V2.1.alloc (.cells #[.int .i64 x.kind, .int .i64 x.level, .int .i64 x.n, .string x.name, .slice Bx x.alts.length (capN x.alts.length bx), .slice Cx x.to.length (capN x.to.length cx)] 25)) 25 #[.int .i64 y.kind, .int .i64 y.level, .int .i64 y.n, .string y.name, .slice By y.alts.length (capN y.alts.length by_), .slice Cy y.to.length (capN y.to.length cy)]
    obtain ⟨gb, hgb⟩ : ∃ g, g = V2.1.heap.size + 1 := ⟨_, rfl⟩
    obtain ⟨ga, hga⟩ : ∃ g, g = V2.1.heap.size := ⟨_, rfl⟩
    rw [← hga] at LA
    rw [← hgb] at LB
    rw [← hV3, ← hgb, ← hga]
    obtain ⟨m0, m1, m2, m3, m4, m5⟩ := six_cells LA
    obtain ⟨n0, n1, n2, n3, n4, n5⟩ := six_cells LB
    clear hV3 hgb hga LA LB V1 V2 HA HNT x0 x1 x2 x3 x4 x5 y0 y1 y2 y3 y4 y5
    go_wp2_with fail
    refine (HP1.out V3.1 (HB.out.trans (V3.2.mono HB.out.size))).mono ?_
    rintro e w5 ⟨C5, c5, rfl, hP5, hb5⟩
    have hr9 := Nat.lt_of_lt_of_le HR.out.lt V3.2.size
    have lr := ((HR.out.below V3.2 HR.out.lt).below hb5 hr9)
    clear r0 r1 r2 r3 r4 r5 r6 r7 r8 r9 f0 f1 f2 f3 f4 f5 f6 f7 f8 f9 m0 m1 m2 m3 m4 m5 n0 n1 n2 n3 n4 n5
    have HP5 := Lib.hid hP5
    have HB5 := Lib.hid hb5
    have HR9 := Lib.hid hr9
    have HL0 := Lib.hid lr
    clear lr hP5 hb5 hr9 HP1
    simp only [plv]
    obtain ⟨Q1, QE⟩ := Q1
    simp only at HE HP5 ⊢
    go_upto_region 5 with fail
    obtain ⟨w6, hw6⟩ : ∃ w6, w6 = w5.alloc (.cells #[.int .i64 Q1.kind, .bool false, .int .i64 Q1.level, .int .i64 Q1.alt, .int .i64 Q1.node.kind, .int .i64 Q1.node.level, .int .i64 Q1.node.n, .string Q1.node.name, .slice none 0 0, .slice C5 Q1.node.to.length (capN Q1.node.to.length c5)] 29) := ⟨_, rfl⟩
    have LP : Lies w6 w5.heap.size 29 #[.int .i64 Q1.kind, .bool false, .int .i64 Q1.level, .int .i64 Q1.alt, .int .i64 Q1.node.kind, .int .i64 Q1.node.level, .int .i64 Q1.node.n, .string Q1.node.name, .slice none 0 0, .slice C5 Q1.node.to.length (capN Q1.node.to.length c5)] := by rw [hw6]; exact Lies.new _ _ _
    have lr : Lies w6 (w.heap.size + 1 + 1) 29 #[.int .i64 0, .bool false, .int .i64 0, .int .i64 0, .int .i64 0, .int .i64 0, .int .i64 0, .string ⟨#[]⟩, .slice none 0 0, .slice none 0 0] := by rw [hw6]; exact HL0.out.old _
    have HB6 := Lib.hid (show Below V3.1.heap.size V3.1 w6 by rw [hw6]; exact HB5.out.alloc HB5.out.size _)
    have HP6 := Lib.hid (show PlOk w6 (fun g => V3.1.heap.size ≤ g) Q1 C5 by rw [hw6]; exact HP5.out.below ((Below.refl _ w5).alloc (Nat.le_refl _) _) (Nat.le_refl _))
    rw [← hw6]
    clear hw6
    obtain ⟨r0, r1, r2, r3, r4, r5, r6, r7, r8, r9⟩ := ten_cells lr
    obtain ⟨f0, f1, f2, f3, f4, f5, f6, f7, f8, f9⟩ := ten_frozen lr
    obtain ⟨q0, q1, q2, q3, q4, q5, q6, q7, q8, q9⟩ := ten_cells LP
    have HL := Lib.hid lr
    clear lr LP HL0 HP5 HB5
    go_wp2_with fail
    refine bodyPost_ret (res_plan2 (p := 4) (q := 5) Try.results11 rfl (lies_put10 HL.out _ _ _ _ _ _ _ _ _ _)) rfl ?_
    rw [HE.out]
    exact givesPl_put (p := { Q1 with swap := false }) HP6.out (by omega) HR9.out (HB.out.trans (V3.2.mono HB.out.size)) HB6.out _ _ _ _ _ _ _ _ _ _
end Lx
end Go.Proofs.Ytlamjjkcbadibaa
