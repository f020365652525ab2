/-
  Texts that lie one behind the other: H9X SuPn SuPi He H9Z UsW.
-/
import Derived.Test.YtgnafcnokenogaaC16
import Derived.Test.YtgnafcnokenogaaC11
import Derived.Test.YtgnafcnokenogaaC7
import Derived.Test.YtgnafcnokenogaaC15
namespace Go.Proofs.Ytgnafcnokenogaa
open Go.RowKit
namespace Lx
set_option maxRecDepth 100000
set_option maxHeartbeats 8000000 in
theorem step_eight_a (tn : Int) (ts : ByteArray) (tl : List Te) (A : Option Addr) (c0 : Nat) (w : World) (hI : EIn w Any (.node 8 tn ts tl) A) (hl0 : 2 ≤ tl.length) (hv : valK (prt tl 0).kind = true) (hk : (prt tl 0).kind ≠ 7) :
    Calls Try.prog 22 #[ev (.node 8 tn ts tl) A c0] w (GivesS failE 4 w) := by
  show Calls Try.prog 22 #[.agg #[.int .i64 8, .int .i64 tn, .string ts, .slice A tl.length (capF tl.length c0)]] w _
  have hl2 : 0 < tl.length := by omega
  have hl3 : 1 < tl.length := by omega
  obtain ⟨g0, o0, As, cs0, ⟨hA, _⟩, s0, s1, s2, s3, hIs⟩ := EIn.part hI 0 hl2
  obtain ⟨g9, o9, Ax, cx0, ⟨hA9, _⟩, d0, d1, d2, d3, hIx⟩ := EIn.part hI 1 hl3
  simp only [Te.parts] at s0 s1 s2 s3 hIs d0 d1 d2 d3 hIx
  subst hA
  have hA1 : g0 = g9 := by cases hA9; rfl
  have hA2 : o0 = o9 := by cases hA9; rfl
  subst hA1
  subst hA2
  clear hA9
  simp only [Nat.zero_mul, Nat.add_zero] at s0 s1 s2 s3
  have hpe : prt tl 0 = tl[0]'hl2 := by rw [prt, List.getD_eq_getElem?_getD, List.getElem?_eq_getElem hl2]; rfl
  have hpx : prt tl 1 = tl[1]'hl3 := by rw [prt, List.getD_eq_getElem?_getD, List.getElem?_eq_getElem hl3]; rfl
  rw [hpe] at hv hk
  skip
  skip
  obtain ⟨Q, hQ⟩ : ∃ Q, Q = tl[0]'hl2 := ⟨_, rfl⟩
  rw [← hQ] at s0 s1 s2 s3 hIs hv hk
  skip
  obtain ⟨P, hP9⟩ : ∃ P, P = tl[1]'hl3 := ⟨_, rfl⟩
  rw [← hP9] at d0 d1 d2 d3 hIx
  skip
  clear hpe hQ hpx hP9 hI
  obtain ⟨sk, sn, ss, sl⟩ := Q
  obtain ⟨xk, xn, xs, xl⟩ := P
  simp only [Te.kind, Te.n, Te.name] at s0 s1 s2 s3 d0 d1 d2 d3 hv hk
  skip
  have n7 : (sk != 7) = true := by simpa using hk
  have e7 : (sk == 7) = false := by simpa using hk
  have HV := Lib.hid hv
  clear hv hk
  have HOP := Lib.hid (fun X => rfail_any X)
  obtain ⟨U, hU⟩ : ∃ U, U = failE := ⟨_, rfl⟩
  rw [← hU] at HOP
  rw [← hU]
  clear hU
  obtain ⟨uk, un, us, ul⟩ := U
  clear hIs hIx
  have hg0 : g0 < w.heap.size := cell_lt s0
  generalize capF sl.length cs0 = cs at *
  generalize sl.length = ms at *
  generalize capF xl.length cx0 = cx at *
  generalize xl.length = mx at *
  generalize capF tl.length c0 = ct at *
  generalize tl.length = mt at *
  replace d0 : w.cell? ⟨g0, o0 + 4, none⟩ = _ := d0
  replace d1 : w.cell? ⟨g0, o0 + 5, none⟩ = _ := d1
  replace d2 : w.cell? ⟨g0, o0 + 6, none⟩ = _ := d2
  replace d3 : w.cell? ⟨g0, o0 + 7, none⟩ = _ := d3
  have hb0 : Below w.heap.size w ((w.alloc (.cells #[.int .i64 8, .int .i64 tn, .string ts, .slice (some ⟨g0, o0, none⟩) mt ct] 24)).alloc (.cells #[.int .i64 0, .int .i64 0, .string ⟨#[]⟩, .slice none 0 0] 24)) := below2_new _ _
  have lt : Lies ((w.alloc (.cells #[.int .i64 8, .int .i64 tn, .string ts, .slice (some ⟨g0, o0, none⟩) mt ct] 24)).alloc (.cells #[.int .i64 0, .int .i64 0, .string ⟨#[]⟩, .slice none 0 0] 24)) w.heap.size 24 #[.int .i64 8, .int .i64 tn, .string ts, .slice (some ⟨g0, o0, none⟩) mt ct] := (Lies.new w _ _).old _
  have lz : Lies ((w.alloc (.cells #[.int .i64 8, .int .i64 tn, .string ts, .slice (some ⟨g0, o0, none⟩) mt ct] 24)).alloc (.cells #[.int .i64 0, .int .i64 0, .string ⟨#[]⟩, .slice none 0 0] 24)) (w.heap.size + 1) 24 #[.int .i64 0, .int .i64 0, .string ⟨#[]⟩, .slice none 0 0] := by simpa using Lies.new (w.alloc (.cells #[.int .i64 8, .int .i64 tn, .string ts, .slice (some ⟨g0, o0, none⟩) mt ct] 24)) 24 #[.int .i64 0, .int .i64 0, .string ⟨#[]⟩, .slice none 0 0]
  have hz0 : ((w.alloc (.cells #[.int .i64 8, .int .i64 tn, .string ts, .slice (some ⟨g0, o0, none⟩) mt ct] 24)).alloc (.cells #[.int .i64 0, .int .i64 0, .string ⟨#[]⟩, .slice none 0 0] 24)).heap.size = w.heap.size + 2 := by simp
  go_enter Try.func22, Try.ntmps22
  go_upto_region 1 with fail
  generalize ((w.alloc (.cells #[.int .i64 8, .int .i64 tn, .string ts, .slice (some ⟨g0, o0, none⟩) mt ct] 24)).alloc (.cells #[.int .i64 0, .int .i64 0, .string ⟨#[]⟩, .slice none 0 0] 24)) = W0 at *
  replace s0 := (hb0.cell (p := ⟨g0, _, none⟩) hg0).trans s0
  replace s1 := (hb0.cell (p := ⟨g0, _, none⟩) hg0).trans s1
  replace s2 := (hb0.cell (p := ⟨g0, _, none⟩) hg0).trans s2
  replace s3 := (hb0.cell (p := ⟨g0, _, none⟩) hg0).trans s3
  obtain ⟨⟨y0, y1, y2, y3⟩, _⟩ := lt.four
  have ls : Lies (W0.alloc (.cells #[.int .i64 sk, .int .i64 sn, .string ss, .slice As ms cs] 24)) (w.heap.size + 2) 24 #[.int .i64 sk, .int .i64 sn, .string ss, .slice As ms cs] := lies_next _ _ _ _ hz0.symm
  have lt1 := lt.old (.cells #[.int .i64 sk, .int .i64 sn, .string ss, .slice As ms cs] 24)
  have lz1 := lz.old (.cells #[.int .i64 sk, .int .i64 sn, .string ss, .slice As ms cs] 24)
  have hb1 := hb0.alloc hb0.size (.cells #[.int .i64 sk, .int .i64 sn, .string ss, .slice As ms cs] 24)
  have hsz1 : w.heap.size + 3 ≤ (W0.alloc (.cells #[.int .i64 sk, .int .i64 sn, .string ss, .slice As ms cs] 24)).heap.size := by simp; omega
  go_upto_region 4 with fail
  try simp only [hz0]
  clear s0 s1 s2 s3 y0 y1 y2 y3 hb0 lt lz hz0
  generalize (W0.alloc (.cells #[.int .i64 sk, .int .i64 sn, .string ss, .slice As ms cs] 24)) = W1 at *
  obtain ⟨⟨x0, x1, x2, x3⟩, _⟩ := ls.four
  have HVC := Lib.hid (fun X => rvalue_any sk sn ss As ms cs X)
  go_wp2_with fail
  refine (HVC.out _).mono ?_
  rintro e w2 ⟨rfl, hb2⟩
  rw [HV.out]
  have lt2 := lt1.below hb2 lt1.lt
  have ls2 := ls.below hb2 ls.lt
  have lz2 := lz1.below hb2 lz1.lt
  have hbw := hb1.trans (hb2.mono hb1.size)
  have hs2 : w.heap.size + 3 ≤ w2.heap.size := by have := hb2.size; omega
  clear x0 x1 x2 x3 ls lt1 lz1 hb1 hb2 hsz1 HVC
  obtain ⟨⟨y0, y1, y2, y3⟩, _⟩ := lt2.four
  replace d0 := (hbw.cell (p := ⟨g0, _, none⟩) hg0).trans d0
  replace d1 := (hbw.cell (p := ⟨g0, _, none⟩) hg0).trans d1
  replace d2 := (hbw.cell (p := ⟨g0, _, none⟩) hg0).trans d2
  replace d3 := (hbw.cell (p := ⟨g0, _, none⟩) hg0).trans d3
  have lx : Lies (w2.alloc (.cells #[.int .i64 xk, .int .i64 xn, .string xs, .slice Ax mx cx] 24)) w2.heap.size 24 #[.int .i64 xk, .int .i64 xn, .string xs, .slice Ax mx cx] := Lies.new _ _ _
  have lt3 := lt2.old (.cells #[.int .i64 xk, .int .i64 xn, .string xs, .slice Ax mx cx] 24)
  have ls3 := ls2.old (.cells #[.int .i64 xk, .int .i64 xn, .string xs, .slice Ax mx cx] 24)
  have lz3 := lz2.old (.cells #[.int .i64 xk, .int .i64 xn, .string xs, .slice Ax mx cx] 24)
  have hb3 := hbw.alloc hbw.size (.cells #[.int .i64 xk, .int .i64 xn, .string xs, .slice Ax mx cx] 24)
  have hs3 : w.heap.size + 3 ≤ (w2.alloc (.cells #[.int .i64 xk, .int .i64 xn, .string xs, .slice Ax mx cx] 24)).heap.size := by simp; omega
  go_upto_region 13 with fail
  clear y0 y1 y2 y3 d0 d1 d2 d3 lt2 ls2 lz2 hbw
  generalize (w2.alloc (.cells #[.int .i64 xk, .int .i64 xn, .string xs, .slice Ax mx cx] 24)) = W2 at *
  generalize w2.heap.size = b5 at *
  obtain ⟨⟨x0, x1, x2, x3⟩, _⟩ := ls3.four
  go_wp2_with fail
  refine (HOP.out _).mono ?_
  rintro e w9 ⟨A2, c2, rfl, hT, hb9⟩
  simp only [ev, Te.kind, Te.n, Te.name, Te.parts]
  have lz9 := lz3.below hb9 lz3.lt
  have hbw9 := hb3.trans (hb9.mono hb3.size)
  have HT := Lib.hid hT
  have HW := Lib.hid hbw9
  clear x0 x1 x2 x3
  obtain ⟨⟨x0, x1, x2, x3⟩, f0, f1, f2, f3⟩ := lz9.four
  clear hT hb9 hbw9
  go_wp2_with fail
  refine bodyPost_ret (res_term2 (p := 2) (q := 3) Try.results22 rfl (lz9.all _ _ _ _)) rfl ?_
  exact gives_allS HT.out (by omega) lz3.lt HW.out _ _ _ _
set_option maxHeartbeats 8000000 in
theorem step_eight_b (tn : Int) (ts : ByteArray) (tl : List Te) (A : Option Addr) (c0 : Nat) (w : World) (hI : EIn w Any (.node 8 tn ts tl) A) (hl0 : 2 ≤ tl.length) (hk : (prt tl 0).kind = 7) (hx : valK (prt tl 1).kind = false) (Y : Nat → Prop) (U : Te) (x : Int) (hP : ∀ X, Below w.heap.size w X → Calls Try.prog 37 #[ev (.node 8 tn ts tl) A c0, .int .i64 1] X (GivesN (fun b => Y b ∧ b < w.heap.size) U x X)) :
    Calls Try.prog 22 #[ev (.node 8 tn ts tl) A c0] w (GivesN Y U x w) := by
  simp only [ev, Te.kind, Te.n, Te.name, Te.parts] at hP
  have HP := Lib.hid hP
  clear hP
  obtain ⟨uk, un, us, ul⟩ := U
  show Calls Try.prog 22 #[.agg #[.int .i64 8, .int .i64 tn, .string ts, .slice A tl.length (capF tl.length c0)]] w _
  have hl2 : 0 < tl.length := by omega
  have hl3 : 1 < tl.length := by omega
  obtain ⟨g0, o0, As, cs0, ⟨hA, _⟩, s0, s1, s2, s3, hIs⟩ := EIn.part hI 0 hl2
  obtain ⟨g9, o9, Ax, cx0, ⟨hA9, _⟩, d0, d1, d2, d3, hIx⟩ := EIn.part hI 1 hl3
  simp only [Te.parts] at s0 s1 s2 s3 hIs d0 d1 d2 d3 hIx
  subst hA
  have hA1 : g0 = g9 := by cases hA9; rfl
  have hA2 : o0 = o9 := by cases hA9; rfl
  subst hA1
  subst hA2
  clear hA9
  simp only [Nat.zero_mul, Nat.add_zero] at s0 s1 s2 s3
  have hpe : prt tl 0 = tl[0]'hl2 := by rw [prt, List.getD_eq_getElem?_getD, List.getElem?_eq_getElem hl2]; rfl
  have hpx : prt tl 1 = tl[1]'hl3 := by rw [prt, List.getD_eq_getElem?_getD, List.getElem?_eq_getElem hl3]; rfl
  rw [hpe] at hk
  rw [hpx] at hx
  skip
  obtain ⟨Q, hQ⟩ : ∃ Q, Q = tl[0]'hl2 := ⟨_, rfl⟩
  rw [← hQ] at s0 s1 s2 s3 hIs hk
  skip
  obtain ⟨P, hP9⟩ : ∃ P, P = tl[1]'hl3 := ⟨_, rfl⟩
  rw [← hP9] at d0 d1 d2 d3 hIx hx
  skip
  clear hpe hQ hpx hP9 hI
  obtain ⟨sk, sn, ss, sl⟩ := Q
  obtain ⟨xk, xn, xs, xl⟩ := P
  simp only [Te.kind, Te.n, Te.name] at s0 s1 s2 s3 d0 d1 d2 d3 hk hx
  skip
  subst hk
  have HV : Hid (valK 7 = true) := Lib.hid rfl
  have HVX := Lib.hid hx
  clear hx
  clear hIs hIx
  have hg0 : g0 < w.heap.size := cell_lt s0
  generalize capF sl.length cs0 = cs at *
  generalize sl.length = ms at *
  generalize capF xl.length cx0 = cx at *
  generalize xl.length = mx at *
  generalize capF tl.length c0 = ct at *
  generalize tl.length = mt at *
  replace d0 : w.cell? ⟨g0, o0 + 4, none⟩ = _ := d0
  replace d1 : w.cell? ⟨g0, o0 + 5, none⟩ = _ := d1
  replace d2 : w.cell? ⟨g0, o0 + 6, none⟩ = _ := d2
  replace d3 : w.cell? ⟨g0, o0 + 7, none⟩ = _ := d3
  have hb0 : Below w.heap.size w ((w.alloc (.cells #[.int .i64 8, .int .i64 tn, .string ts, .slice (some ⟨g0, o0, none⟩) mt ct] 24)).alloc (.cells #[.int .i64 0, .int .i64 0, .string ⟨#[]⟩, .slice none 0 0] 24)) := below2_new _ _
  have lt : Lies ((w.alloc (.cells #[.int .i64 8, .int .i64 tn, .string ts, .slice (some ⟨g0, o0, none⟩) mt ct] 24)).alloc (.cells #[.int .i64 0, .int .i64 0, .string ⟨#[]⟩, .slice none 0 0] 24)) w.heap.size 24 #[.int .i64 8, .int .i64 tn, .string ts, .slice (some ⟨g0, o0, none⟩) mt ct] := (Lies.new w _ _).old _
  have lz : Lies ((w.alloc (.cells #[.int .i64 8, .int .i64 tn, .string ts, .slice (some ⟨g0, o0, none⟩) mt ct] 24)).alloc (.cells #[.int .i64 0, .int .i64 0, .string ⟨#[]⟩, .slice none 0 0] 24)) (w.heap.size + 1) 24 #[.int .i64 0, .int .i64 0, .string ⟨#[]⟩, .slice none 0 0] := by simpa using Lies.new (w.alloc (.cells #[.int .i64 8, .int .i64 tn, .string ts, .slice (some ⟨g0, o0, none⟩) mt ct] 24)) 24 #[.int .i64 0, .int .i64 0, .string ⟨#[]⟩, .slice none 0 0]
  have hz0 : ((w.alloc (.cells #[.int .i64 8, .int .i64 tn, .string ts, .slice (some ⟨g0, o0, none⟩) mt ct] 24)).alloc (.cells #[.int .i64 0, .int .i64 0, .string ⟨#[]⟩, .slice none 0 0] 24)).heap.size = w.heap.size + 2 := by simp
  go_enter Try.func22, Try.ntmps22
  go_upto_region 1 with fail
  generalize ((w.alloc (.cells #[.int .i64 8, .int .i64 tn, .string ts, .slice (some ⟨g0, o0, none⟩) mt ct] 24)).alloc (.cells #[.int .i64 0, .int .i64 0, .string ⟨#[]⟩, .slice none 0 0] 24)) = W0 at *
  replace s0 := (hb0.cell (p := ⟨g0, _, none⟩) hg0).trans s0
  replace s1 := (hb0.cell (p := ⟨g0, _, none⟩) hg0).trans s1
  replace s2 := (hb0.cell (p := ⟨g0, _, none⟩) hg0).trans s2
  replace s3 := (hb0.cell (p := ⟨g0, _, none⟩) hg0).trans s3
  obtain ⟨⟨y0, y1, y2, y3⟩, _⟩ := lt.four
  have ls : Lies (W0.alloc (.cells #[.int .i64 7, .int .i64 sn, .string ss, .slice As ms cs] 24)) (w.heap.size + 2) 24 #[.int .i64 7, .int .i64 sn, .string ss, .slice As ms cs] := lies_next _ _ _ _ hz0.symm
  have lt1 := lt.old (.cells #[.int .i64 7, .int .i64 sn, .string ss, .slice As ms cs] 24)
  have lz1 := lz.old (.cells #[.int .i64 7, .int .i64 sn, .string ss, .slice As ms cs] 24)
  have hb1 := hb0.alloc hb0.size (.cells #[.int .i64 7, .int .i64 sn, .string ss, .slice As ms cs] 24)
  have hsz1 : w.heap.size + 3 ≤ (W0.alloc (.cells #[.int .i64 7, .int .i64 sn, .string ss, .slice As ms cs] 24)).heap.size := by simp; omega
  go_upto_region 4 with fail
  try simp only [hz0]
  clear s0 s1 s2 s3 y0 y1 y2 y3 hb0 lt lz hz0
  generalize (W0.alloc (.cells #[.int .i64 7, .int .i64 sn, .string ss, .slice As ms cs] 24)) = W1 at *
  obtain ⟨⟨x0, x1, x2, x3⟩, _⟩ := ls.four
  have HVC := Lib.hid (fun X => rvalue_any 7 sn ss As ms cs X)
  go_wp2_with fail
  refine (HVC.out _).mono ?_
  rintro e w2 ⟨rfl, hb2⟩
  rw [HV.out]
  have lt2 := lt1.below hb2 lt1.lt
  have ls2 := ls.below hb2 ls.lt
  have lz2 := lz1.below hb2 lz1.lt
  have hbw := hb1.trans (hb2.mono hb1.size)
  have hs2 : w.heap.size + 3 ≤ w2.heap.size := by have := hb2.size; omega
  clear x0 x1 x2 x3 ls lt1 lz1 hb1 hb2 hsz1 HVC
  obtain ⟨⟨y0, y1, y2, y3⟩, _⟩ := lt2.four
  replace d0 := (hbw.cell (p := ⟨g0, _, none⟩) hg0).trans d0
  replace d1 := (hbw.cell (p := ⟨g0, _, none⟩) hg0).trans d1
  replace d2 := (hbw.cell (p := ⟨g0, _, none⟩) hg0).trans d2
  replace d3 := (hbw.cell (p := ⟨g0, _, none⟩) hg0).trans d3
  have lx : Lies (w2.alloc (.cells #[.int .i64 xk, .int .i64 xn, .string xs, .slice Ax mx cx] 24)) w2.heap.size 24 #[.int .i64 xk, .int .i64 xn, .string xs, .slice Ax mx cx] := Lies.new _ _ _
  have lt3 := lt2.old (.cells #[.int .i64 xk, .int .i64 xn, .string xs, .slice Ax mx cx] 24)
  have ls3 := ls2.old (.cells #[.int .i64 xk, .int .i64 xn, .string xs, .slice Ax mx cx] 24)
  have lz3 := lz2.old (.cells #[.int .i64 xk, .int .i64 xn, .string xs, .slice Ax mx cx] 24)
  have hb3 := hbw.alloc hbw.size (.cells #[.int .i64 xk, .int .i64 xn, .string xs, .slice Ax mx cx] 24)
  have hs3 : w.heap.size + 3 ≤ (w2.alloc (.cells #[.int .i64 xk, .int .i64 xn, .string xs, .slice Ax mx cx] 24)).heap.size := by simp; omega
  go_upto_region 13 with fail
  clear y0 y1 y2 y3 d0 d1 d2 d3 lt2 ls2 lz2 hbw
  generalize (w2.alloc (.cells #[.int .i64 xk, .int .i64 xn, .string xs, .slice Ax mx cx] 24)) = W2 at *
  generalize w2.heap.size = b5 at *
  obtain ⟨⟨x0, x1, x2, x3⟩, _⟩ := ls3.four
  obtain ⟨⟨v0, v1, v2, v3⟩, _⟩ := lx.four
  have HVD := Lib.hid (fun X => rvalue_any xk xn xs Ax mx cx X)
  go_wp2_with fail
  refine (HVD.out _).mono ?_
  rintro e w4 ⟨rfl, hb4⟩
  rw [HVX.out]
  have lt4 := lt3.below hb4 lt3.lt
  have ls4 := ls3.below hb4 ls3.lt
  have lx4 := lx.below hb4 lx.lt
  have lz4 := lz3.below hb4 lz3.lt
  have hbw4 := hb3.trans (hb4.mono hb3.size)
  have hs4 : w.heap.size + 3 ≤ w4.heap.size := by have := hb4.size; omega
  clear x0 x1 x2 x3 v0 v1 v2 v3 lt3 ls3 lx lz3 hb3 hb4 HVD
  obtain ⟨⟨y0, y1, y2, y3⟩, _⟩ := lt4.four
  obtain ⟨⟨x0, x1, x2, x3⟩, _⟩ := ls4.four
  obtain ⟨⟨v0, v1, v2, v3⟩, _⟩ := lx4.four
  go_wp2_with fail
  refine (HP.out _ hbw4).mono ?_
  rintro e w9 ⟨A2, c2, rfl, hT, hb9⟩
  simp only [ev, Te.kind, Te.n, Te.name, Te.parts]
  have lz9 := lz4.below hb9 lz4.lt
  have hbw9 := hbw4.trans (hb9.mono hbw4.size)
  have HT := Lib.hid hT
  have HW := Lib.hid hbw9
  clear x0 x1 x2 x3 y0 y1 y2 y3 v0 v1 v2 v3
  obtain ⟨⟨x0, x1, x2, x3⟩, f0, f1, f2, f3⟩ := lz9.four
  clear hT hb9 hbw9
  go_wp2_with fail
  refine bodyPost_ret (res_term2 (p := 2) (q := 3) Try.results22 rfl (lz9.all _ _ _ _)) rfl ?_
  exact gives_allN HT.out (by omega) lz4.lt HW.out _ _ _ _
set_option maxHeartbeats 8000000 in
theorem step_eight_c (tn : Int) (ts : ByteArray) (tl : List Te) (A : Option Addr) (c0 : Nat) (w : World) (hI : EIn w Any (.node 8 tn ts tl) A) (hl0 : 2 ≤ tl.length) (hk : (prt tl 0).kind = 7) (hx : valK (prt tl 1).kind = true) (hx7 : (prt tl 1).kind ≠ 7) :
    Calls Try.prog 22 #[ev (.node 8 tn ts tl) A c0] w (GivesS failE 4 w) := by
  show Calls Try.prog 22 #[.agg #[.int .i64 8, .int .i64 tn, .string ts, .slice A tl.length (capF tl.length c0)]] w _
  have hl2 : 0 < tl.length := by omega
  have hl3 : 1 < tl.length := by omega
  obtain ⟨g0, o0, As, cs0, ⟨hA, _⟩, s0, s1, s2, s3, hIs⟩ := EIn.part hI 0 hl2
  obtain ⟨g9, o9, Ax, cx0, ⟨hA9, _⟩, d0, d1, d2, d3, hIx⟩ := EIn.part hI 1 hl3
  simp only [Te.parts] at s0 s1 s2 s3 hIs d0 d1 d2 d3 hIx
  subst hA
  have hA1 : g0 = g9 := by cases hA9; rfl
  have hA2 : o0 = o9 := by cases hA9; rfl
  subst hA1
  subst hA2
  clear hA9
  simp only [Nat.zero_mul, Nat.add_zero] at s0 s1 s2 s3
  have hpe : prt tl 0 = tl[0]'hl2 := by rw [prt, List.getD_eq_getElem?_getD, List.getElem?_eq_getElem hl2]; rfl
  have hpx : prt tl 1 = tl[1]'hl3 := by rw [prt, List.getD_eq_getElem?_getD, List.getElem?_eq_getElem hl3]; rfl
  rw [hpe] at hk
  rw [hpx] at hx hx7
  skip
  obtain ⟨Q, hQ⟩ : ∃ Q, Q = tl[0]'hl2 := ⟨_, rfl⟩
  rw [← hQ] at s0 s1 s2 s3 hIs hk
  skip
  obtain ⟨P, hP9⟩ : ∃ P, P = tl[1]'hl3 := ⟨_, rfl⟩
  rw [← hP9] at d0 d1 d2 d3 hIx hx hx7
  skip
  clear hpe hQ hpx hP9 hI
  obtain ⟨sk, sn, ss, sl⟩ := Q
  obtain ⟨xk, xn, xs, xl⟩ := P
  simp only [Te.kind, Te.n, Te.name] at s0 s1 s2 s3 d0 d1 d2 d3 hk hx hx7
  skip
  subst hk
  have HV : Hid (valK 7 = true) := Lib.hid rfl
  have HVX := Lib.hid hx
  clear hx
  have n7 : (xk != 7) = true := by simpa using hx7
  have e7 : (xk == 7) = false := by simpa using hx7
  clear hx7
  have HOP := Lib.hid (fun X => rfail_any X)
  obtain ⟨U, hU⟩ : ∃ U, U = failE := ⟨_, rfl⟩
  rw [← hU] at HOP
  rw [← hU]
  clear hU
  obtain ⟨uk, un, us, ul⟩ := U
  clear hIs hIx
  have hg0 : g0 < w.heap.size := cell_lt s0
  generalize capF sl.length cs0 = cs at *
  generalize sl.length = ms at *
  generalize capF xl.length cx0 = cx at *
  generalize xl.length = mx at *
  generalize capF tl.length c0 = ct at *
  generalize tl.length = mt at *
  replace d0 : w.cell? ⟨g0, o0 + 4, none⟩ = _ := d0
  replace d1 : w.cell? ⟨g0, o0 + 5, none⟩ = _ := d1
  replace d2 : w.cell? ⟨g0, o0 + 6, none⟩ = _ := d2
  replace d3 : w.cell? ⟨g0, o0 + 7, none⟩ = _ := d3
  have hb0 : Below w.heap.size w ((w.alloc (.cells #[.int .i64 8, .int .i64 tn, .string ts, .slice (some ⟨g0, o0, none⟩) mt ct] 24)).alloc (.cells #[.int .i64 0, .int .i64 0, .string ⟨#[]⟩, .slice none 0 0] 24)) := below2_new _ _
  have lt : Lies ((w.alloc (.cells #[.int .i64 8, .int .i64 tn, .string ts, .slice (some ⟨g0, o0, none⟩) mt ct] 24)).alloc (.cells #[.int .i64 0, .int .i64 0, .string ⟨#[]⟩, .slice none 0 0] 24)) w.heap.size 24 #[.int .i64 8, .int .i64 tn, .string ts, .slice (some ⟨g0, o0, none⟩) mt ct] := (Lies.new w _ _).old _
  have lz : Lies ((w.alloc (.cells #[.int .i64 8, .int .i64 tn, .string ts, .slice (some ⟨g0, o0, none⟩) mt ct] 24)).alloc (.cells #[.int .i64 0, .int .i64 0, .string ⟨#[]⟩, .slice none 0 0] 24)) (w.heap.size + 1) 24 #[.int .i64 0, .int .i64 0, .string ⟨#[]⟩, .slice none 0 0] := by simpa using Lies.new (w.alloc (.cells #[.int .i64 8, .int .i64 tn, .string ts, .slice (some ⟨g0, o0, none⟩) mt ct] 24)) 24 #[.int .i64 0, .int .i64 0, .string ⟨#[]⟩, .slice none 0 0]
  have hz0 : ((w.alloc (.cells #[.int .i64 8, .int .i64 tn, .string ts, .slice (some ⟨g0, o0, none⟩) mt ct] 24)).alloc (.cells #[.int .i64 0, .int .i64 0, .string ⟨#[]⟩, .slice none 0 0] 24)).heap.size = w.heap.size + 2 := by simp
  go_enter Try.func22, Try.ntmps22
  go_upto_region 1 with fail
  generalize ((w.alloc (.cells #[.int .i64 8, .int .i64 tn, .string ts, .slice (some ⟨g0, o0, none⟩) mt ct] 24)).alloc (.cells #[.int .i64 0, .int .i64 0, .string ⟨#[]⟩, .slice none 0 0] 24)) = W0 at *
  replace s0 := (hb0.cell (p := ⟨g0, _, none⟩) hg0).trans s0
  replace s1 := (hb0.cell (p := ⟨g0, _, none⟩) hg0).trans s1
  replace s2 := (hb0.cell (p := ⟨g0, _, none⟩) hg0).trans s2
  replace s3 := (hb0.cell (p := ⟨g0, _, none⟩) hg0).trans s3
  obtain ⟨⟨y0, y1, y2, y3⟩, _⟩ := lt.four
  have ls : Lies (W0.alloc (.cells #[.int .i64 7, .int .i64 sn, .string ss, .slice As ms cs] 24)) (w.heap.size + 2) 24 #[.int .i64 7, .int .i64 sn, .string ss, .slice As ms cs] := lies_next _ _ _ _ hz0.symm
  have lt1 := lt.old (.cells #[.int .i64 7, .int .i64 sn, .string ss, .slice As ms cs] 24)
  have lz1 := lz.old (.cells #[.int .i64 7, .int .i64 sn, .string ss, .slice As ms cs] 24)
  have hb1 := hb0.alloc hb0.size (.cells #[.int .i64 7, .int .i64 sn, .string ss, .slice As ms cs] 24)
  have hsz1 : w.heap.size + 3 ≤ (W0.alloc (.cells #[.int .i64 7, .int .i64 sn, .string ss, .slice As ms cs] 24)).heap.size := by simp; omega
  go_upto_region 4 with fail
  try simp only [hz0]
  clear s0 s1 s2 s3 y0 y1 y2 y3 hb0 lt lz hz0
  generalize (W0.alloc (.cells #[.int .i64 7, .int .i64 sn, .string ss, .slice As ms cs] 24)) = W1 at *
  obtain ⟨⟨x0, x1, x2, x3⟩, _⟩ := ls.four
  have HVC := Lib.hid (fun X => rvalue_any 7 sn ss As ms cs X)
  go_wp2_with fail
  refine (HVC.out _).mono ?_
  rintro e w2 ⟨rfl, hb2⟩
  rw [HV.out]
  have lt2 := lt1.below hb2 lt1.lt
  have ls2 := ls.below hb2 ls.lt
  have lz2 := lz1.below hb2 lz1.lt
  have hbw := hb1.trans (hb2.mono hb1.size)
  have hs2 : w.heap.size + 3 ≤ w2.heap.size := by have := hb2.size; omega
  clear x0 x1 x2 x3 ls lt1 lz1 hb1 hb2 hsz1 HVC
  obtain ⟨⟨y0, y1, y2, y3⟩, _⟩ := lt2.four
  replace d0 := (hbw.cell (p := ⟨g0, _, none⟩) hg0).trans d0
  replace d1 := (hbw.cell (p := ⟨g0, _, none⟩) hg0).trans d1
  replace d2 := (hbw.cell (p := ⟨g0, _, none⟩) hg0).trans d2
  replace d3 := (hbw.cell (p := ⟨g0, _, none⟩) hg0).trans d3
  have lx : Lies (w2.alloc (.cells #[.int .i64 xk, .int .i64 xn, .string xs, .slice Ax mx cx] 24)) w2.heap.size 24 #[.int .i64 xk, .int .i64 xn, .string xs, .slice Ax mx cx] := Lies.new _ _ _
  have lt3 := lt2.old (.cells #[.int .i64 xk, .int .i64 xn, .string xs, .slice Ax mx cx] 24)
  have ls3 := ls2.old (.cells #[.int .i64 xk, .int .i64 xn, .string xs, .slice Ax mx cx] 24)
  have lz3 := lz2.old (.cells #[.int .i64 xk, .int .i64 xn, .string xs, .slice Ax mx cx] 24)
  have hb3 := hbw.alloc hbw.size (.cells #[.int .i64 xk, .int .i64 xn, .string xs, .slice Ax mx cx] 24)
  have hs3 : w.heap.size + 3 ≤ (w2.alloc (.cells #[.int .i64 xk, .int .i64 xn, .string xs, .slice Ax mx cx] 24)).heap.size := by simp; omega
  go_upto_region 13 with fail
  clear y0 y1 y2 y3 d0 d1 d2 d3 lt2 ls2 lz2 hbw
  generalize (w2.alloc (.cells #[.int .i64 xk, .int .i64 xn, .string xs, .slice Ax mx cx] 24)) = W2 at *
  generalize w2.heap.size = b5 at *
  obtain ⟨⟨x0, x1, x2, x3⟩, _⟩ := ls3.four
  obtain ⟨⟨v0, v1, v2, v3⟩, _⟩ := lx.four
  have HVD := Lib.hid (fun X => rvalue_any xk xn xs Ax mx cx X)
  go_wp2_with fail
  refine (HVD.out _).mono ?_
  rintro e w4 ⟨rfl, hb4⟩
  rw [HVX.out]
  have lt4 := lt3.below hb4 lt3.lt
  have ls4 := ls3.below hb4 ls3.lt
  have lx4 := lx.below hb4 lx.lt
  have lz4 := lz3.below hb4 lz3.lt
  have hbw4 := hb3.trans (hb4.mono hb3.size)
  have hs4 : w.heap.size + 3 ≤ w4.heap.size := by have := hb4.size; omega
  clear x0 x1 x2 x3 v0 v1 v2 v3 lt3 ls3 lx lz3 hb3 hb4 HVD
  obtain ⟨⟨y0, y1, y2, y3⟩, _⟩ := lt4.four
  obtain ⟨⟨x0, x1, x2, x3⟩, _⟩ := ls4.four
  obtain ⟨⟨v0, v1, v2, v3⟩, _⟩ := lx4.four
  go_wp2_with fail
  refine (HOP.out _).mono ?_
  rintro e w9 ⟨A2, c2, rfl, hT, hb9⟩
  simp only [ev, Te.kind, Te.n, Te.name, Te.parts]
  have lz9 := lz4.below hb9 lz4.lt
  have hbw9 := hbw4.trans (hb9.mono hbw4.size)
  have HT := Lib.hid hT
  have HW := Lib.hid hbw9
  clear x0 x1 x2 x3 y0 y1 y2 y3 v0 v1 v2 v3
  obtain ⟨⟨x0, x1, x2, x3⟩, f0, f1, f2, f3⟩ := lz9.four
  clear hT hb9 hbw9
  go_wp2_with fail
  refine bodyPost_ret (res_term2 (p := 2) (q := 3) Try.results22 rfl (lz9.all _ _ _ _)) rfl ?_
  exact gives_allS HT.out (by omega) lz4.lt HW.out _ _ _ _
set_option maxHeartbeats 8000000 in
theorem step_eight_d (tn : Int) (ts : ByteArray) (tl : List Te) (A : Option Addr) (c0 : Nat) (w : World) (hI : EIn w Any (.node 8 tn ts tl) A) (hl0 : 2 ≤ tl.length) (hk : (prt tl 0).kind = 7) (hx : (prt tl 1).kind = 7) (hs : ts = ⟨#[43]⟩ ∨ ts = ⟨#[45]⟩ ∨ ts = ⟨#[42]⟩ ∨ ts = ⟨#[47]⟩ ∨ ts = ⟨#[60]⟩ ∨ ts = ⟨#[61, 61]⟩) :
    Calls Try.prog 22 #[ev (.node 8 tn ts tl) A c0] w (GivesS (opR ts (prt tl 0).n (prt tl 1).n).1 (opR ts (prt tl 0).n (prt tl 1).n).2 w) := by
  show Calls Try.prog 22 #[.agg #[.int .i64 8, .int .i64 tn, .string ts, .slice A tl.length (capF tl.length c0)]] w _
  have hl2 : 0 < tl.length := by omega
  have hl3 : 1 < tl.length := by omega
  obtain ⟨g0, o0, As, cs0, ⟨hA, _⟩, s0, s1, s2, s3, hIs⟩ := EIn.part hI 0 hl2
  obtain ⟨g9, o9, Ax, cx0, ⟨hA9, _⟩, d0, d1, d2, d3, hIx⟩ := EIn.part hI 1 hl3
  simp only [Te.parts] at s0 s1 s2 s3 hIs d0 d1 d2 d3 hIx
  subst hA
  have hA1 : g0 = g9 := by cases hA9; rfl
  have hA2 : o0 = o9 := by cases hA9; rfl
  subst hA1
  subst hA2
  clear hA9
  simp only [Nat.zero_mul, Nat.add_zero] at s0 s1 s2 s3
  have hpe : prt tl 0 = tl[0]'hl2 := by rw [prt, List.getD_eq_getElem?_getD, List.getElem?_eq_getElem hl2]; rfl
  have hpx : prt tl 1 = tl[1]'hl3 := by rw [prt, List.getD_eq_getElem?_getD, List.getElem?_eq_getElem hl3]; rfl
  rw [hpe] at hk
  rw [hpx] at hx
  rw [hpe, hpx]
  obtain ⟨Q, hQ⟩ : ∃ Q, Q = tl[0]'hl2 := ⟨_, rfl⟩
  rw [← hQ] at s0 s1 s2 s3 hIs hk
  rw [← hQ]
  obtain ⟨P, hP9⟩ : ∃ P, P = tl[1]'hl3 := ⟨_, rfl⟩
  rw [← hP9] at d0 d1 d2 d3 hIx hx
  rw [← hP9]
  clear hpe hQ hpx hP9 hI
  obtain ⟨sk, sn, ss, sl⟩ := Q
  obtain ⟨xk, xn, xs, xl⟩ := P
  simp only [Te.kind, Te.n, Te.name] at s0 s1 s2 s3 d0 d1 d2 d3 hk hx
  simp only [Te.n]
  subst hk
  have HV : Hid (valK 7 = true) := Lib.hid rfl
  subst hx
  have HVX : Hid (valK 7 = true) := Lib.hid rfl
  rw [EIn] at hIs hIx
  have HOP := Lib.hid (fun X => rop_any ts sn xn X hIs.1.2.1 hIs.1.2.2 hIx.1.2.1 hIx.1.2.2 hs)
  obtain ⟨U, hU⟩ : ∃ U, U = (opR ts sn xn).1 := ⟨_, rfl⟩
  obtain ⟨x, hxx⟩ : ∃ x, x = (opR ts sn xn).2 := ⟨_, rfl⟩
  rw [← hU, ← hxx] at HOP
  rw [← hU, ← hxx]
  clear hU hxx hs
  obtain ⟨uk, un, us, ul⟩ := U
  clear hIs hIx
  have hg0 : g0 < w.heap.size := cell_lt s0
  generalize capF sl.length cs0 = cs at *
  generalize sl.length = ms at *
  generalize capF xl.length cx0 = cx at *
  generalize xl.length = mx at *
  generalize capF tl.length c0 = ct at *
  generalize tl.length = mt at *
  replace d0 : w.cell? ⟨g0, o0 + 4, none⟩ = _ := d0
  replace d1 : w.cell? ⟨g0, o0 + 5, none⟩ = _ := d1
  replace d2 : w.cell? ⟨g0, o0 + 6, none⟩ = _ := d2
  replace d3 : w.cell? ⟨g0, o0 + 7, none⟩ = _ := d3
  have hb0 : Below w.heap.size w ((w.alloc (.cells #[.int .i64 8, .int .i64 tn, .string ts, .slice (some ⟨g0, o0, none⟩) mt ct] 24)).alloc (.cells #[.int .i64 0, .int .i64 0, .string ⟨#[]⟩, .slice none 0 0] 24)) := below2_new _ _
  have lt : Lies ((w.alloc (.cells #[.int .i64 8, .int .i64 tn, .string ts, .slice (some ⟨g0, o0, none⟩) mt ct] 24)).alloc (.cells #[.int .i64 0, .int .i64 0, .string ⟨#[]⟩, .slice none 0 0] 24)) w.heap.size 24 #[.int .i64 8, .int .i64 tn, .string ts, .slice (some ⟨g0, o0, none⟩) mt ct] := (Lies.new w _ _).old _
  have lz : Lies ((w.alloc (.cells #[.int .i64 8, .int .i64 tn, .string ts, .slice (some ⟨g0, o0, none⟩) mt ct] 24)).alloc (.cells #[.int .i64 0, .int .i64 0, .string ⟨#[]⟩, .slice none 0 0] 24)) (w.heap.size + 1) 24 #[.int .i64 0, .int .i64 0, .string ⟨#[]⟩, .slice none 0 0] := by simpa using Lies.new (w.alloc (.cells #[.int .i64 8, .int .i64 tn, .string ts, .slice (some ⟨g0, o0, none⟩) mt ct] 24)) 24 #[.int .i64 0, .int .i64 0, .string ⟨#[]⟩, .slice none 0 0]
  have hz0 : ((w.alloc (.cells #[.int .i64 8, .int .i64 tn, .string ts, .slice (some ⟨g0, o0, none⟩) mt ct] 24)).alloc (.cells #[.int .i64 0, .int .i64 0, .string ⟨#[]⟩, .slice none 0 0] 24)).heap.size = w.heap.size + 2 := by simp
  go_enter Try.func22, Try.ntmps22
  go_upto_region 1 with fail
  generalize ((w.alloc (.cells #[.int .i64 8, .int .i64 tn, .string ts, .slice (some ⟨g0, o0, none⟩) mt ct] 24)).alloc (.cells #[.int .i64 0, .int .i64 0, .string ⟨#[]⟩, .slice none 0 0] 24)) = W0 at *
  replace s0 := (hb0.cell (p := ⟨g0, _, none⟩) hg0).trans s0
  replace s1 := (hb0.cell (p := ⟨g0, _, none⟩) hg0).trans s1
  replace s2 := (hb0.cell (p := ⟨g0, _, none⟩) hg0).trans s2
  replace s3 := (hb0.cell (p := ⟨g0, _, none⟩) hg0).trans s3
  obtain ⟨⟨y0, y1, y2, y3⟩, _⟩ := lt.four
  have ls : Lies (W0.alloc (.cells #[.int .i64 7, .int .i64 sn, .string ss, .slice As ms cs] 24)) (w.heap.size + 2) 24 #[.int .i64 7, .int .i64 sn, .string ss, .slice As ms cs] := lies_next _ _ _ _ hz0.symm
  have lt1 := lt.old (.cells #[.int .i64 7, .int .i64 sn, .string ss, .slice As ms cs] 24)
  have lz1 := lz.old (.cells #[.int .i64 7, .int .i64 sn, .string ss, .slice As ms cs] 24)
  have hb1 := hb0.alloc hb0.size (.cells #[.int .i64 7, .int .i64 sn, .string ss, .slice As ms cs] 24)
  have hsz1 : w.heap.size + 3 ≤ (W0.alloc (.cells #[.int .i64 7, .int .i64 sn, .string ss, .slice As ms cs] 24)).heap.size := by simp; omega
  go_upto_region 4 with fail
  try simp only [hz0]
  clear s0 s1 s2 s3 y0 y1 y2 y3 hb0 lt lz hz0
  generalize (W0.alloc (.cells #[.int .i64 7, .int .i64 sn, .string ss, .slice As ms cs] 24)) = W1 at *
  obtain ⟨⟨x0, x1, x2, x3⟩, _⟩ := ls.four
  have HVC := Lib.hid (fun X => rvalue_any 7 sn ss As ms cs X)
  go_wp2_with fail
  refine (HVC.out _).mono ?_
  rintro e w2 ⟨rfl, hb2⟩
  rw [HV.out]
  have lt2 := lt1.below hb2 lt1.lt
  have ls2 := ls.below hb2 ls.lt
  have lz2 := lz1.below hb2 lz1.lt
  have hbw := hb1.trans (hb2.mono hb1.size)
  have hs2 : w.heap.size + 3 ≤ w2.heap.size := by have := hb2.size; omega
  clear x0 x1 x2 x3 ls lt1 lz1 hb1 hb2 hsz1 HVC
  obtain ⟨⟨y0, y1, y2, y3⟩, _⟩ := lt2.four
  replace d0 := (hbw.cell (p := ⟨g0, _, none⟩) hg0).trans d0
  replace d1 := (hbw.cell (p := ⟨g0, _, none⟩) hg0).trans d1
  replace d2 := (hbw.cell (p := ⟨g0, _, none⟩) hg0).trans d2
  replace d3 := (hbw.cell (p := ⟨g0, _, none⟩) hg0).trans d3
  have lx : Lies (w2.alloc (.cells #[.int .i64 7, .int .i64 xn, .string xs, .slice Ax mx cx] 24)) w2.heap.size 24 #[.int .i64 7, .int .i64 xn, .string xs, .slice Ax mx cx] := Lies.new _ _ _
  have lt3 := lt2.old (.cells #[.int .i64 7, .int .i64 xn, .string xs, .slice Ax mx cx] 24)
  have ls3 := ls2.old (.cells #[.int .i64 7, .int .i64 xn, .string xs, .slice Ax mx cx] 24)
  have lz3 := lz2.old (.cells #[.int .i64 7, .int .i64 xn, .string xs, .slice Ax mx cx] 24)
  have hb3 := hbw.alloc hbw.size (.cells #[.int .i64 7, .int .i64 xn, .string xs, .slice Ax mx cx] 24)
  have hs3 : w.heap.size + 3 ≤ (w2.alloc (.cells #[.int .i64 7, .int .i64 xn, .string xs, .slice Ax mx cx] 24)).heap.size := by simp; omega
  go_upto_region 13 with fail
  clear y0 y1 y2 y3 d0 d1 d2 d3 lt2 ls2 lz2 hbw
  generalize (w2.alloc (.cells #[.int .i64 7, .int .i64 xn, .string xs, .slice Ax mx cx] 24)) = W2 at *
  generalize w2.heap.size = b5 at *
  obtain ⟨⟨x0, x1, x2, x3⟩, _⟩ := ls3.four
  obtain ⟨⟨v0, v1, v2, v3⟩, _⟩ := lx.four
  have HVD := Lib.hid (fun X => rvalue_any 7 xn xs Ax mx cx X)
  go_wp2_with fail
  refine (HVD.out _).mono ?_
  rintro e w4 ⟨rfl, hb4⟩
  rw [HVX.out]
  have lt4 := lt3.below hb4 lt3.lt
  have ls4 := ls3.below hb4 ls3.lt
  have lx4 := lx.below hb4 lx.lt
  have lz4 := lz3.below hb4 lz3.lt
  have hbw4 := hb3.trans (hb4.mono hb3.size)
  have hs4 : w.heap.size + 3 ≤ w4.heap.size := by have := hb4.size; omega
  clear x0 x1 x2 x3 v0 v1 v2 v3 lt3 ls3 lx lz3 hb3 hb4 HVD
  obtain ⟨⟨y0, y1, y2, y3⟩, _⟩ := lt4.four
  obtain ⟨⟨x0, x1, x2, x3⟩, _⟩ := ls4.four
  obtain ⟨⟨v0, v1, v2, v3⟩, _⟩ := lx4.four
  go_wp2_with fail
  refine (HOP.out _).mono ?_
  rintro e w9 ⟨A2, c2, rfl, hT, hb9⟩
  simp only [ev, Te.kind, Te.n, Te.name, Te.parts]
  have lz9 := lz4.below hb9 lz4.lt
  have hbw9 := hbw4.trans (hb9.mono hbw4.size)
  have HT := Lib.hid hT
  have HW := Lib.hid hbw9
  clear x0 x1 x2 x3 y0 y1 y2 y3 v0 v1 v2 v3
  obtain ⟨⟨x0, x1, x2, x3⟩, f0, f1, f2, f3⟩ := lz9.four
  clear hT hb9 hbw9
  go_wp2_with fail
  refine bodyPost_ret (res_term2 (p := 2) (q := 3) Try.results22 rfl (lz9.all _ _ _ _)) rfl ?_
  exact gives_allS HT.out (by omega) lz4.lt HW.out _ _ _ _
end Lx
end Go.Proofs.Ytgnafcnokenogaa
namespace Go.Proofs.Ytgnafcnokenogaa
namespace Lx
set_option maxRecDepth 100000
theorem ch_name (F : Int → ByteArray → Int → Te) (t : Te) (b : Int) (h : t.kind ≠ 1) : (chE F t b).name = t.name := by
  obtain ⟨k, n, s, l⟩ := t
  rw [chE, if_neg (show ¬ k = 1 from h)]; rfl
theorem dup_ch (F : Int → ByteArray → Int → Te) (b : Int) (s : ByteArray) : ∀ met : List Te, (∀ t ∈ met, t.kind ≠ 1) → dupAt (met.map (chE F · b)) s = dupAt met s
  | [], _ => rfl
  | t :: r, h => by
    have := dup_ch F b s r fun u hu => h u (by simp [hu])
    simp only [dupAt, List.map_cons, List.any_cons] at this ⊢
    rw [this, ch_name F t b (h t (by simp))]
theorem may_kind {t : Te} {f : Int} (h : mayQ t f true = true) : t.kind = 6 := by
  obtain ⟨k, n, s, l⟩ := t
  rw [mayQ, Bool.and_eq_true, Bool.and_eq_true] at h
  have := h.2.1
  simp [headR] at this
  exact this.1
mutual
theorem may_ch {F : Int → ByteArray → Int → Te} {p f f' : Int} (hf : 0 ≤ f') (hv : ∀ n s b, 0 ≤ b → headR 1 n s 0 (f + b) false = true → mayQ (F n s (p + b)) (f' + b) false = true) :
    ∀ (t : Te) (b : Int) (a : Bool), 0 ≤ b → mayQ t (f + b) a = true → mayQ (chE F t (p + b)) (f' + b) a = true
  | .node k n s l, b, a, hb, h => by
    rw [mayQ, Bool.and_eq_true, Bool.and_eq_true] at h
    obtain ⟨h0, h1, h2⟩ := h
    by_cases hk : k = 1
    · subst hk
      have hq := head_var h1
      rw [hq.2.2.2, hq.2.2.1] at h1
      rw [chE, if_pos rfl, hq.2.2.2]
      exact hv n s b hb h1
    · have hm := more_nn (fun e => ((head_facts h1).1 e).1)
      have := may_chL hf hv k [] l (b + moreE k n) (by omega) (by simp) (by rw [show f + (b + moreE k n) = f + b + moreE k n by omega]; exact h2)
      rw [show p + (b + moreE k n) = p + b + moreE k n by omega, show f' + (b + moreE k n) = f' + b + moreE k n by omega] at this
      rw [chE, if_neg hk, mayQ, chEL_length, head_free (g := f + b) hk, h1, decide_eq_true (by omega : 0 ≤ f' + b)]
      simpa using this
theorem may_chL {F : Int → ByteArray → Int → Te} {p f f' : Int} (hf : 0 ≤ f') (hv : ∀ n s b, 0 ≤ b → headR 1 n s 0 (f + b) false = true → mayQ (F n s (p + b)) (f' + b) false = true) (k : Int) :
    ∀ (met l : List Te) (b : Int), 0 ≤ b → (k = 5 → ∀ t ∈ met.drop 1, t.kind ≠ 1) → mayQL k met l (f + b) = true → mayQL k (met.map (chE F · (p + b))) (chEL F l (p + b)) (f' + b) = true
  | _, [], _, _, _, _ => by rw [chEL, mayQL]
  | met, t :: r, b, hb, hm, h => by
    rw [mayQL, Bool.and_eq_true, Bool.and_eq_true] at h
    obtain ⟨h1, h2, h3⟩ := h
    have e1 := may_ch hf hv t b _ hb h1
    have e3 := may_chL hf hv k (met ++ [t]) r b hb (fun h5 u hu => by
      cases met with
      | nil => simp at hu
      | cons a q =>
        simp only [List.cons_append, List.drop_succ_cons, List.drop_zero, List.mem_append, List.mem_singleton] at hu
        rcases hu with hu | rfl
        · exact hm h5 u (by simpa using hu)
        · rw [h5] at h1
          have := may_kind (t := u) (f := f + b) (by simpa using h1)
          omega) h3
    rw [chEL, mayQL, Bool.and_eq_true, Bool.and_eq_true]
    refine ⟨by simpa using e1, ?_, by simpa using e3⟩
    by_cases h5 : k = 5
    · subst h5
      cases met with
      | nil => simp [dupAt]
      | cons a q =>
        have hq : 0 < (a :: q).length := by simp
        have hk6 := may_kind (t := t) (f := f + b) (by simpa using h1)
        rw [ch_name F t (p + b) (by omega)]
        have := dup_ch F (p + b) t.name q (fun u hu => hm rfl u (by simpa using hu))
        simp only [List.map_cons, List.drop_succ_cons, List.drop_zero] at h2 ⊢
        rw [this]
        exact h2
    · simp [h5]
end
theorem may_up {t : Te} {f u : Int} (hf : 0 ≤ f) (hu : 0 ≤ u) (h : mayQ t f false = true) : mayQ (upE t u 0) (f + u) false = true := by
  have := may_ch (F := upF u) (p := 0) (f := f) (f' := f + u) (by omega) (fun n s b hb h => by
    have hq := head_var h
    have hs : s.toList.isEmpty = true := by simp only [headR] at h; simp at h; exact by simpa using h.1
    rw [upF, mayQ, mayQL]
    simp [headR, hs]
    split <;> omega) t 0 false (by omega) (by simpa using h)
  simpa [upE] using this
theorem may_put {t x : Te} {f k : Int} (hf : 0 ≤ f) (hk : 0 ≤ k) (hkf : k ≤ f) (ht : mayQ t (f + 1) false = true) (hx : mayQ x f false = true) : mayQ (putE t k x) f false = true := by
  have := may_ch (F := putF k x) (p := 0) (f := f + 1) (f' := f) hf (fun n s b hb h => by
    have hq := head_var h
    have hs : s.toList.isEmpty = true := by simp only [headR] at h; simp at h; exact by simpa using h.1
    rw [putF]
    split
    · rw [Int.zero_add]; exact may_up hf hb hx
    · rw [mayQ, mayQL]
      simp [headR, hs]
      split <;> omega) t 0 false (by omega) (by simpa using ht)
  simpa [putE] using this
end Lx
end Go.Proofs.Ytgnafcnokenogaa
namespace Go.Proofs.Ytgnafcnokenogaa
namespace Lx
set_option maxRecDepth 100000
theorem v_inst (l : List Te) (n : Int) (s : ByteArray) (b : Int) : chE (instF l) (.node 1 n s []) b = instF l n s b := by rw [chE, if_pos rfl]
theorem lastE_snoc0 (l : List Te) (x : Te) : lastE (l ++ [x]) 0 = x := by simp [lastE, List.getD_eq_getElem?_getD]
theorem lastE_snoc (l : List Te) (x : Te) (i : Nat) (h : i < l.length) : lastE (l ++ [x]) (i + 1) = lastE l i := by
  rw [lastE, lastE, List.getD_eq_getElem?_getD, List.getD_eq_getElem?_getD, List.length_append, List.length_singleton, show l.length + 1 - 1 - (i + 1) = l.length - 1 - i by omega, List.getElem?_append_left (by omega)]
theorem inst_past {x : Te} (hw : wfE x) (l : List Te) (b : Int) (hb : 0 ≤ b) : chE (instF l) (chE (upF (l.length + b)) x 0) b = chE (upF b) x 0 := by
  have := ch_comp (F := upF (l.length + b)) (G := instF l) (H := upF b) (p := 0) (q := b) (r := 0) (fun n s d hd => by
    rw [upF, v_inst, instF, upF, if_neg (show ¬ (b + d ≤ (if 0 + d ≤ n then n + (↑l.length + b) else n) ∧ (if 0 + d ≤ n then n + (↑l.length + b) else n) < b + d + ↑l.length) by split <;> omega)]
    congr 1; (repeat' split) <;> omega) x 0 (by omega) hw
  simpa using this
theorem inst_step {t x : Te} (ht : wfE t) (hx : wfE x) (l : List Te) : instE t (l ++ [x]) = instE (putE t 0 (upE x l.length 0)) l := by
  have := ch_comp (F := putF 0 (upE x l.length 0)) (G := instF l) (H := instF (l ++ [x])) (p := 0) (q := 0) (r := 0) (fun n s b hb => by
    simp only [Int.zero_add]
    have hlen : ((l ++ [x]).length : Int) = l.length + 1 := by simp
    have L : putF 0 (upE x l.length 0) n s b = (if n = b then upE (upE x l.length 0) b 0 else .node 1 (if b < n then n - 1 else n) s []) := by rw [putF, Int.zero_add]
    rw [L, instF, hlen]
    by_cases h0 : n = b
    · rw [if_pos h0, if_pos (show b ≤ n ∧ n < b + (↑l.length + 1) by omega), upE, upE, up_up hx _ b 0 (by omega) (by omega), inst_past hx l b hb, show (n - b).toNat = 0 by omega, lastE_snoc0, upE]
    · rw [if_neg h0, v_inst, instF]
      by_cases h1 : b < n
      · rw [if_pos h1]
        by_cases h2 : n < b + (l.length + 1)
        · rw [if_pos (show b ≤ n - 1 ∧ n - 1 < b + ↑l.length by omega), if_pos (show b ≤ n ∧ n < b + (↑l.length + 1) by omega)]
          obtain ⟨i, hi⟩ : ∃ i : Nat, (n - b).toNat = i + 1 := ⟨(n - b).toNat - 1, by omega⟩
          rw [hi, lastE_snoc l x i (by omega), show (n - 1 - b).toNat = i by omega]
        · rw [if_neg (show ¬ (b ≤ n - 1 ∧ n - 1 < b + ↑l.length) by omega), if_neg (show ¬ (b ≤ n ∧ n < b + (↑l.length + 1)) by omega)]
          congr 1; (repeat' split) <;> omega
      · rw [if_neg h1, if_neg (show ¬ (b ≤ n ∧ n < b + ↑l.length) by omega), if_neg (show ¬ (b ≤ n ∧ n < b + (↑l.length + 1)) by omega), if_neg h1, if_neg h1]) t 0 (by omega) ht
  simpa [instE, putE] using this.symm
theorem inst_nil {t : Te} (ht : wfE t) : instE t [] = t := by
  have h := ch_same t 0 ht
  have e : instF [] = fun n s _ => Te.node 1 n s [] := by
    funext n s b
    rw [instF, if_neg (by simp <;> omega)]
    simp
  rw [instE, e]
  exact h
theorem up_zero {t : Te} (ht : wfE t) : upE t 0 0 = t := by
  have e : upF 0 = fun n s _ => Te.node 1 n s [] := by
    funext n s b
    rw [upF]; simp
  rw [upE, e]
  exact ch_same t 0 ht
/-- One term alone. -/
theorem inst_one {t x : Te} (ht : wfE t) (hx : wfE x) : instE t [x] = putE t 0 x := by
  have h := inst_step ht hx []
  rw [List.nil_append] at h
  rw [h, show (([] : List Te).length : Int) = 0 from rfl, up_zero hx]
  exact inst_nil (wf_put _ _ _ _ hx ht)
end Lx
end Go.Proofs.Ytgnafcnokenogaa
namespace Go.Proofs.Ytgnafcnokenogaa
namespace Lx
set_option maxRecDepth 100000
theorem may_node {k n : Int} {s : ByteArray} {l : List Te} {f : Int} {a : Bool} (h : mayQ (.node k n s l) f a = true) : headR k n s l.length f a = true ∧ mayQL k [] l (f + moreE k n) = true := by
  rw [mayQ, Bool.and_eq_true, Bool.and_eq_true] at h
  exact h.2
theorem may_len {k n : Int} {s : ByteArray} {l : List Te} {f : Int} {a : Bool} (h : mayQ (.node k n s l) f a = true) : (k = 2 → l.length = 1) ∧ (k = 3 ∨ k = 8 → l.length = 2) ∧ (k = 5 → 2 ≤ l.length) ∧ (k = 6 → l.length = 1 ∧ 0 ≤ n ∧ n ≤ 8 ∧ a = true) ∧ (k = 1 ∨ k = 7 ∨ k = 9 → l = []) ∧ l.length ≤ 9 := by
  have h1 := (may_node h).1
  have h9 := (head_facts h1).2
  cases a with
  | true =>
    simp [headR] at h1
    refine ⟨by omega, by omega, by omega, fun _ => ⟨h1.2.2.2.2, h1.2.2.1, h1.2.2.2.1, rfl⟩, by omega, h9⟩
  | false =>
    unfold headR at h1
    simp only [Bool.false_eq_true, if_false] at h1
    split at h1
    · simp at h1; exact ⟨by omega, by omega, by omega, by omega, fun _ => h1.2.1, h9⟩
    · split at h1
      · simp at h1; exact ⟨fun _ => h1.2, by omega, by omega, by omega, by omega, h9⟩
      · split at h1
        · simp at h1; exact ⟨by omega, fun _ => h1.2, by omega, by omega, by omega, h9⟩
        · split at h1
          · exact ⟨by omega, by omega, by omega, by omega, by omega, h9⟩
          · split at h1
            · simp at h1; exact ⟨by omega, by omega, by omega, by omega, by omega, h9⟩
            · split at h1
              · simp at h1; exact ⟨by omega, by omega, by omega, by omega, fun _ => h1.2, h9⟩
              · split at h1
                · simp at h1; exact ⟨by omega, fun _ => h1.2.2, by omega, by omega, by omega, h9⟩
                · split at h1
                  · simp at h1; exact ⟨by omega, by omega, by omega, by omega, fun _ => h1.2, h9⟩
                  · cases h1
/-- A part, ahead of any alternative. -/
theorem may_at (k : Int) : ∀ (met l : List Te) (f : Int) (i : Nat) (hi : i < l.length), mayQL k met l f = true → mayQ (l[i]'hi) f (decide (k = 5) && decide (0 < met.length + i)) = true
  | _, [], _, _, hi, _ => by simp at hi
  | met, t :: r, f, 0, _, h => by
    rw [mayQL, Bool.and_eq_true] at h
    simpa using h.1
  | met, t :: r, f, i + 1, hi, h => by
    rw [mayQL, Bool.and_eq_true, Bool.and_eq_true] at h
    have := may_at k (met ++ [t]) r f i (by simpa using hi) h.2.2
    rw [List.length_append, List.length_singleton, show met.length + 1 + i = met.length + (i + 1) by omega] at this
    simpa using this
theorem may_set0 {k : Int} {t x : Te} {r : List Te} {f : Int} (h : mayQL k [] (t :: r) f = true) (hx : mayQ x f false = true) : mayQL k [] (x :: r) f = true := by
  rw [mayQL, Bool.and_eq_true, Bool.and_eq_true] at h ⊢
  refine ⟨by simpa using hx, by simp [dupAt], ?_⟩
  have : ∀ (q r : List Te), mayQL k (t :: q) r f = true → mayQL k (x :: q) r f = true := by
    intro q r
    induction r generalizing q with
    | nil => intro _; rw [mayQL]
    | cons a r ih =>
      intro h
      rw [mayQL, Bool.and_eq_true, Bool.and_eq_true] at h ⊢
      exact ⟨by simpa using h.1, by simpa using h.2.1, ih (q ++ [a]) h.2.2⟩
  exact this [] r h.2.2
theorem may_set1 {k : Int} {t u x : Te} {f : Int} (hk : k ≠ 5) (h : mayQL k [] [t, u] f = true) (hx : mayQ x f false = true) : mayQL k [] [t, x] f = true := by
  simp only [mayQL, Bool.and_eq_true] at h ⊢
  exact ⟨h.1, by simp [hk], by simpa [hk] using hx, by simp [hk], trivial⟩
theorem wait_lt {t : Te} {i : Nat} {f : Int} {a : Bool} (hm : mayQ t f a = true) (h : waitE t = some i) : i < t.parts.length := by
  obtain ⟨k, n, s, l⟩ := t
  have hl := may_len hm
  have hk : k = 3 ∨ k = 5 ∨ k = 8 := (wait_kind h).2
  show i < l.length
  replace h : waitK k l = some i := h
  unfold waitK at h
  split at h
  · split at h
    · cases h
    · cases h; omega
  · split at h
    · split at h
      · split at h
        · cases h
        · cases h; omega
      · split at h
        · cases h
        · cases h; omega
    · cases h
theorem wait_one {t : Te} {i : Nat} (h : waitE t = some i) : i = 0 ∨ (i = 1 ∧ t.kind = 8) := by
  unfold waitE waitK at h
  split at h
  · split at h
    · cases h
    · cases h; exact .inl rfl
  · split at h
    · rename_i h8
      split at h
      · split at h
        · cases h
        · cases h; exact .inr ⟨rfl, h8⟩
      · split at h
        · cases h
        · cases h; exact .inl rfl
    · cases h
theorem more_wait {k n : Int} (h : k = 3 ∨ k = 5 ∨ k = 8) : moreE k n = 0 := by
  unfold moreE
  rw [if_neg (by omega), if_neg (by omega)]
/-- The part that is waited for may be. -/
theorem may_wait {t : Te} {i : Nat} {f : Int} (hm : mayQ t f false = true) (h : waitE t = some i) : mayQ (prt t.parts i) f false = true := by
  have hlt := wait_lt hm h
  have hk0 := (wait_kind h).2
  have h1 := wait_one h
  obtain ⟨k, n, s, l⟩ := t
  have hk : k = 3 ∨ k = 5 ∨ k = 8 := hk0
  have h2 := (may_node hm).2
  rw [more_wait hk, Int.add_zero] at h2
  have h3 := may_at k [] l f i hlt h2
  simp only [Te.parts, Te.kind] at hlt h1 ⊢
  rw [prt, List.getD_eq_getElem?_getD, List.getElem?_eq_getElem hlt]
  rcases h1 with rfl | ⟨rfl, h8⟩
  · simpa using h3
  · subst h8; simpa using h3
theorem may_setE {t x : Te} {i : Nat} {f : Int} (hm : mayQ t f false = true) (h : waitE t = some i) (hx : mayQ x f false = true) : mayQ (setE t i x) f false = true := by
  have hlt := wait_lt hm h
  have hk0 := (wait_kind h).2
  have h1 := wait_one h
  obtain ⟨k, n, s, l⟩ := t
  have hk : k = 3 ∨ k = 5 ∨ k = 8 := hk0
  have hl := may_len hm
  rw [mayQ, Bool.and_eq_true, Bool.and_eq_true] at hm
  obtain ⟨h0, hh, h2⟩ := hm
  simp only [Te.parts, Te.kind] at hlt h1
  rw [more_wait hk, Int.add_zero] at h2
  rw [setE]
  simp only [Te.kind, Te.n, Te.name, Te.parts]
  rw [mayQ, h0, List.length_set, hh, more_wait hk, Int.add_zero]
  rcases h1 with rfl | ⟨rfl, h8⟩
  · cases l with
    | nil => simp at hlt
    | cons a r => simpa using may_set0 h2 hx
  · have h9 := hl.2.1 (.inr h8)
    match l, h9 with
    | [a, b], _ => simpa using may_set1 (by omega) h2 hx
end Lx
end Go.Proofs.Ytgnafcnokenogaa
namespace Go.Proofs.Ytgnafcnokenogaa
open Go.RowKit
namespace Lx
set_option maxRecDepth 100000
theorem prt_in {l : List Te} {i : Nat} (h : i < l.length) : prt l i = l[i]'h := by rw [prt, List.getD_eq_getElem?_getD, List.getElem?_eq_getElem h]; rfl
theorem fineR_part {t : Te} (h : FineR t) {i : Nat} (hi : i < t.parts.length) : FineR (prt t.parts i) := by
  obtain ⟨k, n, s, l⟩ := t
  obtain ⟨h1, h2, h3⟩ := h
  rw [depthE] at h1
  rw [sizeE] at h2
  rw [tameE] at h3
  rw [prt_in hi]
  have hmem : (l[i]'hi) ∈ l := List.getElem_mem hi
  have d := depthEL_mem l _ hmem
  have s := sizeEL_mem l _ hmem
  exact ⟨by show depthE (l[i]'hi) ≤ _; omega, by show sizeE (l[i]'hi) ≤ _; omega, tameEL_mem l _ hmem h3.2.2⟩
theorem fineR_len {t : Te} (h : FineR t) : t.parts.length ≤ 100000 := by
  obtain ⟨k, n, s, l⟩ := t
  have := h.2.1
  rw [sizeE] at this
  have := sizeEL_len l
  show l.length ≤ 100000
  omega
theorem ops_of {s : ByteArray} (h : opV s.data.toList = true) : s = ⟨#[43]⟩ ∨ s = ⟨#[45]⟩ ∨ s = ⟨#[42]⟩ ∨ s = ⟨#[47]⟩ ∨ s = ⟨#[60]⟩ ∨ s = ⟨#[61, 61]⟩ := by
  obtain ⟨⟨l⟩⟩ := s
  simp only [opV, Bool.or_eq_true, beq_iff_eq] at h
  rcases h with rfl | rfl | rfl | rfl | rfl | rfl <;> simp
theorem opR_reckon (s : ByteArray) (a b : Te) (ha : a.kind = 7) (hb : b.kind = 7) : opR s a.n b.n = reckonE s a b := by
  unfold opR reckonE
  by_cases h : s = ⟨#[47]⟩ ∧ b.n = 0
  · rw [if_pos h, if_neg (fun h9 => h9.2.2 h)]
  · rw [if_neg h, if_pos ⟨ha, hb, h⟩]
theorem EIn.narrow (t : Te) {w : World} {Y : Nat → Prop} {A : Option Addr} (h : EIn w Y t A) : EIn w (fun b => Y b ∧ b < w.heap.size) t A := EIn.wide t h fun _ hY hlt => ⟨hY, hlt⟩
set_option maxHeartbeats 4000000 in
theorem rstep_any (d : Nat) : ∀ (Y : Nat → Prop) (t : Te) (A : Option Addr) (c0 : Nat) (w : World) (f : Int), depthE t ≤ d → EIn w Y t A → mayQ t f false = true → FineR t →
    Calls Try.prog 22 #[ev t A c0] w (GivesN Y (stepE t).1 (stepE t).2 w) := by
  induction d with
  | zero => intro Y t A c0 w f h; have := depthE_pos t; omega
  | succ d ih =>
    intro Y t A c0 w f hd hI hm hf
    have hW : ∀ (i : Nat), waitE t = some i → ∀ X, Below w.heap.size w X → Calls Try.prog 37 #[ev t A c0, .int .i64 (i : Int)] X (GivesN (fun b => Y b ∧ b < w.heap.size) (stepE t).1 (stepE t).2 X) := fun i hw X hX => by
      have hi := wait_lt hm hw
      have hdp : depthE (prt t.parts i) ≤ d := by
        obtain ⟨k, n, s, l⟩ := t
        rw [depthE] at hd
        have h9 : prt l i ∈ l := by rw [prt_in (show i < l.length from hi)]; exact List.getElem_mem hi
        have := depthEL_mem l _ h9
        show depthE (prt l i) ≤ d
        omega
      have h := within_any (fun b => Y b ∧ b < w.heap.size) t (stepE (prt t.parts i)).1 i (stepE (prt t.parts i)).2 A c0 X (EIn.below _ (EIn.narrow _ hI) hX (Nat.le_refl _)) hi (fineR_len hf)
        (fun A' c' X' Z hI' => ih Z (prt t.parts i) A' c' X' f hdp hI' (may_wait hm hw) (fineR_part hf hi))
      have e := within_step (depthE (prt t.parts i)) t i
      change (if (stepE (prt t.parts i)).2 = 0 then t else setE t i (stepE (prt t.parts i)).1) = setE t i (stepE (prt t.parts i)).1 at e
      rw [e] at h
      rw [stepE_wait hw]
      exact h
    obtain ⟨k, n, s, l⟩ := t
    have hlf := fineR_len hf
    simp only [Te.parts] at hlf
    by_cases h3 : k = 3
    · subst h3
      have hl : l.length = 2 := (may_len hm).2.1 (.inl rfl)
      cases hv : valK (prt l 0).kind with
      | false =>
        have hw : waitE (.node 3 n s l) = some 0 := by
          show waitK 3 l = some 0
          rw [waitK, if_pos (.inl rfl), if_neg (by rw [hv]; decide)]
        exact step_part3 Y _ _ n s l A c0 w hI (by omega) hv (fun X hX => hW 0 hw X hX)
      | true =>
        have hw : waitE (.node 3 n s l) = none := by
          show waitK 3 l = none
          rw [waitK, if_pos (.inl rfl), if_pos hv]
        rw [stepE_act hw]
        have ha : actE (.node 3 n s l) = applyE (prt l 0) (prt l 1) := rfl
        rw [ha, applyE]
        by_cases h2 : (prt l 0).kind = 2
        · rw [if_pos h2]
          have h9 := may_at 3 [] l _ 0 (by omega) (may_node hm).2
          rw [← prt_in (by omega)] at h9
          have hf0 := fineR_part hf (i := 0) (by show 0 < l.length; omega)
          have hf1 := fineR_part hf (i := 1) (by show 1 < l.length; omega)
          simp only [Te.parts] at hf0 hf1
          have hp1 : 1 ≤ (prt l 0).parts.length := by
            generalize prt l 0 = u at h9 h2
            obtain ⟨uk, un, us, ul⟩ := u
            have := (may_len h9).1 h2
            show 1 ≤ ul.length
            omega
          exact (step_put n s l A c0 w (EIn.any _ hI) (by omega) h2 hp1 (fineR_part hf0 hp1) hf1).mono fun _ _ h => h.n
        · rw [if_neg h2]
          exact (step_fail3 n s l A c0 w (EIn.any _ hI) (by omega) hv h2).mono fun _ _ h => h.n
    · by_cases h5 : k = 5
      · subst h5
        have hl : 2 ≤ l.length := (may_len hm).2.2.1 rfl
        cases hv : valK (prt l 0).kind with
        | false =>
          have hw : waitE (.node 5 n s l) = some 0 := by
            show waitK 5 l = some 0
            rw [waitK, if_pos (.inr rfl), if_neg (by rw [hv]; decide)]
          exact step_part5 Y _ _ n s l A c0 w hI (by omega) hv (fun X hX => hW 0 hw X hX)
        | true =>
          have hw : waitE (.node 5 n s l) = none := by
            show waitK 5 l = none
            rw [waitK, if_pos (.inr rfl), if_pos hv]
          rw [stepE_act hw]
          have ha : actE (.node 5 n s l) = chooseE (prt l 0) (l.drop 1) := rfl
          rw [ha]
          have hf0 := fineR_part hf (i := 0) (by show 0 < l.length; omega)
          simp only [Te.parts] at hf0
          refine (step_five n s l A c0 w (EIn.any _ hI) (by omega) hlf hv (fineR_len hf0) (fun u hu => ?_) (fun i h1 hi => ?_)).mono fun _ _ h => h.n
          · obtain ⟨j, hj, rfl⟩ := List.getElem_of_mem hu
            rw [← prt_in hj]
            exact fineR_part hf0 hj
          · have h9 := may_at 5 [] l _ i hi (may_node hm).2
            have h6 : (decide ((5 : Int) = 5) && decide (0 < ([] : List Te).length + i)) = true := by simp; omega
            rw [h6, ← prt_in hi] at h9
            have hfi := fineR_part hf (i := i) hi
            simp only [Te.parts] at hfi
            generalize prt l i = u at h9 hfi
            have hk6 := may_kind h9
            obtain ⟨uk, un, us, ul⟩ := u
            have := ((may_len h9).2.2.2.1 hk6).1
            exact ⟨by show 1 ≤ ul.length; omega, fineR_part hfi (by show 0 < ul.length; omega)⟩
      · by_cases h8 : k = 8
        · subst h8
          have hl : l.length = 2 := (may_len hm).2.1 (.inr rfl)
          cases hv : valK (prt l 0).kind with
          | false =>
            have h7 : ¬ (prt l 0).kind = 7 := fun e => by rw [e] at hv; revert hv; decide
            have hw : waitE (.node 8 n s l) = some 0 := by
              show waitK 8 l = some 0
              rw [waitK, if_neg (by decide), if_pos rfl, if_neg h7, if_neg (by rw [hv]; decide)]
            exact step_part8 Y _ _ n s l A c0 w hI (by omega) hv (fun X hX => hW 0 hw X hX)
          | true =>
            by_cases h7 : (prt l 0).kind = 7
            · cases hv1 : valK (prt l 1).kind with
              | false =>
                have hw : waitE (.node 8 n s l) = some 1 := by
                  show waitK 8 l = some 1
                  rw [waitK, if_neg (by decide), if_pos rfl, if_pos h7, if_neg (by rw [hv1]; decide)]
                exact step_eight_b n s l A c0 w (EIn.any _ hI) (by omega) h7 hv1 Y _ _ (fun X hX => hW 1 hw X hX)
              | true =>
                have hw : waitE (.node 8 n s l) = none := by
                  show waitK 8 l = none
                  rw [waitK, if_neg (by decide), if_pos rfl, if_pos h7, if_pos hv1]
                rw [stepE_act hw]
                have ha : actE (.node 8 n s l) = reckonE s (prt l 0) (prt l 1) := rfl
                rw [ha]
                by_cases h71 : (prt l 1).kind = 7
                · have hs : opV s.data.toList = true := by
                    have h1 := (may_node hm).1
                    simp [headR] at h1
                    exact h1.1
                  rw [← opR_reckon s _ _ h7 h71]
                  exact (step_eight_d n s l A c0 w (EIn.any _ hI) (by omega) h7 h71 (ops_of hs)).mono fun _ _ h => h.n
                · rw [reckonE, if_neg (fun h => h71 h.2.1)]
                  exact (step_eight_c n s l A c0 w (EIn.any _ hI) (by omega) h7 hv1 h71).mono fun _ _ h => h.n
            · have hw : waitE (.node 8 n s l) = none := by
                show waitK 8 l = none
                rw [waitK, if_neg (by decide), if_pos rfl, if_neg h7, if_pos hv]
              rw [stepE_act hw]
              have ha : actE (.node 8 n s l) = reckonE s (prt l 0) (prt l 1) := rfl
              rw [ha, reckonE, if_neg (fun h => h7 h.1)]
              exact (step_eight_a n s l A c0 w (EIn.any _ hI) (by omega) hv h7).mono fun _ _ h => h.n
        · have hw : waitE (.node k n s l) = none := by
            show waitK k l = none
            rw [waitK, if_neg (by omega), if_neg h8]
          have ha : actE (.node k n s l) = (.node k n s l, 0) := by
            show (if k = 3 then _ else if k = 5 then _ else if k = 8 then _ else _) = _
            rw [if_neg h3, if_neg h5, if_neg h8]
          rw [stepE_act hw, ha]
          exact step_other Y (.node k n s l) A c0 w hI h3 h5 h8
end Lx
end Go.Proofs.Ytgnafcnokenogaa
namespace Go.Proofs.Ytgnafcnokenogaa
open Go Go.RowKit
namespace Lx
set_option maxRecDepth 100000
/-- A number more, at its place, if it is not there: what is laid so far, and is it laid? -/
def wStep (n : Int) (s : List Int × Bool) (x : Int) : List Int × Bool :=
  ((if s.2 = false ∧ n ≤ x then s.1 ++ [n] else s.1) ++ (if x = n then [] else [x]), s.2 || decide (n ≤ x))
def wFold (n : Int) (xs : List Int) : List Int × Bool := xs.foldl (wStep n) ([], false)
def insL (xs : List Int) (n : Int) : List Int := (wFold n xs).1 ++ (if (wFold n xs).2 then [] else [n])
theorem wFold_take (n : Int) (xs : List Int) (i : Nat) (h : i < xs.length) : wFold n (xs.take (i + 1)) = wStep n (wFold n (xs.take i)) (xs[i]'h) := by
  simp only [wFold]
  rw [List.take_succ_eq_append_getElem h, List.foldl_append]
  rfl
theorem wFold_len (n : Int) (xs : List Int) : (wFold n xs).1.length ≤ 2 * xs.length := by
  have : ∀ (ys : List Int) (s : List Int × Bool), (ys.foldl (wStep n) s).1.length ≤ s.1.length + 2 * ys.length := by
    intro ys
    induction ys with
    | nil => intro s; simp
    | cons y r ih =>
      intro s
      rw [List.foldl_cons]
      have := ih (wStep n s y)
      have h2 : (wStep n s y).1.length ≤ s.1.length + 2 := by
        simp only [wStep, List.length_append]
        split <;> split <;> simp
      simp only [List.length_cons]
      omega
  have := this xs ([], false)
  simpa [wFold] using this
theorem wFold_take_len (n : Int) (xs : List Int) (i : Nat) : (wFold n (xs.take i)).1.length ≤ 2 * xs.length := by
  have := wFold_len n (xs.take i)
  have : (xs.take i).length ≤ xs.length := by simp; omega
  omega
end Lx
end Go.Proofs.Ytgnafcnokenogaa
