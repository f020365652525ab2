/-
  Texts that lie one behind the other: H9T H9U H9V.
-/
import Derived.Test.YtgnafcnokenogaaC15
namespace Go.Proofs.Ytgnafcnokenogaa
open Go.RowKit
namespace Lx
set_option maxRecDepth 100000
theorem gives_allN {Y : Nat → Prop} {u : Te} {x : Int} {A2 : Option Addr} {c2 : Nat} {w W w2 : World} {g : Nat} (hT : EIn w2 (fun b => ((Y b ∧ b < w.heap.size) ∧ b < W.heap.size) ∨ W.heap.size ≤ b) u A2) (h0 : w.heap.size ≤ g) (h1 : g < W.heap.size) (hb : Below w.heap.size w w2) (a b c d : Value) :
    GivesN Y u x w (.returned (.tuple #[ev u A2 c2, .int .i64 x])) ((((w2.setCell ⟨g, 0, none⟩ a).setCell ⟨g, 1, none⟩ b).setCell ⟨g, 2, none⟩ c).setCell ⟨g, 3, none⟩ d) := by
  refine ⟨A2, c2, rfl, EIn.keep _ hT fun b' j hX _ => ⟨?_, ?_⟩, Below.all hb h0 _ _ _ _⟩
  · have hne : ∀ q, (⟨g, q, none⟩ : Addr) ≠ ⟨b', j, none⟩ := fun q e => by
      injection e with e
      rcases hX with k | k <;> omega
    rw [World.cell?_setCell_other _ _ _ _ (hne _), World.cell?_setCell_other _ _ _ _ (hne _), World.cell?_setCell_other _ _ _ _ (hne _), World.cell?_setCell_other _ _ _ _ (hne _)]
  · rcases hX with k | k
    · exact .inl k.1
    · exact .inr (by omega)
set_option maxHeartbeats 8000000 in
theorem step_part3 (Y : Nat → Prop) (U : Te) (x : Int) (tn : Int) (ts : ByteArray) (tl : List Te) (A : Option Addr) (c0 : Nat) (w : World) (hI : EIn w Y (.node 3 tn ts tl) A) (hl0 : 0 < tl.length) (hv : valK (prt tl 0).kind = false)
    (hP : ∀ X, Below w.heap.size w X → Calls Try.prog 37 #[ev (.node 3 tn ts tl) A c0, .int .i64 0] X (GivesN (fun b => Y b ∧ b < w.heap.size) U x X)) :
    Calls Try.prog 22 #[ev (.node 3 tn ts tl) A c0] w (GivesN Y U x w) := by
  simp only [ev, Te.kind, Te.n, Te.name, Te.parts] at hP
  have HP := Lib.hid hP
  clear hP
  obtain ⟨uk, un, us, ul⟩ := U
  show Calls Try.prog 22 #[.agg #[.int .i64 3, .int .i64 tn, .string ts, .slice A tl.length (capF tl.length c0)]] w _
  obtain ⟨g0, o0, As, cs0, ⟨hA, _⟩, s0, s1, s2, s3, hIs⟩ := EIn.part hI 0 hl0
  simp only [Te.parts] at s0 s1 s2 s3 hIs
  subst hA
  simp only [Nat.zero_mul, Nat.add_zero] at s0 s1 s2 s3
  have hpe : prt tl 0 = tl[0]'hl0 := by rw [prt, List.getD_eq_getElem?_getD, List.getElem?_eq_getElem hl0]; rfl
  rw [hpe] at hv
  obtain ⟨Q, hQ⟩ : ∃ Q, Q = tl[0]'hl0 := ⟨_, rfl⟩
  rw [← hQ] at s0 s1 s2 s3 hv
  clear hpe hQ hIs hI
  obtain ⟨sk, sn, ss, sl⟩ := Q
  simp only [Te.kind, Te.n, Te.name] at s0 s1 s2 s3 hv
  have hg0 : g0 < w.heap.size := cell_lt s0
  generalize capF sl.length cs0 = cs at *
  generalize sl.length = ms at *
  generalize capF tl.length c0 = ct at *
  generalize tl.length = mt at *
  have hb0 : Below w.heap.size w ((w.alloc (.cells #[.int .i64 3, .int .i64 tn, .string ts, .slice (some ⟨g0, o0, none⟩) mt ct] 24)).alloc (.cells #[.int .i64 0, .int .i64 0, .string ⟨#[]⟩, .slice none 0 0] 24)) := below2_new _ _
  have lt : Lies ((w.alloc (.cells #[.int .i64 3, .int .i64 tn, .string ts, .slice (some ⟨g0, o0, none⟩) mt ct] 24)).alloc (.cells #[.int .i64 0, .int .i64 0, .string ⟨#[]⟩, .slice none 0 0] 24)) w.heap.size 24 #[.int .i64 3, .int .i64 tn, .string ts, .slice (some ⟨g0, o0, none⟩) mt ct] := (Lies.new w _ _).old _
  have lz : Lies ((w.alloc (.cells #[.int .i64 3, .int .i64 tn, .string ts, .slice (some ⟨g0, o0, none⟩) mt ct] 24)).alloc (.cells #[.int .i64 0, .int .i64 0, .string ⟨#[]⟩, .slice none 0 0] 24)) (w.heap.size + 1) 24 #[.int .i64 0, .int .i64 0, .string ⟨#[]⟩, .slice none 0 0] := by simpa using Lies.new (w.alloc (.cells #[.int .i64 3, .int .i64 tn, .string ts, .slice (some ⟨g0, o0, none⟩) mt ct] 24)) 24 #[.int .i64 0, .int .i64 0, .string ⟨#[]⟩, .slice none 0 0]
  have hz0 : ((w.alloc (.cells #[.int .i64 3, .int .i64 tn, .string ts, .slice (some ⟨g0, o0, none⟩) mt ct] 24)).alloc (.cells #[.int .i64 0, .int .i64 0, .string ⟨#[]⟩, .slice none 0 0] 24)).heap.size = w.heap.size + 2 := by simp
  have HV := Lib.hid hv
  clear hv
  go_enter Try.func22, Try.ntmps22
  go_upto_region 1 with fail
  generalize ((w.alloc (.cells #[.int .i64 3, .int .i64 tn, .string ts, .slice (some ⟨g0, o0, none⟩) mt ct] 24)).alloc (.cells #[.int .i64 0, .int .i64 0, .string ⟨#[]⟩, .slice none 0 0] 24)) = W0 at *
  replace s0 := (hb0.cell (p := ⟨g0, _, none⟩) hg0).trans s0
  replace s1 := (hb0.cell (p := ⟨g0, _, none⟩) hg0).trans s1
  replace s2 := (hb0.cell (p := ⟨g0, _, none⟩) hg0).trans s2
  replace s3 := (hb0.cell (p := ⟨g0, _, none⟩) hg0).trans s3
  obtain ⟨⟨y0, y1, y2, y3⟩, _⟩ := lt.four
  have ls : Lies (W0.alloc (.cells #[.int .i64 sk, .int .i64 sn, .string ss, .slice As ms cs] 24)) (w.heap.size + 2) 24 #[.int .i64 sk, .int .i64 sn, .string ss, .slice As ms cs] := lies_next _ _ _ _ hz0.symm
  have lt1 := lt.old (.cells #[.int .i64 sk, .int .i64 sn, .string ss, .slice As ms cs] 24)
  have lz1 := lz.old (.cells #[.int .i64 sk, .int .i64 sn, .string ss, .slice As ms cs] 24)
  have hb1 := hb0.alloc hb0.size (.cells #[.int .i64 sk, .int .i64 sn, .string ss, .slice As ms cs] 24)
  have hsz1 : w.heap.size + 3 ≤ (W0.alloc (.cells #[.int .i64 sk, .int .i64 sn, .string ss, .slice As ms cs] 24)).heap.size := by simp; omega
  go_upto_region 4 with fail
  try simp only [hz0]
  clear s0 s1 s2 s3 y0 y1 y2 y3 hb0 lt lz hz0
  generalize (W0.alloc (.cells #[.int .i64 sk, .int .i64 sn, .string ss, .slice As ms cs] 24)) = W1 at *
  obtain ⟨⟨x0, x1, x2, x3⟩, _⟩ := ls.four
  have HVC := Lib.hid (fun X => rvalue_any sk sn ss As ms cs X)
  go_wp2_with fail
  refine (HVC.out _).mono ?_
  rintro e w2 ⟨rfl, hb2⟩
  rw [HV.out]
  have lt2 := lt1.below hb2 lt1.lt
  have lz2 := lz1.below hb2 lz1.lt
  have hbw := hb1.trans (hb2.mono hb1.size)
  have hs2 : w.heap.size + 3 ≤ w2.heap.size := by have := hb2.size; omega
  clear x0 x1 x2 x3 ls lt1 lz1 hb1 hb2 hsz1 HVC
  obtain ⟨⟨y0, y1, y2, y3⟩, _⟩ := lt2.four
  go_wp2_with fail
  refine (HP.out _ hbw).mono ?_
  rintro e w3 ⟨A2, c2, rfl, hT, hb3⟩
  simp only [ev, Te.kind, Te.n, Te.name, Te.parts]
  have lz3 := lz2.below hb3 lz2.lt
  have hbw3 := hbw.trans (hb3.mono hbw.size)
  obtain ⟨⟨x0, x1, x2, x3⟩, f0, f1, f2, f3⟩ := lz3.four
  have HT := Lib.hid hT
  have HW := Lib.hid hbw3
  clear hT hb3 hbw3 HP
  go_wp2_with fail
  refine bodyPost_ret (res_term2 (p := 2) (q := 3) Try.results22 rfl (lz3.all _ _ _ _)) rfl ?_
  exact gives_allN HT.out (by omega) lz2.lt HW.out _ _ _ _
set_option maxHeartbeats 8000000 in
theorem step_part5 (Y : Nat → Prop) (U : Te) (x : Int) (tn : Int) (ts : ByteArray) (tl : List Te) (A : Option Addr) (c0 : Nat) (w : World) (hI : EIn w Y (.node 5 tn ts tl) A) (hl0 : 0 < tl.length) (hv : valK (prt tl 0).kind = false)
    (hP : ∀ X, Below w.heap.size w X → Calls Try.prog 37 #[ev (.node 5 tn ts tl) A c0, .int .i64 0] X (GivesN (fun b => Y b ∧ b < w.heap.size) U x X)) :
    Calls Try.prog 22 #[ev (.node 5 tn ts tl) A c0] w (GivesN Y U x w) := by
  simp only [ev, Te.kind, Te.n, Te.name, Te.parts] at hP
  have HP := Lib.hid hP
  clear hP
  obtain ⟨uk, un, us, ul⟩ := U
  show Calls Try.prog 22 #[.agg #[.int .i64 5, .int .i64 tn, .string ts, .slice A tl.length (capF tl.length c0)]] w _
  obtain ⟨g0, o0, As, cs0, ⟨hA, _⟩, s0, s1, s2, s3, hIs⟩ := EIn.part hI 0 hl0
  simp only [Te.parts] at s0 s1 s2 s3 hIs
  subst hA
  simp only [Nat.zero_mul, Nat.add_zero] at s0 s1 s2 s3
  have hpe : prt tl 0 = tl[0]'hl0 := by rw [prt, List.getD_eq_getElem?_getD, List.getElem?_eq_getElem hl0]; rfl
  rw [hpe] at hv
  obtain ⟨Q, hQ⟩ : ∃ Q, Q = tl[0]'hl0 := ⟨_, rfl⟩
  rw [← hQ] at s0 s1 s2 s3 hv
  clear hpe hQ hIs hI
  obtain ⟨sk, sn, ss, sl⟩ := Q
  simp only [Te.kind, Te.n, Te.name] at s0 s1 s2 s3 hv
  have hg0 : g0 < w.heap.size := cell_lt s0
  generalize capF sl.length cs0 = cs at *
  generalize sl.length = ms at *
  generalize capF tl.length c0 = ct at *
  generalize tl.length = mt at *
  have hb0 : Below w.heap.size w ((w.alloc (.cells #[.int .i64 5, .int .i64 tn, .string ts, .slice (some ⟨g0, o0, none⟩) mt ct] 24)).alloc (.cells #[.int .i64 0, .int .i64 0, .string ⟨#[]⟩, .slice none 0 0] 24)) := below2_new _ _
  have lt : Lies ((w.alloc (.cells #[.int .i64 5, .int .i64 tn, .string ts, .slice (some ⟨g0, o0, none⟩) mt ct] 24)).alloc (.cells #[.int .i64 0, .int .i64 0, .string ⟨#[]⟩, .slice none 0 0] 24)) w.heap.size 24 #[.int .i64 5, .int .i64 tn, .string ts, .slice (some ⟨g0, o0, none⟩) mt ct] := (Lies.new w _ _).old _
  have lz : Lies ((w.alloc (.cells #[.int .i64 5, .int .i64 tn, .string ts, .slice (some ⟨g0, o0, none⟩) mt ct] 24)).alloc (.cells #[.int .i64 0, .int .i64 0, .string ⟨#[]⟩, .slice none 0 0] 24)) (w.heap.size + 1) 24 #[.int .i64 0, .int .i64 0, .string ⟨#[]⟩, .slice none 0 0] := by simpa using Lies.new (w.alloc (.cells #[.int .i64 5, .int .i64 tn, .string ts, .slice (some ⟨g0, o0, none⟩) mt ct] 24)) 24 #[.int .i64 0, .int .i64 0, .string ⟨#[]⟩, .slice none 0 0]
  have hz0 : ((w.alloc (.cells #[.int .i64 5, .int .i64 tn, .string ts, .slice (some ⟨g0, o0, none⟩) mt ct] 24)).alloc (.cells #[.int .i64 0, .int .i64 0, .string ⟨#[]⟩, .slice none 0 0] 24)).heap.size = w.heap.size + 2 := by simp
  have HV := Lib.hid hv
  clear hv
  go_enter Try.func22, Try.ntmps22
  go_upto_region 1 with fail
  generalize ((w.alloc (.cells #[.int .i64 5, .int .i64 tn, .string ts, .slice (some ⟨g0, o0, none⟩) mt ct] 24)).alloc (.cells #[.int .i64 0, .int .i64 0, .string ⟨#[]⟩, .slice none 0 0] 24)) = W0 at *
  replace s0 := (hb0.cell (p := ⟨g0, _, none⟩) hg0).trans s0
  replace s1 := (hb0.cell (p := ⟨g0, _, none⟩) hg0).trans s1
  replace s2 := (hb0.cell (p := ⟨g0, _, none⟩) hg0).trans s2
  replace s3 := (hb0.cell (p := ⟨g0, _, none⟩) hg0).trans s3
  obtain ⟨⟨y0, y1, y2, y3⟩, _⟩ := lt.four
  have ls : Lies (W0.alloc (.cells #[.int .i64 sk, .int .i64 sn, .string ss, .slice As ms cs] 24)) (w.heap.size + 2) 24 #[.int .i64 sk, .int .i64 sn, .string ss, .slice As ms cs] := lies_next _ _ _ _ hz0.symm
  have lt1 := lt.old (.cells #[.int .i64 sk, .int .i64 sn, .string ss, .slice As ms cs] 24)
  have lz1 := lz.old (.cells #[.int .i64 sk, .int .i64 sn, .string ss, .slice As ms cs] 24)
  have hb1 := hb0.alloc hb0.size (.cells #[.int .i64 sk, .int .i64 sn, .string ss, .slice As ms cs] 24)
  have hsz1 : w.heap.size + 3 ≤ (W0.alloc (.cells #[.int .i64 sk, .int .i64 sn, .string ss, .slice As ms cs] 24)).heap.size := by simp; omega
  go_upto_region 4 with fail
  try simp only [hz0]
  clear s0 s1 s2 s3 y0 y1 y2 y3 hb0 lt lz hz0
  generalize (W0.alloc (.cells #[.int .i64 sk, .int .i64 sn, .string ss, .slice As ms cs] 24)) = W1 at *
  obtain ⟨⟨x0, x1, x2, x3⟩, _⟩ := ls.four
  have HVC := Lib.hid (fun X => rvalue_any sk sn ss As ms cs X)
  go_wp2_with fail
  refine (HVC.out _).mono ?_
  rintro e w2 ⟨rfl, hb2⟩
  rw [HV.out]
  have lt2 := lt1.below hb2 lt1.lt
  have lz2 := lz1.below hb2 lz1.lt
  have hbw := hb1.trans (hb2.mono hb1.size)
  have hs2 : w.heap.size + 3 ≤ w2.heap.size := by have := hb2.size; omega
  clear x0 x1 x2 x3 ls lt1 lz1 hb1 hb2 hsz1 HVC
  obtain ⟨⟨y0, y1, y2, y3⟩, _⟩ := lt2.four
  go_wp2_with fail
  refine (HP.out _ hbw).mono ?_
  rintro e w3 ⟨A2, c2, rfl, hT, hb3⟩
  simp only [ev, Te.kind, Te.n, Te.name, Te.parts]
  have lz3 := lz2.below hb3 lz2.lt
  have hbw3 := hbw.trans (hb3.mono hbw.size)
  obtain ⟨⟨x0, x1, x2, x3⟩, f0, f1, f2, f3⟩ := lz3.four
  have HT := Lib.hid hT
  have HW := Lib.hid hbw3
  clear hT hb3 hbw3 HP
  go_wp2_with fail
  refine bodyPost_ret (res_term2 (p := 2) (q := 3) Try.results22 rfl (lz3.all _ _ _ _)) rfl ?_
  exact gives_allN HT.out (by omega) lz2.lt HW.out _ _ _ _
set_option maxHeartbeats 8000000 in
theorem step_part8 (Y : Nat → Prop) (U : Te) (x : Int) (tn : Int) (ts : ByteArray) (tl : List Te) (A : Option Addr) (c0 : Nat) (w : World) (hI : EIn w Y (.node 8 tn ts tl) A) (hl0 : 0 < tl.length) (hv : valK (prt tl 0).kind = false)
    (hP : ∀ X, Below w.heap.size w X → Calls Try.prog 37 #[ev (.node 8 tn ts tl) A c0, .int .i64 0] X (GivesN (fun b => Y b ∧ b < w.heap.size) U x X)) :
    Calls Try.prog 22 #[ev (.node 8 tn ts tl) A c0] w (GivesN Y U x w) := by
  simp only [ev, Te.kind, Te.n, Te.name, Te.parts] at hP
  have HP := Lib.hid hP
  clear hP
  obtain ⟨uk, un, us, ul⟩ := U
  show Calls Try.prog 22 #[.agg #[.int .i64 8, .int .i64 tn, .string ts, .slice A tl.length (capF tl.length c0)]] w _
  obtain ⟨g0, o0, As, cs0, ⟨hA, _⟩, s0, s1, s2, s3, hIs⟩ := EIn.part hI 0 hl0
  simp only [Te.parts] at s0 s1 s2 s3 hIs
  subst hA
  simp only [Nat.zero_mul, Nat.add_zero] at s0 s1 s2 s3
  have hpe : prt tl 0 = tl[0]'hl0 := by rw [prt, List.getD_eq_getElem?_getD, List.getElem?_eq_getElem hl0]; rfl
  rw [hpe] at hv
  obtain ⟨Q, hQ⟩ : ∃ Q, Q = tl[0]'hl0 := ⟨_, rfl⟩
  rw [← hQ] at s0 s1 s2 s3 hv
  clear hpe hQ hIs hI
  obtain ⟨sk, sn, ss, sl⟩ := Q
  simp only [Te.kind, Te.n, Te.name] at s0 s1 s2 s3 hv
  have hg0 : g0 < w.heap.size := cell_lt s0
  generalize capF sl.length cs0 = cs at *
  generalize sl.length = ms at *
  generalize capF tl.length c0 = ct at *
  generalize tl.length = mt at *
  have hb0 : Below w.heap.size w ((w.alloc (.cells #[.int .i64 8, .int .i64 tn, .string ts, .slice (some ⟨g0, o0, none⟩) mt ct] 24)).alloc (.cells #[.int .i64 0, .int .i64 0, .string ⟨#[]⟩, .slice none 0 0] 24)) := below2_new _ _
  have lt : Lies ((w.alloc (.cells #[.int .i64 8, .int .i64 tn, .string ts, .slice (some ⟨g0, o0, none⟩) mt ct] 24)).alloc (.cells #[.int .i64 0, .int .i64 0, .string ⟨#[]⟩, .slice none 0 0] 24)) w.heap.size 24 #[.int .i64 8, .int .i64 tn, .string ts, .slice (some ⟨g0, o0, none⟩) mt ct] := (Lies.new w _ _).old _
  have lz : Lies ((w.alloc (.cells #[.int .i64 8, .int .i64 tn, .string ts, .slice (some ⟨g0, o0, none⟩) mt ct] 24)).alloc (.cells #[.int .i64 0, .int .i64 0, .string ⟨#[]⟩, .slice none 0 0] 24)) (w.heap.size + 1) 24 #[.int .i64 0, .int .i64 0, .string ⟨#[]⟩, .slice none 0 0] := by simpa using Lies.new (w.alloc (.cells #[.int .i64 8, .int .i64 tn, .string ts, .slice (some ⟨g0, o0, none⟩) mt ct] 24)) 24 #[.int .i64 0, .int .i64 0, .string ⟨#[]⟩, .slice none 0 0]
  have hz0 : ((w.alloc (.cells #[.int .i64 8, .int .i64 tn, .string ts, .slice (some ⟨g0, o0, none⟩) mt ct] 24)).alloc (.cells #[.int .i64 0, .int .i64 0, .string ⟨#[]⟩, .slice none 0 0] 24)).heap.size = w.heap.size + 2 := by simp
  have HV := Lib.hid hv
  clear hv
  go_enter Try.func22, Try.ntmps22
  go_upto_region 1 with fail
  generalize ((w.alloc (.cells #[.int .i64 8, .int .i64 tn, .string ts, .slice (some ⟨g0, o0, none⟩) mt ct] 24)).alloc (.cells #[.int .i64 0, .int .i64 0, .string ⟨#[]⟩, .slice none 0 0] 24)) = W0 at *
  replace s0 := (hb0.cell (p := ⟨g0, _, none⟩) hg0).trans s0
  replace s1 := (hb0.cell (p := ⟨g0, _, none⟩) hg0).trans s1
  replace s2 := (hb0.cell (p := ⟨g0, _, none⟩) hg0).trans s2
  replace s3 := (hb0.cell (p := ⟨g0, _, none⟩) hg0).trans s3
  obtain ⟨⟨y0, y1, y2, y3⟩, _⟩ := lt.four
  have ls : Lies (W0.alloc (.cells #[.int .i64 sk, .int .i64 sn, .string ss, .slice As ms cs] 24)) (w.heap.size + 2) 24 #[.int .i64 sk, .int .i64 sn, .string ss, .slice As ms cs] := lies_next _ _ _ _ hz0.symm
  have lt1 := lt.old (.cells #[.int .i64 sk, .int .i64 sn, .string ss, .slice As ms cs] 24)
  have lz1 := lz.old (.cells #[.int .i64 sk, .int .i64 sn, .string ss, .slice As ms cs] 24)
  have hb1 := hb0.alloc hb0.size (.cells #[.int .i64 sk, .int .i64 sn, .string ss, .slice As ms cs] 24)
  have hsz1 : w.heap.size + 3 ≤ (W0.alloc (.cells #[.int .i64 sk, .int .i64 sn, .string ss, .slice As ms cs] 24)).heap.size := by simp; omega
  go_upto_region 4 with fail
  try simp only [hz0]
  clear s0 s1 s2 s3 y0 y1 y2 y3 hb0 lt lz hz0
  generalize (W0.alloc (.cells #[.int .i64 sk, .int .i64 sn, .string ss, .slice As ms cs] 24)) = W1 at *
  obtain ⟨⟨x0, x1, x2, x3⟩, _⟩ := ls.four
  have HVC := Lib.hid (fun X => rvalue_any sk sn ss As ms cs X)
  go_wp2_with fail
  refine (HVC.out _).mono ?_
  rintro e w2 ⟨rfl, hb2⟩
  rw [HV.out]
  have lt2 := lt1.below hb2 lt1.lt
  have lz2 := lz1.below hb2 lz1.lt
  have hbw := hb1.trans (hb2.mono hb1.size)
  have hs2 : w.heap.size + 3 ≤ w2.heap.size := by have := hb2.size; omega
  clear x0 x1 x2 x3 ls lt1 lz1 hb1 hb2 hsz1 HVC
  obtain ⟨⟨y0, y1, y2, y3⟩, _⟩ := lt2.four
  go_wp2_with fail
  refine (HP.out _ hbw).mono ?_
  rintro e w3 ⟨A2, c2, rfl, hT, hb3⟩
  simp only [ev, Te.kind, Te.n, Te.name, Te.parts]
  have lz3 := lz2.below hb3 lz2.lt
  have hbw3 := hbw.trans (hb3.mono hbw.size)
  obtain ⟨⟨x0, x1, x2, x3⟩, f0, f1, f2, f3⟩ := lz3.four
  have HT := Lib.hid hT
  have HW := Lib.hid hbw3
  clear hT hb3 hbw3 HP
  go_wp2_with fail
  refine bodyPost_ret (res_term2 (p := 2) (q := 3) Try.results22 rfl (lz3.all _ _ _ _)) rfl ?_
  exact gives_allN HT.out (by omega) lz2.lt HW.out _ _ _ _
end Lx
end Go.Proofs.Ytgnafcnokenogaa
namespace Go.Proofs.Ytgnafcnokenogaa
open Go.RowKit
namespace Lx
set_option maxRecDepth 100000
set_option maxHeartbeats 8000000 in
theorem step_fail3 (tn : Int) (ts : ByteArray) (tl : List Te) (A : Option Addr) (c0 : Nat) (w : World) (hI : EIn w Any (.node 3 tn ts tl) A) (hl0 : 0 < tl.length) (hv : valK (prt tl 0).kind = true) (hk : (prt tl 0).kind ≠ 2) :
    Calls Try.prog 22 #[ev (.node 3 tn ts tl) A c0] w (GivesS failE 4 w) := by
  have HP := Lib.hid (fun X => rfail_any X)
  obtain ⟨U, hU⟩ : ∃ U, U = failE := ⟨_, rfl⟩
  rw [← hU] at HP
  rw [← hU]
  clear hU
  obtain ⟨uk, un, us, ul⟩ := U
  show Calls Try.prog 22 #[.agg #[.int .i64 3, .int .i64 tn, .string ts, .slice A tl.length (capF tl.length c0)]] w _
  obtain ⟨g0, o0, As, cs0, ⟨hA, _⟩, s0, s1, s2, s3, hIs⟩ := EIn.part hI 0 hl0
  simp only [Te.parts] at s0 s1 s2 s3 hIs
  subst hA
  simp only [Nat.zero_mul, Nat.add_zero] at s0 s1 s2 s3
  have hpe : prt tl 0 = tl[0]'hl0 := by rw [prt, List.getD_eq_getElem?_getD, List.getElem?_eq_getElem hl0]; rfl
  rw [hpe] at hv hk
  obtain ⟨Q, hQ⟩ : ∃ Q, Q = tl[0]'hl0 := ⟨_, rfl⟩
  rw [← hQ] at s0 s1 s2 s3 hv hk
  clear hpe hQ hIs hI
  obtain ⟨sk, sn, ss, sl⟩ := Q
  simp only [Te.kind, Te.n, Te.name] at s0 s1 s2 s3 hv hk
  have e2 : (sk == 2) = false := by simpa using hk
  clear hk
  have hg0 : g0 < w.heap.size := cell_lt s0
  generalize capF sl.length cs0 = cs at *
  generalize sl.length = ms at *
  generalize capF tl.length c0 = ct at *
  generalize tl.length = mt at *
  have hb0 : Below w.heap.size w ((w.alloc (.cells #[.int .i64 3, .int .i64 tn, .string ts, .slice (some ⟨g0, o0, none⟩) mt ct] 24)).alloc (.cells #[.int .i64 0, .int .i64 0, .string ⟨#[]⟩, .slice none 0 0] 24)) := below2_new _ _
  have lt : Lies ((w.alloc (.cells #[.int .i64 3, .int .i64 tn, .string ts, .slice (some ⟨g0, o0, none⟩) mt ct] 24)).alloc (.cells #[.int .i64 0, .int .i64 0, .string ⟨#[]⟩, .slice none 0 0] 24)) w.heap.size 24 #[.int .i64 3, .int .i64 tn, .string ts, .slice (some ⟨g0, o0, none⟩) mt ct] := (Lies.new w _ _).old _
  have lz : Lies ((w.alloc (.cells #[.int .i64 3, .int .i64 tn, .string ts, .slice (some ⟨g0, o0, none⟩) mt ct] 24)).alloc (.cells #[.int .i64 0, .int .i64 0, .string ⟨#[]⟩, .slice none 0 0] 24)) (w.heap.size + 1) 24 #[.int .i64 0, .int .i64 0, .string ⟨#[]⟩, .slice none 0 0] := by simpa using Lies.new (w.alloc (.cells #[.int .i64 3, .int .i64 tn, .string ts, .slice (some ⟨g0, o0, none⟩) mt ct] 24)) 24 #[.int .i64 0, .int .i64 0, .string ⟨#[]⟩, .slice none 0 0]
  have hz0 : ((w.alloc (.cells #[.int .i64 3, .int .i64 tn, .string ts, .slice (some ⟨g0, o0, none⟩) mt ct] 24)).alloc (.cells #[.int .i64 0, .int .i64 0, .string ⟨#[]⟩, .slice none 0 0] 24)).heap.size = w.heap.size + 2 := by simp
  have HV := Lib.hid hv
  clear hv
  go_enter Try.func22, Try.ntmps22
  go_upto_region 1 with fail
  generalize ((w.alloc (.cells #[.int .i64 3, .int .i64 tn, .string ts, .slice (some ⟨g0, o0, none⟩) mt ct] 24)).alloc (.cells #[.int .i64 0, .int .i64 0, .string ⟨#[]⟩, .slice none 0 0] 24)) = W0 at *
  replace s0 := (hb0.cell (p := ⟨g0, _, none⟩) hg0).trans s0
  replace s1 := (hb0.cell (p := ⟨g0, _, none⟩) hg0).trans s1
  replace s2 := (hb0.cell (p := ⟨g0, _, none⟩) hg0).trans s2
  replace s3 := (hb0.cell (p := ⟨g0, _, none⟩) hg0).trans s3
  obtain ⟨⟨y0, y1, y2, y3⟩, _⟩ := lt.four
  have ls : Lies (W0.alloc (.cells #[.int .i64 sk, .int .i64 sn, .string ss, .slice As ms cs] 24)) (w.heap.size + 2) 24 #[.int .i64 sk, .int .i64 sn, .string ss, .slice As ms cs] := lies_next _ _ _ _ hz0.symm
  have lt1 := lt.old (.cells #[.int .i64 sk, .int .i64 sn, .string ss, .slice As ms cs] 24)
  have lz1 := lz.old (.cells #[.int .i64 sk, .int .i64 sn, .string ss, .slice As ms cs] 24)
  have hb1 := hb0.alloc hb0.size (.cells #[.int .i64 sk, .int .i64 sn, .string ss, .slice As ms cs] 24)
  have hsz1 : w.heap.size + 3 ≤ (W0.alloc (.cells #[.int .i64 sk, .int .i64 sn, .string ss, .slice As ms cs] 24)).heap.size := by simp; omega
  go_upto_region 4 with fail
  try simp only [hz0]
  clear s0 s1 s2 s3 y0 y1 y2 y3 hb0 lt lz hz0
  generalize (W0.alloc (.cells #[.int .i64 sk, .int .i64 sn, .string ss, .slice As ms cs] 24)) = W1 at *
  obtain ⟨⟨x0, x1, x2, x3⟩, _⟩ := ls.four
  have HVC := Lib.hid (fun X => rvalue_any sk sn ss As ms cs X)
  go_wp2_with fail
  refine (HVC.out _).mono ?_
  rintro e w2 ⟨rfl, hb2⟩
  rw [HV.out]
  have lt2 := lt1.below hb2 lt1.lt
  have lz2 := lz1.below hb2 lz1.lt
  have hbw := hb1.trans (hb2.mono hb1.size)
  have hs2 : w.heap.size + 3 ≤ w2.heap.size := by have := hb2.size; omega
  have ls2 := ls.below hb2 ls.lt
  clear x0 x1 x2 x3 ls lt1 lz1 hb1 hb2 hsz1 HVC
  obtain ⟨⟨x0, x1, x2, x3⟩, _⟩ := ls2.four
  obtain ⟨⟨y0, y1, y2, y3⟩, _⟩ := lt2.four
  go_wp2_with fail
  refine (HP.out _).mono ?_
  rintro e w3 ⟨A2, c2, rfl, hT, hb3⟩
  simp only [ev, Te.kind, Te.n, Te.name, Te.parts]
  have lz3 := lz2.below hb3 lz2.lt
  clear x0 x1 x2 x3
  have hbw3 := hbw.trans (hb3.mono hbw.size)
  obtain ⟨⟨x0, x1, x2, x3⟩, f0, f1, f2, f3⟩ := lz3.four
  have HT := Lib.hid hT
  have HW := Lib.hid hbw3
  clear hT hb3 hbw3 HP
  go_wp2_with fail
  refine bodyPost_ret (res_term2 (p := 2) (q := 3) Try.results22 rfl (lz3.all _ _ _ _)) rfl ?_
  exact gives_allS HT.out (by omega) lz2.lt HW.out _ _ _ _
end Lx
end Go.Proofs.Ytgnafcnokenogaa
namespace Go.Proofs.Ytgnafcnokenogaa
open Go.RowKit
namespace Lx
set_option maxRecDepth 100000
set_option maxHeartbeats 8000000 in
theorem step_put (tn : Int) (ts : ByteArray) (tl : List Te) (A : Option Addr) (c0 : Nat) (w : World) (hI : EIn w Any (.node 3 tn ts tl) A) (hl0 : 2 ≤ tl.length) (hk : (prt tl 0).kind = 2) (hl1 : 1 ≤ (prt tl 0).parts.length) (hfb : FineR (prt (prt tl 0).parts 0)) (hfx : FineR (prt tl 1)) :
    Calls Try.prog 22 #[ev (.node 3 tn ts tl) A c0] w (GivesS (putE (prt (prt tl 0).parts 0) 0 (prt tl 1)) 1 w) := by
  show Calls Try.prog 22 #[.agg #[.int .i64 3, .int .i64 tn, .string ts, .slice A tl.length (capF tl.length c0)]] w _
  have hl2 : 0 < tl.length := by omega
  have hl3 : 1 < tl.length := by omega
  obtain ⟨g0, o0, As, cs0, ⟨hA, _⟩, s0, s1, s2, s3, hIs⟩ := EIn.part hI 0 hl2
  obtain ⟨g9, o9, Ax, cx, ⟨hA9, _⟩, d0, d1, d2, d3, hIx⟩ := EIn.part hI 1 hl3
  simp only [Te.parts] at s0 s1 s2 s3 hIs d0 d1 d2 d3 hIx
  subst hA
  have hA1 : g0 = g9 := by cases hA9; rfl
  have hA2 : o0 = o9 := by cases hA9; rfl
  subst hA1
  subst hA2
  clear hA9
  simp only [Nat.zero_mul, Nat.add_zero] at s0 s1 s2 s3
  have hpe : prt tl 0 = tl[0]'hl2 := by rw [prt, List.getD_eq_getElem?_getD, List.getElem?_eq_getElem hl2]; rfl
  have hpx : prt tl 1 = tl[1]'hl3 := by rw [prt, List.getD_eq_getElem?_getD, List.getElem?_eq_getElem hl3]; rfl
  rw [hpx] at hfx
  rw [hpe] at hk hl1 hfb
  rw [hpe, hpx]
  obtain ⟨Q, hQ⟩ : ∃ Q, Q = tl[0]'hl2 := ⟨_, rfl⟩
  rw [← hQ] at s0 s1 s2 s3 hk hl1 hfb hIs
  rw [← hQ]
  clear hpe hQ hpx
  obtain ⟨P, hP⟩ : ∃ P, P = tl[1]'hl3 := ⟨_, rfl⟩
  rw [← hP] at d0 d1 d2 d3 hIx hfx
  rw [← hP]
  clear hP hI
  obtain ⟨sk, sn, ss, sl⟩ := Q
  obtain ⟨xk, xn, xs, xl⟩ := P
  simp only [Te.kind, Te.n, Te.name, Te.parts] at s0 s1 s2 s3 hk hl1 hfb d0 d1 d2 d3
  simp only [Te.parts]
  subst hk
  obtain ⟨ga, oa, Ab, cb, ⟨hAb, _⟩, b0, b1, b2, b3, hIb⟩ := EIn.part hIs 0 hl1
  simp only [Te.parts] at b0 b1 b2 b3 hIb
  subst hAb
  simp only [Nat.zero_mul, Nat.add_zero] at b0 b1 b2 b3
  have hpb : prt sl 0 = sl[0]'hl1 := by rw [prt, List.getD_eq_getElem?_getD, List.getElem?_eq_getElem hl1]; rfl
  rw [hpb] at hfb
  rw [hpb]
  obtain ⟨B, hB⟩ : ∃ B, B = sl[0]'hl1 := ⟨_, rfl⟩
  rw [← hB] at b0 b1 b2 b3 hIb hfb
  rw [← hB]
  clear hB hpb hIs
  obtain ⟨bk, bn, bs, bl⟩ := B
  simp only [Te.kind, Te.n, Te.name] at b0 b1 b2 b3
  have hg0 : g0 < w.heap.size := cell_lt s0
  have hga : ga < w.heap.size := cell_lt b0
  generalize capF sl.length cs0 = cs at *
  generalize sl.length = ms at *
  generalize capF tl.length c0 = ct at *
  generalize tl.length = mt at *
  replace d0 : w.cell? ⟨g0, o0 + 4, none⟩ = _ := d0
  replace d1 : w.cell? ⟨g0, o0 + 5, none⟩ = _ := d1
  replace d2 : w.cell? ⟨g0, o0 + 6, none⟩ = _ := d2
  replace d3 : w.cell? ⟨g0, o0 + 7, none⟩ = _ := d3
  have hb0 : Below w.heap.size w ((w.alloc (.cells #[.int .i64 3, .int .i64 tn, .string ts, .slice (some ⟨g0, o0, none⟩) mt ct] 24)).alloc (.cells #[.int .i64 0, .int .i64 0, .string ⟨#[]⟩, .slice none 0 0] 24)) := below2_new _ _
  have lt : Lies ((w.alloc (.cells #[.int .i64 3, .int .i64 tn, .string ts, .slice (some ⟨g0, o0, none⟩) mt ct] 24)).alloc (.cells #[.int .i64 0, .int .i64 0, .string ⟨#[]⟩, .slice none 0 0] 24)) w.heap.size 24 #[.int .i64 3, .int .i64 tn, .string ts, .slice (some ⟨g0, o0, none⟩) mt ct] := (Lies.new w _ _).old _
  have lz : Lies ((w.alloc (.cells #[.int .i64 3, .int .i64 tn, .string ts, .slice (some ⟨g0, o0, none⟩) mt ct] 24)).alloc (.cells #[.int .i64 0, .int .i64 0, .string ⟨#[]⟩, .slice none 0 0] 24)) (w.heap.size + 1) 24 #[.int .i64 0, .int .i64 0, .string ⟨#[]⟩, .slice none 0 0] := by simpa using Lies.new (w.alloc (.cells #[.int .i64 3, .int .i64 tn, .string ts, .slice (some ⟨g0, o0, none⟩) mt ct] 24)) 24 #[.int .i64 0, .int .i64 0, .string ⟨#[]⟩, .slice none 0 0]
  have hz0 : ((w.alloc (.cells #[.int .i64 3, .int .i64 tn, .string ts, .slice (some ⟨g0, o0, none⟩) mt ct] 24)).alloc (.cells #[.int .i64 0, .int .i64 0, .string ⟨#[]⟩, .slice none 0 0] 24)).heap.size = w.heap.size + 2 := by simp
  have HIB := Lib.hid hIb
  have HIX := Lib.hid hIx
  clear hIb hIx
  go_enter Try.func22, Try.ntmps22
  go_upto_region 1 with fail
  generalize ((w.alloc (.cells #[.int .i64 3, .int .i64 tn, .string ts, .slice (some ⟨g0, o0, none⟩) mt ct] 24)).alloc (.cells #[.int .i64 0, .int .i64 0, .string ⟨#[]⟩, .slice none 0 0] 24)) = W0 at *
  have t0 := (hb0.cell (p := ⟨g0, _, none⟩) hg0).trans s0
  have t1 := (hb0.cell (p := ⟨g0, _, none⟩) hg0).trans s1
  have t2 := (hb0.cell (p := ⟨g0, _, none⟩) hg0).trans s2
  have t3 := (hb0.cell (p := ⟨g0, _, none⟩) hg0).trans s3
  obtain ⟨⟨y0, y1, y2, y3⟩, _⟩ := lt.four
  have ls : Lies (W0.alloc (.cells #[.int .i64 2, .int .i64 sn, .string ss, .slice (some ⟨ga, oa, none⟩) ms cs] 24)) (w.heap.size + 2) 24 #[.int .i64 2, .int .i64 sn, .string ss, .slice (some ⟨ga, oa, none⟩) ms cs] := lies_next _ _ _ _ hz0.symm
  have lt1 := lt.old (.cells #[.int .i64 2, .int .i64 sn, .string ss, .slice (some ⟨ga, oa, none⟩) ms cs] 24)
  have lz1 := lz.old (.cells #[.int .i64 2, .int .i64 sn, .string ss, .slice (some ⟨ga, oa, none⟩) ms cs] 24)
  have hb1 := hb0.alloc hb0.size (.cells #[.int .i64 2, .int .i64 sn, .string ss, .slice (some ⟨ga, oa, none⟩) ms cs] 24)
  have hsz1 : w.heap.size + 3 ≤ (W0.alloc (.cells #[.int .i64 2, .int .i64 sn, .string ss, .slice (some ⟨ga, oa, none⟩) ms cs] 24)).heap.size := by simp; omega
  go_upto_region 4 with fail
  try simp only [hz0]
  clear s0 s1 s2 s3 t0 t1 t2 t3 y0 y1 y2 y3 hb0 lt lz hz0
  generalize (W0.alloc (.cells #[.int .i64 2, .int .i64 sn, .string ss, .slice (some ⟨ga, oa, none⟩) ms cs] 24)) = W1 at *
  obtain ⟨⟨x0, x1, x2, x3⟩, _⟩ := ls.four
  have HVC := Lib.hid (fun X => rvalue_any 2 sn ss (some ⟨ga, oa, none⟩) ms cs X)
  go_wp2_with fail
  refine (HVC.out _).mono ?_
  rintro e V0 ⟨rfl, hb2⟩
  rw [show valK 2 = true from rfl]
  have lt2 := lt1.below hb2 lt1.lt
  have ls2 := ls.below hb2 ls.lt
  have lz := lz1.below hb2 lz1.lt
  have hb0 := hb1.trans (hb2.mono hb1.size)
  have hb0lt : w.heap.size + 3 ≤ V0.heap.size := by have := hb2.size; omega
  clear x0 x1 x2 x3 ls lt1 lz1 hb1 hb2 hsz1 HVC
  obtain ⟨⟨y0, y1, y2, y3⟩, _⟩ := lt2.four
  obtain ⟨⟨x0, x1, x2, x3⟩, _⟩ := ls2.four
  go_upto_region 10 with fail
  clear x0 x1 x2 x3 y0 y1 y2 y3
  have HSS : Hid (∀ V', Below V0.heap.size V0 V' → (fun V' : World => (V'.cell? ⟨w.heap.size, 0, none⟩ = some (.int .i64 3) ∧ V'.cell? ⟨w.heap.size, 1, none⟩ = some (.int .i64 tn) ∧ V'.cell? ⟨w.heap.size, 2, none⟩ = some (.string ts) ∧ V'.cell? ⟨w.heap.size, 3, none⟩ = some (.slice (some ⟨g0, o0, none⟩) mt ct) ∧ V'.cell? ⟨w.heap.size + 2, 0, none⟩ = some (.int .i64 2) ∧ V'.cell? ⟨w.heap.size + 2, 1, none⟩ = some (.int .i64 sn) ∧ V'.cell? ⟨w.heap.size + 2, 2, none⟩ = some (.string ss) ∧ V'.cell? ⟨w.heap.size + 2, 3, none⟩ = some (.slice (some ⟨ga, oa, none⟩) ms cs) ∧ V'.cell? ⟨ga, oa, none⟩ = some (.int .i64 bk) ∧ V'.cell? ⟨ga, oa + 1, none⟩ = some (.int .i64 bn) ∧ V'.cell? ⟨ga, oa + 2, none⟩ = some (.string bs) ∧ V'.cell? ⟨ga, oa + 3, none⟩ = some (.slice Ab bl.length (capF bl.length cb)) ∧ V'.cell? ⟨g0, o0 + 4, none⟩ = some (.int .i64 xk) ∧ V'.cell? ⟨g0, o0 + 5, none⟩ = some (.int .i64 xn) ∧ V'.cell? ⟨g0, o0 + 6, none⟩ = some (.string xs) ∧ V'.cell? ⟨g0, o0 + 7, none⟩ = some (.slice Ax xl.length (capF xl.length cx)))) V') := Lib.hid fun V' h =>
    ⟨(h.cell (p := ⟨w.heap.size, 0, none⟩) lt2.lt).trans (lt2.cell 0), (h.cell (p := ⟨w.heap.size, 1, none⟩) lt2.lt).trans (lt2.cell 1), (h.cell (p := ⟨w.heap.size, 2, none⟩) lt2.lt).trans (lt2.cell 2), (h.cell (p := ⟨w.heap.size, 3, none⟩) lt2.lt).trans (lt2.cell 3), (h.cell (p := ⟨w.heap.size + 2, 0, none⟩) ls2.lt).trans (ls2.cell 0), (h.cell (p := ⟨w.heap.size + 2, 1, none⟩) ls2.lt).trans (ls2.cell 1), (h.cell (p := ⟨w.heap.size + 2, 2, none⟩) ls2.lt).trans (ls2.cell 2), (h.cell (p := ⟨w.heap.size + 2, 3, none⟩) ls2.lt).trans (ls2.cell 3), ((hb0.trans (h.mono hb0.size)).cell (p := ⟨ga, _, none⟩) hga).trans b0, ((hb0.trans (h.mono hb0.size)).cell (p := ⟨ga, _, none⟩) hga).trans b1, ((hb0.trans (h.mono hb0.size)).cell (p := ⟨ga, _, none⟩) hga).trans b2, ((hb0.trans (h.mono hb0.size)).cell (p := ⟨ga, _, none⟩) hga).trans b3, ((hb0.trans (h.mono hb0.size)).cell (p := ⟨g0, _, none⟩) hg0).trans d0, ((hb0.trans (h.mono hb0.size)).cell (p := ⟨g0, _, none⟩) hg0).trans d1, ((hb0.trans (h.mono hb0.size)).cell (p := ⟨g0, _, none⟩) hg0).trans d2, ((hb0.trans (h.mono hb0.size)).cell (p := ⟨g0, _, none⟩) hg0).trans d3⟩
  have HIN : Hid (∀ X, Below V0.heap.size V0 X → Calls Try.prog 39 #[ev (.node bk bn bs bl) Ab cb, .int .i64 0, ev (.node xk xn xs xl) Ax cx] X fun e w' => ∃ A2 c2, e = .returned (ev (putE (.node bk bn bs bl) 0 (.node xk xn xs xl)) A2 c2) ∧ EIn w' (fun g => X.heap.size ≤ g) (putE (.node bk bn bs bl) 0 (.node xk xn xs xl)) A2 ∧ Below X.heap.size X w') := Lib.hid fun X hX =>
    rput_any (.node bk bn bs bl) (.node xk xn xs xl) Ab Ax cb cx 0 X (EIn.below _ HIB.out (hb0.trans (hX.mono hb0.size)) (Nat.le_refl _)) hfb.1 hfb.2.1 hfb.2.2 (EIn.below _ HIX.out (hb0.trans (hX.mono hb0.size)) (Nat.le_refl _)) hfx.1 hfx.2.1 hfx.2.2 (by omega) (by omega)
  obtain ⟨U, hU⟩ : ∃ U, U = putE (.node bk bn bs bl) 0 (.node xk xn xs xl) := ⟨_, rfl⟩
  rw [← hU] at HIN
  have HE := Lib.hid hU
  clear hU hfb hfx HIB HIX b0 b1 b2 b3 d0 d1 d2 d3 lt2 ls2
  obtain ⟨uk, un, us, ul⟩ := U
  simp only [ev, Te.kind, Te.n, Te.name, Te.parts] at HIN
  have hb_1 : Below V0.heap.size V0 V0 := Below.refl _ _
  refine wp_region_K (S := (fun V' : World => (V'.cell? ⟨w.heap.size, 0, none⟩ = some (.int .i64 3) ∧ V'.cell? ⟨w.heap.size, 1, none⟩ = some (.int .i64 tn) ∧ V'.cell? ⟨w.heap.size, 2, none⟩ = some (.string ts) ∧ V'.cell? ⟨w.heap.size, 3, none⟩ = some (.slice (some ⟨g0, o0, none⟩) mt ct) ∧ V'.cell? ⟨w.heap.size + 2, 0, none⟩ = some (.int .i64 2) ∧ V'.cell? ⟨w.heap.size + 2, 1, none⟩ = some (.int .i64 sn) ∧ V'.cell? ⟨w.heap.size + 2, 2, none⟩ = some (.string ss) ∧ V'.cell? ⟨w.heap.size + 2, 3, none⟩ = some (.slice (some ⟨ga, oa, none⟩) ms cs) ∧ V'.cell? ⟨ga, oa, none⟩ = some (.int .i64 bk) ∧ V'.cell? ⟨ga, oa + 1, none⟩ = some (.int .i64 bn) ∧ V'.cell? ⟨ga, oa + 2, none⟩ = some (.string bs) ∧ V'.cell? ⟨ga, oa + 3, none⟩ = some (.slice Ab bl.length (capF bl.length cb)) ∧ V'.cell? ⟨g0, o0 + 4, none⟩ = some (.int .i64 xk) ∧ V'.cell? ⟨g0, o0 + 5, none⟩ = some (.int .i64 xn) ∧ V'.cell? ⟨g0, o0 + 6, none⟩ = some (.string xs) ∧ V'.cell? ⟨g0, o0 + 7, none⟩ = some (.slice Ax xl.length (capF xl.length cx))))) 10 rfl (HSS.out _ hb_1.drew) (fun hSs => ?_)
  change wpAnyK _ _ _ _ _ _ 11 (Array.replicate 11 false) _ _
  refine wpAnyK_take (i := 0) (oi := ⟨some 44, _, _, _, _, _⟩) (v := .pointer (some ⟨w.heap.size + 2, 3, none⟩)) rfl (by kernel_rfl) (by kernel_rfl) (by kernel_rfl) (by kernel_rfl) (fun _ _ _ h => h) (.inl ⟨by kernel_rfl, fun W hW => by first | (obtain ⟨z0, z1, z2, z3, z4, z5, z6, z7, z8, z9, z10, z11, z12, z13, z14, z15⟩ := hW; go_simp; done) | (obtain ⟨z0, z1, z2, z3, z4, z5, z6, z7, z8, z9, z10, z11, z12, z13, z14, z15⟩ := hW; go_simp; omega) | (obtain ⟨z0, z1, z2, z3, z4, z5, z6, z7, z8, z9, z10, z11, z12, z13, z14, z15⟩ := hW; go_simp; exact IntWalk.i64_in _ (by omega)) | (obtain ⟨z0, z1, z2, z3, z4, z5, z6, z7, z8, z9, z10, z11, z12, z13, z14, z15⟩ := hW; go_simp; simp [*]; done)⟩) hSs ?_
  try simp only [Act.put, List.setIfInBounds_toArray, List.set_cons_zero, List.set_cons_succ]
  refine wpAnyK_take (i := 1) (oi := ⟨some 45, _, _, _, _, _⟩) (v := .slice (some ⟨ga, oa, none⟩) ms cs) rfl (by kernel_rfl) (by kernel_rfl) (by kernel_rfl) (by kernel_rfl) (fun _ _ _ h => h) (.inl ⟨by kernel_rfl, fun W hW => by first | (obtain ⟨z0, z1, z2, z3, z4, z5, z6, z7, z8, z9, z10, z11, z12, z13, z14, z15⟩ := hW; go_simp; done) | (obtain ⟨z0, z1, z2, z3, z4, z5, z6, z7, z8, z9, z10, z11, z12, z13, z14, z15⟩ := hW; go_simp; omega) | (obtain ⟨z0, z1, z2, z3, z4, z5, z6, z7, z8, z9, z10, z11, z12, z13, z14, z15⟩ := hW; go_simp; exact IntWalk.i64_in _ (by omega)) | (obtain ⟨z0, z1, z2, z3, z4, z5, z6, z7, z8, z9, z10, z11, z12, z13, z14, z15⟩ := hW; go_simp; simp [*]; done)⟩) hSs ?_
  try simp only [Act.put, List.setIfInBounds_toArray, List.set_cons_zero, List.set_cons_succ]
  refine wpAnyK_take (i := 2) (oi := ⟨some 46, _, _, _, _, _⟩) (v := .pointer (some ⟨ga, oa, none⟩)) rfl (by kernel_rfl) (by kernel_rfl) (by kernel_rfl) (by kernel_rfl) (fun _ _ _ h => h) (.inl ⟨by kernel_rfl, fun W hW => by first | (obtain ⟨z0, z1, z2, z3, z4, z5, z6, z7, z8, z9, z10, z11, z12, z13, z14, z15⟩ := hW; go_simp; done) | (obtain ⟨z0, z1, z2, z3, z4, z5, z6, z7, z8, z9, z10, z11, z12, z13, z14, z15⟩ := hW; go_simp; omega) | (obtain ⟨z0, z1, z2, z3, z4, z5, z6, z7, z8, z9, z10, z11, z12, z13, z14, z15⟩ := hW; go_simp; exact IntWalk.i64_in _ (by omega)) | (obtain ⟨z0, z1, z2, z3, z4, z5, z6, z7, z8, z9, z10, z11, z12, z13, z14, z15⟩ := hW; go_simp; simp [*]; done)⟩) hSs ?_
  try simp only [Act.put, List.setIfInBounds_toArray, List.set_cons_zero, List.set_cons_succ]
  refine wpAnyK_take (i := 3) (oi := ⟨some 47, _, _, _, _, _⟩) (v := .agg #[.int .i64 bk, .int .i64 bn, .string bs, .slice Ab bl.length (capF bl.length cb)]) rfl (by kernel_rfl) (by kernel_rfl) (by kernel_rfl) (by kernel_rfl) (fun _ _ _ h => h) (.inl ⟨by kernel_rfl, fun W hW => by first | (obtain ⟨z0, z1, z2, z3, z4, z5, z6, z7, z8, z9, z10, z11, z12, z13, z14, z15⟩ := hW; go_simp; done) | (obtain ⟨z0, z1, z2, z3, z4, z5, z6, z7, z8, z9, z10, z11, z12, z13, z14, z15⟩ := hW; go_simp; omega) | (obtain ⟨z0, z1, z2, z3, z4, z5, z6, z7, z8, z9, z10, z11, z12, z13, z14, z15⟩ := hW; go_simp; exact IntWalk.i64_in _ (by omega)) | (obtain ⟨z0, z1, z2, z3, z4, z5, z6, z7, z8, z9, z10, z11, z12, z13, z14, z15⟩ := hW; go_simp; simp [*]; done)⟩) hSs ?_
  try simp only [Act.put, List.setIfInBounds_toArray, List.set_cons_zero, List.set_cons_succ]
  refine wpAnyK_take (i := 4) (oi := ⟨some 48, _, _, _, _, _⟩) (v := .pointer (some ⟨w.heap.size, 3, none⟩)) rfl (by kernel_rfl) (by kernel_rfl) (by kernel_rfl) (by kernel_rfl) (fun _ _ _ h => h) (.inl ⟨by kernel_rfl, fun W hW => by first | (obtain ⟨z0, z1, z2, z3, z4, z5, z6, z7, z8, z9, z10, z11, z12, z13, z14, z15⟩ := hW; go_simp; done) | (obtain ⟨z0, z1, z2, z3, z4, z5, z6, z7, z8, z9, z10, z11, z12, z13, z14, z15⟩ := hW; go_simp; omega) | (obtain ⟨z0, z1, z2, z3, z4, z5, z6, z7, z8, z9, z10, z11, z12, z13, z14, z15⟩ := hW; go_simp; exact IntWalk.i64_in _ (by omega)) | (obtain ⟨z0, z1, z2, z3, z4, z5, z6, z7, z8, z9, z10, z11, z12, z13, z14, z15⟩ := hW; go_simp; simp [*]; done)⟩) hSs ?_
  try simp only [Act.put, List.setIfInBounds_toArray, List.set_cons_zero, List.set_cons_succ]
  refine wpAnyK_take (i := 5) (oi := ⟨some 49, _, _, _, _, _⟩) (v := .slice (some ⟨g0, o0, none⟩) mt ct) rfl (by kernel_rfl) (by kernel_rfl) (by kernel_rfl) (by kernel_rfl) (fun _ _ _ h => h) (.inl ⟨by kernel_rfl, fun W hW => by first | (obtain ⟨z0, z1, z2, z3, z4, z5, z6, z7, z8, z9, z10, z11, z12, z13, z14, z15⟩ := hW; go_simp; done) | (obtain ⟨z0, z1, z2, z3, z4, z5, z6, z7, z8, z9, z10, z11, z12, z13, z14, z15⟩ := hW; go_simp; omega) | (obtain ⟨z0, z1, z2, z3, z4, z5, z6, z7, z8, z9, z10, z11, z12, z13, z14, z15⟩ := hW; go_simp; exact IntWalk.i64_in _ (by omega)) | (obtain ⟨z0, z1, z2, z3, z4, z5, z6, z7, z8, z9, z10, z11, z12, z13, z14, z15⟩ := hW; go_simp; simp [*]; done)⟩) hSs ?_
  try simp only [Act.put, List.setIfInBounds_toArray, List.set_cons_zero, List.set_cons_succ]
  refine wpAnyK_take (i := 6) (oi := ⟨some 50, _, _, _, _, _⟩) (v := .pointer (some ⟨g0, o0 + 4, none⟩)) rfl (by kernel_rfl) (by kernel_rfl) (by kernel_rfl) (by kernel_rfl) (fun _ _ _ h => h) (.inl ⟨by kernel_rfl, fun W hW => by first | (obtain ⟨z0, z1, z2, z3, z4, z5, z6, z7, z8, z9, z10, z11, z12, z13, z14, z15⟩ := hW; go_simp; done) | (obtain ⟨z0, z1, z2, z3, z4, z5, z6, z7, z8, z9, z10, z11, z12, z13, z14, z15⟩ := hW; go_simp; omega) | (obtain ⟨z0, z1, z2, z3, z4, z5, z6, z7, z8, z9, z10, z11, z12, z13, z14, z15⟩ := hW; go_simp; exact IntWalk.i64_in _ (by omega)) | (obtain ⟨z0, z1, z2, z3, z4, z5, z6, z7, z8, z9, z10, z11, z12, z13, z14, z15⟩ := hW; go_simp; simp [*]; done)⟩) hSs ?_
  try simp only [Act.put, List.setIfInBounds_toArray, List.set_cons_zero, List.set_cons_succ]
  refine wpAnyK_take (i := 7) (oi := ⟨some 51, _, _, _, _, _⟩) (v := .agg #[.int .i64 xk, .int .i64 xn, .string xs, .slice Ax xl.length (capF xl.length cx)]) rfl (by kernel_rfl) (by kernel_rfl) (by kernel_rfl) (by kernel_rfl) (fun _ _ _ h => h) (.inl ⟨by kernel_rfl, fun W hW => by first | (obtain ⟨z0, z1, z2, z3, z4, z5, z6, z7, z8, z9, z10, z11, z12, z13, z14, z15⟩ := hW; go_simp; done) | (obtain ⟨z0, z1, z2, z3, z4, z5, z6, z7, z8, z9, z10, z11, z12, z13, z14, z15⟩ := hW; go_simp; omega) | (obtain ⟨z0, z1, z2, z3, z4, z5, z6, z7, z8, z9, z10, z11, z12, z13, z14, z15⟩ := hW; go_simp; exact IntWalk.i64_in _ (by omega)) | (obtain ⟨z0, z1, z2, z3, z4, z5, z6, z7, z8, z9, z10, z11, z12, z13, z14, z15⟩ := hW; go_simp; simp [*]; done)⟩) hSs ?_
  try simp only [Act.put, List.setIfInBounds_toArray, List.set_cons_zero, List.set_cons_succ]
  refine wpAnyK_one  (i := 8) rfl rfl (by kernel_rfl) (fun K hK => ?_)
  go_simp
  refine (HIN.out _ (hb_1.drew) ).mono ?_
  rintro e u_2 ⟨A_2, c_2, rfl, hT_2, hq_2⟩
  have hb_2 := (hb_1.drew).trans (hq_2.mono (hb_1.drew).size)
  have lz_2 := (lz.drew).below hq_2 lz.lt
  refine hK.out _ _ (fun _ => HSS.out _ hb_2) (fun hS9 => ?_)
  have hS_2 := hS9 (by decide)
  clear hK K hS9
  try simp only [Act.put, List.setIfInBounds_toArray, List.set_cons_zero, List.set_cons_succ]
  refine wpAnyK_one  (i := 9) rfl rfl (by kernel_rfl) (fun K hK => ?_)
  obtain ⟨z0, z1, z2, z3, z4, z5, z6, z7, z8, z9, z10, z11, z12, z13, z14, z15⟩ := hS_2
  refine wp_store_as (F := fun W9 => (Below w.heap.size w W9 ∧ Lies W9 (w.heap.size + 1) 24 #[.int .i64 uk, .int .i64 un, .string us, .slice A_2 ul.length (capF ul.length c_2)] ∧ EIn W9 (fun b => w.heap.size ≤ b) (.node uk un us ul) A_2) ∧ (fun V' : World => (V'.cell? ⟨w.heap.size, 0, none⟩ = some (.int .i64 3) ∧ V'.cell? ⟨w.heap.size, 1, none⟩ = some (.int .i64 tn) ∧ V'.cell? ⟨w.heap.size, 2, none⟩ = some (.string ts) ∧ V'.cell? ⟨w.heap.size, 3, none⟩ = some (.slice (some ⟨g0, o0, none⟩) mt ct) ∧ V'.cell? ⟨w.heap.size + 2, 0, none⟩ = some (.int .i64 2) ∧ V'.cell? ⟨w.heap.size + 2, 1, none⟩ = some (.int .i64 sn) ∧ V'.cell? ⟨w.heap.size + 2, 2, none⟩ = some (.string ss) ∧ V'.cell? ⟨w.heap.size + 2, 3, none⟩ = some (.slice (some ⟨ga, oa, none⟩) ms cs) ∧ V'.cell? ⟨ga, oa, none⟩ = some (.int .i64 bk) ∧ V'.cell? ⟨ga, oa + 1, none⟩ = some (.int .i64 bn) ∧ V'.cell? ⟨ga, oa + 2, none⟩ = some (.string bs) ∧ V'.cell? ⟨ga, oa + 3, none⟩ = some (.slice Ab bl.length (capF bl.length cb)) ∧ V'.cell? ⟨g0, o0 + 4, none⟩ = some (.int .i64 xk) ∧ V'.cell? ⟨g0, o0 + 5, none⟩ = some (.int .i64 xn) ∧ V'.cell? ⟨g0, o0 + 6, none⟩ = some (.string xs) ∧ V'.cell? ⟨g0, o0 + 7, none⟩ = some (.slice Ax xl.length (capF xl.length cx)))) W9) _ _ _ rfl (w.heap.size + 1) 0 #[.int .i64 uk, .int .i64 un, .string us, .slice A_2 ul.length (capF ul.length c_2)] rfl rfl (lies_is lz_2 rfl) (by kernel_rfl) (by simp [Value.oneCell'])
    ⟨⟨below_cells (hb0.trans (hb_2.mono hb0.size)) (by omega) _ _, lies_set4 lz_2 _ _ _ _, EIn.wide _ (ein_offs _ hT_2 (fun h => by have h9 : V0.heap.size ≤ w.heap.size + 1 := h; have := hb0lt; omega) _ _) (fun b hb _ => by have h9 : V0.heap.size ≤ b := hb; have := hb0.size; omega)⟩, ⟨(cell_offs _ (w.heap.size + 1) _ (by omega) _ _ _).trans z0, (cell_offs _ (w.heap.size + 1) _ (by omega) _ _ _).trans z1, (cell_offs _ (w.heap.size + 1) _ (by omega) _ _ _).trans z2, (cell_offs _ (w.heap.size + 1) _ (by omega) _ _ _).trans z3, (cell_offs _ (w.heap.size + 1) _ (by omega) _ _ _).trans z4, (cell_offs _ (w.heap.size + 1) _ (by omega) _ _ _).trans z5, (cell_offs _ (w.heap.size + 1) _ (by omega) _ _ _).trans z6, (cell_offs _ (w.heap.size + 1) _ (by omega) _ _ _).trans z7, (cell_offs _ (w.heap.size + 1) _ (by omega) _ _ _).trans z8, (cell_offs _ (w.heap.size + 1) _ (by omega) _ _ _).trans z9, (cell_offs _ (w.heap.size + 1) _ (by omega) _ _ _).trans z10, (cell_offs _ (w.heap.size + 1) _ (by omega) _ _ _).trans z11, (cell_offs _ (w.heap.size + 1) _ (by omega) _ _ _).trans z12, (cell_offs _ (w.heap.size + 1) _ (by omega) _ _ _).trans z13, (cell_offs _ (w.heap.size + 1) _ (by omega) _ _ _).trans z14, (cell_offs _ (w.heap.size + 1) _ (by omega) _ _ _).trans z15⟩⟩ (fun W_3 hF_3 => ?_)
  refine hK.out _ _ (fun _ => hF_3.2) (fun hS9 => ?_)
  have hS_3 := hS9 (by decide)
  clear hK K hS9
  try simp only [Act.put, List.setIfInBounds_toArray]
  refine wpAnyK_one  (i := 10) rfl rfl (by kernel_rfl) (fun K hK => ?_)
  go_simp
  refine hK.out _ _ (fun h => absurd rfl h) (fun _ => ?_)
  clear hK K
  try simp only [Act.put, List.setIfInBounds_toArray, List.set_cons_zero, List.set_cons_succ]
  refine wpAnyK_done (by kernel_rfl) ?_ _
  obtain ⟨⟨f1, f2, f3⟩, _⟩ := hF_3
  go_wp2_with fail
  refine bodyPost_ret (res_term2 (p := 2) (q := 3) Try.results22 rfl f2) rfl ?_
  rw [← HE.out]
  exact ⟨A_2, c_2, rfl, f3, f1⟩
end Lx
end Go.Proofs.Ytgnafcnokenogaa
