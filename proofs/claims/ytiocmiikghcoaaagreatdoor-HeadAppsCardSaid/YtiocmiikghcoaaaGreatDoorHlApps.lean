/-
  The law HeadApps, walked.
-/
import Derived.Deep.Cut
import Derived.Test.YtiocmiikghcoaaaGreatDoorC1
import Derived.Test.YtiocmiikghcoaaaGreatDoorC18
import Derived.Test.YtiocmiikghcoaaaGreatDoorC7
namespace Go.Proofs.YtiocmiikghcoaaaGreatDoor
open Go.RowKit
namespace Lx
set_option maxRecDepth 100000
mutual
theorem sameE_refl : ∀ t : Te, sameE t t = true
  | .node k n s l => by rw [sameE]; simp [sameEL_refl l]
theorem sameEL_refl : ∀ l : List Te, sameEL l l = true
  | [] => by rw [sameEL]
  | t :: r => by rw [sameEL, sameE_refl t, sameEL_refl r]; rfl
end
def altA (b : Te) : Te := .node 6 0 ⟨#[65]⟩ [b]
def sevE : Te := .node 7 7 ⟨#[]⟩ []
def fA0 (x b : Te) : Te := .node 3 0 ⟨#[]⟩ [x, b]
def fA1 (x b : Te) : Te := .node 5 0 ⟨#[]⟩ [x, altA b]
def fA2 (x b : Te) : Te := .node 8 0 ⟨#[43]⟩ [x, b]
def fA3 (x : Te) : Te := .node 8 0 ⟨#[60]⟩ [sevE, x]
def fAs (x b : Te) : List Te := [fA0 x b, fA1 x b, fA2 x b, fA3 x]
theorem con_a9 : conW ⟨#[65]⟩ = true := by kernel_rfl
theorem op_p9 : opV [43] = true := by kernel_rfl
theorem op_l9 : opV [60] = true := by kernel_rfl
theorem may_sev : mayQ sevE 0 false = true := by kernel_rfl
theorem may_fAs {x b : Te} (hx : mayQ x 0 false = true) (hb : mayQ b 0 false = true) : ∀ t ∈ fAs x b, mayQ t 0 false = true := by
 have ha : mayQ (altA b) 0 true = true := by
  rw [altA, mayQ]
  simp [headR, con_a9, mayQL, moreE, hb]
 intro t ht
 simp only [fAs, List.mem_cons, List.not_mem_nil, or_false] at ht
 rcases ht with rfl | rfl | rfl | rfl
 ·rw [fA0, mayQ]; simp [headR, mayQL, moreE, hx, hb, dupAt]
 ·rw [fA1, mayQ]; simp [headR, mayQL, moreE, hx, ha, dupAt]
 ·rw [fA2, mayQ]; simp [headR, mayQL, moreE, hx, hb, dupAt, op_p9]
 ·rw [fA3, mayQ]; simp [headR, mayQL, moreE, hx, may_sev, dupAt, op_l9]
theorem mem_fAs (a b : Te) (i : Nat) (hi : i < 4) : prt (fAs a b) i ∈ fAs a b := by
 rw [prt_get (show i < (fAs a b).length from hi)]
 exact List.getElem_mem _
theorem may_prt9 {a b : Te} (ha : mayQ a 0 false = true) (hb : mayQ b 0 false = true) (i : Nat) (hi : i < 4) : mayQ (prt (fAs a b) i) 0 false = true := may_fAs ha hb _ (mem_fAs a b i hi)
theorem step_fAs {a b : Te} (ha : mayQ a 0 false = true) (hb : mayQ b 0 false = true) (hv : valK a.kind = false) (i : Nat) (hi : i < 4) : stepV (prt (fAs a b) i) = (prt (fAs (stepE a).1 b) i, (stepE a).2) := by
 rw [stepV_closed (may_prt9 ha hb i hi)]
 have h7 : ¬ a.kind = 7 := fun e => by rw [e] at hv; revert hv; decide
 have hv' : ¬ valK a.kind = true := by rw [hv]; decide
 rcases (by omega : i = 0 ∨ i = 1 ∨ i = 2 ∨ i = 3) with rfl | rfl | rfl | rfl
 ·show stepE (fA0 a b) = (fA0 (stepE a).1 b, (stepE a).2)
  rw [stepE_wait (t := fA0 a b) (i := 0) (by show waitK 3 [a, b] = some 0; rw [waitK, if_pos (.inl rfl)]; exact if_neg hv')]
  rfl
 ·show stepE (fA1 a b) = (fA1 (stepE a).1 b, (stepE a).2)
  rw [stepE_wait (t := fA1 a b) (i := 0) (by show waitK 5 [a, altA b] = some 0; rw [waitK, if_pos (.inr rfl)]; exact if_neg hv')]
  rfl
 ·show stepE (fA2 a b) = (fA2 (stepE a).1 b, (stepE a).2)
  rw [stepE_wait (t := fA2 a b) (i := 0) (by show waitK 8 [a, b] = some 0; rw [waitK, if_neg (by decide), if_pos rfl, if_neg (show ¬ (prt [a, b] 0).kind = 7 from h7)]; exact if_neg hv')]
  rfl
 ·show stepE (fA3 a) = (fA3 (stepE a).1, (stepE a).2)
  rw [stepE_wait (t := fA3 a) (i := 1) (by show waitK 8 [sevE, a] = some 1; rw [waitK, if_neg (by decide), if_pos rfl, if_pos (show (prt [sevE, a] 0).kind = 7 from rfl)]; exact if_neg hv')]
  rfl
theorem size_fAs (a b : Te) : ∀ t ∈ fAs a b, sizeE t ≤ sizeE a + sizeE b + 3 := by
 intro t ht
 simp only [fAs, List.mem_cons, List.not_mem_nil, or_false] at ht
 rcases ht with rfl | rfl | rfl | rfl <;> simp [fA0, fA1, fA2, fA3, altA, sevE, sizeE, sizeEL] <;> omega
/-- Where there is a step there is no value. -/
theorem step_val {a : Te} (hw : (stepE a).2 ≠ 0) : valK a.kind = false := by
 cases hv : valK a.kind with
 | false => rfl
 | true =>
  exfalso
  apply hw
  have hk : waitE a = none := by
   obtain ⟨k, n, s, l⟩ := a
   have hv' : valK k = true := hv
   show waitK k l = none
   unfold waitK
   rw [if_neg (fun h => by rcases h with rfl | rfl <;> exact absurd hv' (by decide)), if_neg (fun h => by subst h; exact absurd hv' (by decide))]
  rw [stepE_act hk]
  obtain ⟨k, n, s, l⟩ := a
  have hv' : valK k = true := hv
  have e : actE (.node k n s l) = (.node k n s l, 0) := by
   rw [actE]
   exact (if_neg (fun h : k = 3 => by subst h; exact absurd hv' (by decide))).trans ((if_neg (fun h : k = 5 => by subst h; exact absurd hv' (by decide))).trans (if_neg (fun h : k = 8 => by subst h; exact absurd hv' (by decide))))
  rw [e]
theorem ein_lies4 {w : World} {X : Nat → Prop} {t u v z : Te} {A B C D : Option Addr} {a b c d g : Nat} {ty : TypeId} (L : Lies w g ty #[.int .i64 t.kind, .int .i64 t.n, .string t.name, .slice A t.parts.length (capF t.parts.length a), .int .i64 u.kind, .int .i64 u.n, .string u.name, .slice B u.parts.length (capF u.parts.length b), .int .i64 v.kind, .int .i64 v.n, .string v.name, .slice C v.parts.length (capF v.parts.length c), .int .i64 z.kind, .int .i64 z.n, .string z.name, .slice D z.parts.length (capF z.parts.length d)]) (hg : X g) (h1 : EIn w X t A) (h2 : EIn w X u B) (h3 : EIn w X v C) (h4 : EIn w X z D) : ELIn w X [t, u, v, z] (some ⟨g, 0, none⟩) 0 := by
 rw [ELIn]
 refine ⟨⟨g, 0, A, a, ⟨rfl, hg⟩, L.cell 0, L.cell 1, L.cell 2, L.cell 3, h1⟩, ?_⟩
 rw [ELIn]
 refine ⟨⟨g, 0, B, b, ⟨rfl, hg⟩, L.cell 4, L.cell 5, L.cell 6, L.cell 7, h2⟩, ?_⟩
 rw [ELIn]
 refine ⟨⟨g, 0, C, c, ⟨rfl, hg⟩, L.cell 8, L.cell 9, L.cell 10, L.cell 11, h3⟩, ?_⟩
 rw [ELIn]
 refine ⟨⟨g, 0, D, d, ⟨rfl, hg⟩, L.cell 12, L.cell 13, L.cell 14, L.cell 15, h4⟩, ?_⟩
 rw [ELIn]; trivial
theorem ELIn.lt_of {w : World} {X : Nat → Prop} {t : Te} {r : List Te} {g o : Nat} (h : ELIn w X (t :: r) (some ⟨g, o, none⟩) 0) : g < w.heap.size := by
 obtain ⟨g', o', _, _, ⟨hA, _⟩, d0, _⟩ := ELIn.at_ _ h 0 (by simp)
 injection hA with hA
 injection hA with h1 h2
 subst h1
 exact cell_lt d0
theorem five_new (V : World) (T : TypeId) (o1 o2 o3 o4 o5 : Array Value) : ∃ Z, Z = (((((V.alloc (.cells o1 T)).alloc (.cells o2 T)).alloc (.cells o3 T)).alloc (.cells o4 T)).alloc (.cells o5 T)) ∧ Below V.heap.size V Z ∧ Lies Z V.heap.size T o1 ∧ Lies Z (V.heap.size + 1) T o2 ∧ Lies Z (V.heap.size + 1 + 1) T o3 ∧ Lies Z (V.heap.size + 1 + 1 + 1) T o4 ∧ Lies Z (V.heap.size + 1 + 1 + 1 + 1) T o5 :=
 ⟨_, rfl, (((below2_new _ _).alloc (by simp; omega) _).alloc (by simp; omega) _).alloc (by simp; omega) _, Lies.old (Lies.old (Lies.old (Lies.old (Lies.new _ _ _) _) _) _) _, Lies.old (Lies.old (Lies.old (lies_next _ _ _ _ (by simp)) _) _) _, Lies.old (Lies.old (lies_next _ _ _ _ (by simp)) _) _, Lies.old (lies_next _ _ _ _ (by simp)) _, lies_next _ _ _ _ (by simp)⟩
theorem fas_in {w : World} {x b : Te} {A B C : Option Addr} {c d q0 q1 q2 q3 q4 : Nat} {ty : TypeId} (l0 : Lies w q0 ty #[.int .i64 x.kind, .int .i64 x.n, .string x.name, .slice A x.parts.length (capF x.parts.length c), .int .i64 b.kind, .int .i64 b.n, .string b.name, .slice B b.parts.length (capF b.parts.length d)])
  (l1 : Lies w q1 ty #[.int .i64 x.kind, .int .i64 x.n, .string x.name, .slice A x.parts.length (capF x.parts.length c), .int .i64 6, .int .i64 0, .string ⟨#[65]⟩, .slice C 1 1])
  (l2 : Lies w q2 ty #[.int .i64 x.kind, .int .i64 x.n, .string x.name, .slice A x.parts.length (capF x.parts.length c), .int .i64 b.kind, .int .i64 b.n, .string b.name, .slice B b.parts.length (capF b.parts.length d)])
  (l3 : Lies w q3 ty #[.int .i64 7, .int .i64 7, .string ⟨#[]⟩, .slice none 0 0, .int .i64 x.kind, .int .i64 x.n, .string x.name, .slice A x.parts.length (capF x.parts.length c)])
  (l4 : Lies w q4 ty #[.int .i64 3, .int .i64 0, .string ⟨#[]⟩, .slice (some ⟨q0, 0, none⟩) 2 2, .int .i64 5, .int .i64 0, .string ⟨#[]⟩, .slice (some ⟨q1, 0, none⟩) 2 2, .int .i64 8, .int .i64 0, .string ⟨#[43]⟩, .slice (some ⟨q2, 0, none⟩) 2 2, .int .i64 8, .int .i64 0, .string ⟨#[60]⟩, .slice (some ⟨q3, 0, none⟩) 2 2])
  (hx : EIn w Any x A) (hb : EIn w Any b B) (ha : EIn w Any (altA b) C) (hs : EIn w Any sevE none) : ELIn w Any (fAs x b) (some ⟨q4, 0, none⟩) 0 :=
 ein_lies4 (a := 2) (b := 2) (c := 2) (d := 2) (t := fA0 x b) (u := fA1 x b) (v := fA2 x b) (z := fA3 x) l4 trivial (ein_mk (by decide) (by decide) (by decide) (by simp) (ein_lies2 (t := x) (u := b) l0 trivial hx hb)) (ein_mk (by decide) (by decide) (by decide) (by simp) (ein_lies2 (d := 1) (t := x) (u := altA b) l1 trivial hx ha)) (ein_mk (by decide) (by decide) (by decide) (by simp) (ein_lies2 (t := x) (u := b) l2 trivial hx hb)) (ein_mk (by decide) (by decide) (by decide) (by simp) (ein_lies2 (c := 0) (t := sevE) (u := x) l3 trivial hs hx))
set_option maxHeartbeats 16000000 in
theorem apps9_any (a : Te) (A0 : Option Addr) (c0 : Nat) (b : Te) (A1 : Option Addr) (c1 : Nat) (w : World) (hg : Signs w) (hI : EIn w Any a A0) (hJ : EIn w Any b A1) :
  Calls Tryz.prog 7 #[ev a A0 c0, ev b A1 c1] w fun e w' => e = .returned (.bool true) ∧ Below w.heap.size w w' := by
 obtain ⟨ak, an, az, al⟩ := a
 obtain ⟨bk, bn, bz, bl⟩ := b
 show Calls Tryz.prog 7 #[.agg #[.int .i64 ak, .int .i64 an, .string az, .slice A0 al.length (capF al.length c0)], .agg #[.int .i64 bk, .int .i64 bn, .string bz, .slice A1 bl.length (capF bl.length c1)]] w _
 have HX0 := Lib.hid ((Bx9.new (c := c0) hI (Below.refl _ w) rfl).old (.cells #[.int .i64 bk, .int .i64 bn, .string bz, .slice A1 bl.length (capF bl.length c1)] 24))
 have HX1 := Lib.hid (Bx9.new (c := c1) (g := w.heap.size + 1) hJ ((Below.refl _ w).alloc (Nat.le_refl _) (.cells #[.int .i64 ak, .int .i64 an, .string az, .slice A0 al.length (capF al.length c0)] 24)) (by simp))
 have HSG := Lib.hid hg
 clear hI hJ hg
 go_enter Tryz.func7, Tryz.ntmps7
 have HFX := Lib.hid (fixed9_any ((w.alloc (.cells #[.int .i64 ak, .int .i64 an, .string az, .slice A0 al.length (capF al.length c0)] 24)).alloc (.cells #[.int .i64 bk, .int .i64 bn, .string bz, .slice A1 bl.length (capF bl.length c1)] 24)) (HSG.out.below HX0.out.bw HSG.out.pos))
 go_wp2_with fail
 refine HFX.out.mono ?_
 rintro e w2 ⟨rfl, hb2⟩
 clear HFX
 replace HX0 := Lib.hid (HX0.out.step hb2)
 replace HX1 := Lib.hid (HX1.out.step hb2)
 clear hb2
 obtain ⟨d0, d1, d2, d3⟩ := HX0.out.four
 have HG := Lib.hid (HX0.out.small 100 (by omega) (by omega))
 obtain ⟨v, hv⟩ : ∃ v, v = decide (0 ≤ fewE (.node ak an az al) 100 600) := ⟨_, rfl⟩
 rw [← hv] at HG
 have HV := Lib.hid hv
 clear hv
 go_wp2_with fail
 refine HG.out.mono ?_
 rintro e w3 ⟨rfl, hb3⟩
 clear HG d0 d1 d2 d3
 replace HX0 := Lib.hid (HX0.out.step hb3)
 replace HX1 := Lib.hid (HX1.out.step hb3)
 clear hb3
 cases v
 ·have HFX := Lib.hid (fixed9_any w3 (HSG.out.below HX0.out.bw HSG.out.pos))
  go_wp2_with fail
  refine HFX.out.mono ?_
  rintro e w4 ⟨rfl, hb4⟩
  have hbw := HX0.out.bw.trans (hb4.mono HX0.out.bw.size)
  go_wp2_with fail
  go_ret
  exact ⟨rfl, hbw⟩
 have hv := HV.out.symm
 have hm0 := small9 hv (by omega)
 clear hv HV
 obtain ⟨d0, d1, d2, d3⟩ := HX0.out.four
 obtain ⟨dd, hdd⟩ : ∃ d : Int, d = (depthE (.node ak an az al) : Int) := ⟨_, rfl⟩
 have HG := Lib.hid (HX0.out.depth (by omega))
 rw [← hdd] at HG
 clear hdd
 go_wp2_with fail
 refine HG.out.mono ?_
 rintro e w5 ⟨rfl, hb5⟩
 clear HG d0 d1 d2 d3
 replace HX0 := Lib.hid (HX0.out.step hb5)
 replace HX1 := Lib.hid (HX1.out.step hb5)
 clear hb5
 by_cases hc : 200 < dd
 ·have HFX := Lib.hid (fixed9_any w5 (HSG.out.below HX0.out.bw HSG.out.pos))
  go_wp2_with fail
  refine HFX.out.mono ?_
  rintro e w6 ⟨rfl, hb6⟩
  have hbw := HX0.out.bw.trans (hb6.mono HX0.out.bw.size)
  go_wp2_with fail
  go_ret
  exact ⟨rfl, hbw⟩
 obtain ⟨d0, d1, d2, d3⟩ := HX1.out.four
 have HG := Lib.hid (HX1.out.small 100 (by omega) (by omega))
 obtain ⟨v, hv⟩ : ∃ v, v = decide (0 ≤ fewE (.node bk bn bz bl) 100 600) := ⟨_, rfl⟩
 rw [← hv] at HG
 have HV := Lib.hid hv
 clear hv
 go_wp2_with fail
 refine HG.out.mono ?_
 rintro e w7 ⟨rfl, hb7⟩
 clear HG d0 d1 d2 d3
 replace HX0 := Lib.hid (HX0.out.step hb7)
 replace HX1 := Lib.hid (HX1.out.step hb7)
 clear hb7
 cases v
 ·have HFX := Lib.hid (fixed9_any w7 (HSG.out.below HX0.out.bw HSG.out.pos))
  go_wp2_with fail
  refine HFX.out.mono ?_
  rintro e w8 ⟨rfl, hb8⟩
  have hbw := HX0.out.bw.trans (hb8.mono HX0.out.bw.size)
  go_wp2_with fail
  go_ret
  exact ⟨rfl, hbw⟩
 have hv := HV.out.symm
 have hm1 := small9 hv (by omega)
 clear hv HV
 obtain ⟨d0, d1, d2, d3⟩ := HX1.out.four
 obtain ⟨dd, hdd⟩ : ∃ d : Int, d = (depthE (.node bk bn bz bl) : Int) := ⟨_, rfl⟩
 have HG := Lib.hid (HX1.out.depth (by omega))
 rw [← hdd] at HG
 clear hdd
 go_wp2_with fail
 refine HG.out.mono ?_
 rintro e w9 ⟨rfl, hb9⟩
 clear HG d0 d1 d2 d3
 replace HX0 := Lib.hid (HX0.out.step hb9)
 replace HX1 := Lib.hid (HX1.out.step hb9)
 clear hb9
 by_cases hc : 200 < dd
 ·have HFX := Lib.hid (fixed9_any w9 (HSG.out.below HX0.out.bw HSG.out.pos))
  go_wp2_with fail
  refine HFX.out.mono ?_
  rintro e w10 ⟨rfl, hb10⟩
  have hbw := HX0.out.bw.trans (hb10.mono HX0.out.bw.size)
  go_wp2_with fail
  go_ret
  exact ⟨rfl, hbw⟩
 obtain ⟨d0, d1, d2, d3⟩ := HX0.out.four
 have HG := Lib.hid (HX0.out.may 0 (by omega) (by omega) (by omega))
 obtain ⟨v, hv⟩ : ∃ v, v = mayQ (.node ak an az al) 0 false := ⟨_, rfl⟩
 rw [← hv] at HG
 have HV := Lib.hid hv
 clear hv
 go_wp2_with fail
 refine HG.out.mono ?_
 rintro e w11 ⟨rfl, hb11⟩
 clear HG d0 d1 d2 d3
 replace HX0 := Lib.hid (HX0.out.step hb11)
 replace HX1 := Lib.hid (HX1.out.step hb11)
 clear hb11
 cases v
 ·have HFX := Lib.hid (fixed9_any w11 (HSG.out.below HX0.out.bw HSG.out.pos))
  go_wp2_with fail
  refine HFX.out.mono ?_
  rintro e w12 ⟨rfl, hb12⟩
  have hbw := HX0.out.bw.trans (hb12.mono HX0.out.bw.size)
  go_wp2_with fail
  go_ret
  exact ⟨rfl, hbw⟩
 have hv := HV.out.symm
 have hma := hv
 clear hv HV
 obtain ⟨d0, d1, d2, d3⟩ := HX1.out.four
 have HG := Lib.hid (HX1.out.may 0 (by omega) (by omega) (by omega))
 obtain ⟨v, hv⟩ : ∃ v, v = mayQ (.node bk bn bz bl) 0 false := ⟨_, rfl⟩
 rw [← hv] at HG
 have HV := Lib.hid hv
 clear hv
 go_wp2_with fail
 refine HG.out.mono ?_
 rintro e w13 ⟨rfl, hb13⟩
 clear HG d0 d1 d2 d3
 replace HX0 := Lib.hid (HX0.out.step hb13)
 replace HX1 := Lib.hid (HX1.out.step hb13)
 clear hb13
 cases v
 ·have HFX := Lib.hid (fixed9_any w13 (HSG.out.below HX0.out.bw HSG.out.pos))
  go_wp2_with fail
  refine HFX.out.mono ?_
  rintro e w14 ⟨rfl, hb14⟩
  have hbw := HX0.out.bw.trans (hb14.mono HX0.out.bw.size)
  go_wp2_with fail
  go_ret
  exact ⟨rfl, hbw⟩
 have hv := HV.out.symm
 have hmb := hv
 clear hv HV
 obtain ⟨e00, e01, e02, e03⟩ := HX0.out.four
 have HR := Lib.hid (stepV_any 0 (.node ak an az al) A0 c0 w13 HX0.out.tin (HSG.out.below HX0.out.bw HSG.out.pos) (fine_may hma (by omega)) (fun _ => ⟨hma, step_fine2 hma (by omega)⟩))
 rw [stepV_closed hma] at HR
 have HMX := Lib.hid (step_may hma)
 have HSV := Lib.hid (step_val (a := (.node ak an az al)))
 have HST := Lib.hid (fun h => step_fAs (a := (.node ak an az al)) (b := (.node bk bn bz bl)) hma hmb h)
 have HSI := Lib.hid (fun i hi => may_prt9 (a := (.node ak an az al)) (b := (.node bk bn bz bl)) hma hmb i hi)
 have HSZ : Hid (∀ i, i < 4 → sizeE (prt (fAs (.node ak an az al) (.node bk bn bz bl)) i) ≤ 300) := Lib.hid fun i hi => by
  have := size_fAs (.node ak an az al) (.node bk bn bz bl) _ (mem_fAs _ _ i hi)
  omega
 obtain ⟨XW, hXW⟩ : ∃ X, X = stepE (.node ak an az al) := ⟨_, rfl⟩
 rw [← hXW] at HR HMX HSV HST
 clear hXW hma hmb
 obtain ⟨⟨xk, xn, xz, xl⟩, wh⟩ := XW
 simp only [ev, Te.kind, Te.n, Te.name, Te.parts] at HR
 go_wp2_with fail
 refine HR.out.mono ?_
 rintro e w15 ⟨Ax, cx, rfl, hTx0, hb15⟩
 have hTx : EIn w15 Any (.node xk xn xz xl) Ax := EIn.keep _ hTx0 fun _ _ _ _ => ⟨rfl, trivial⟩
 simp only [ev, Te.kind, Te.n, Te.name, Te.parts]
 replace HX0 := Lib.hid (HX0.out.step hb15)
 replace HX1 := Lib.hid (HX1.out.step hb15)
 clear hTx0 e00 e01 e02 e03 HR
 go_upto_region 4 with fail
 have HX2 : Hid (Bx9 w (w15.alloc (.cells #[.int .i64 xk, .int .i64 xn, .string xz, .slice Ax xl.length (capF xl.length cx)] 24)) w15.heap.size xk xn xz xl Ax cx) := Lib.hid ⟨Lies.new _ _ _, EIn.below _ hTx ((Below.refl _ w15).alloc (Nat.le_refl _) _) (Nat.le_refl _), HX0.out.bw.alloc HX0.out.bw.size _⟩
 replace HX0 := Lib.hid (HX0.out.old (.cells #[.int .i64 xk, .int .i64 xn, .string xz, .slice Ax xl.length (capF xl.length cx)] 24))
 replace HX1 := Lib.hid (HX1.out.old (.cells #[.int .i64 xk, .int .i64 xn, .string xz, .slice Ax xl.length (capF xl.length cx)] 24))
 clear hTx hb15
 obtain ⟨V, hV⟩ : ∃ V, V = (w15.alloc (.cells #[.int .i64 xk, .int .i64 xn, .string xz, .slice Ax xl.length (capF xl.length cx)] 24)) := ⟨_, rfl⟩
 obtain ⟨g2, hg2⟩ : ∃ g, g = w15.heap.size := ⟨_, rfl⟩
 rw [← hV, ← hg2] at HX2
 rw [← hV] at HX0 HX1
 rw [← hV, ← hg2]
 clear hV hg2
 by_cases hw0 : wh = 0
 ·have HB := Lib.hid HX0.out.bw
  go_wp2_with fail
  go_ret
  exact ⟨rfl, HB.out⟩
 ·have hva := HSV.out hw0
  replace HST := Lib.hid (HST.out hva)
  have hm0' : sizeE (.node ak an az al) ≤ 100 := by omega
  obtain ⟨e10, e11, e12, e13⟩ := HX1.out.four
  go_upto_region 7 with fail
  clear e10 e11 e12 e13 HSV hva
  obtain ⟨V3, hV⟩ : ∃ Z, Z = ((V.alloc (.cells #[.int .i64 bk, .int .i64 bn, .string bz, .slice A1 bl.length (capF bl.length c1)] 24)).alloc (.cells #[.int .i64 6, .int .i64 0, .string ⟨#[65]⟩, .slice (some ⟨V.heap.size, 0, none⟩) 1 1] 24)) := ⟨_, rfl⟩
  have hbV : Below V.heap.size V V3 := by rw [hV]; exact below2_new _ _
  have l3_0 : Lies V3 (V.heap.size) 24 #[.int .i64 bk, .int .i64 bn, .string bz, .slice A1 bl.length (capF bl.length c1)] := by rw [hV]; exact Lies.old (Lies.new _ _ _) _
  have l3_1 : Lies V3 (V.heap.size + 1) 24 #[.int .i64 6, .int .i64 0, .string ⟨#[65]⟩, .slice (some ⟨V.heap.size, 0, none⟩) 1 1] := by rw [hV]; exact lies_next (V.alloc (.cells #[.int .i64 bk, .int .i64 bn, .string bz, .slice A1 bl.length (capF bl.length c1)] 24)) _ _ _ (by simp)
  rw [← hV]
  clear hV
  replace HX0 := Lib.hid (HX0.out.step hbV)
  replace HX1 := Lib.hid (HX1.out.step hbV)
  replace HX2 := Lib.hid (HX2.out.step hbV)
  obtain ⟨q3_1, hq⟩ : ∃ q, q = V.heap.size + 1 := ⟨_, rfl⟩
  try rw [← hq] at l3_0
  try rw [← hq] at l3_1
  rw [← hq]
  clear hq
  obtain ⟨q3_0, hq⟩ : ∃ q, q = V.heap.size := ⟨_, rfl⟩
  try rw [← hq] at l3_0
  try rw [← hq] at l3_1
  rw [← hq]
  clear hq
  have hAl : EIn V3 Any (altA (.node bk bn bz bl)) (some ⟨q3_0, 0, none⟩) := ein_mk (by decide) (by decide) (by decide) (by simp) (ein_lies1 (c := c1) (t := (.node bk bn bz bl)) l3_0 trivial HX1.out.tin)
  clear l3_0 hbV
  go_upto_region 8 with fail
  obtain ⟨V4, hV⟩ : ∃ Z, Z = (V3.alloc (.cells #[.int .i64 7, .int .i64 7, .string ⟨#[]⟩, .slice none 0 0] 24)) := ⟨_, rfl⟩
  have hbV : Below V3.heap.size V3 V4 := by rw [hV]; exact (Below.refl _ V3).alloc (Nat.le_refl _) _
  have l4_0 : Lies V4 (V3.heap.size) 24 #[.int .i64 7, .int .i64 7, .string ⟨#[]⟩, .slice none 0 0] := by rw [hV]; exact Lies.new _ _ _
  rw [← hV]
  clear hV
  replace HX0 := Lib.hid (HX0.out.step hbV)
  replace HX1 := Lib.hid (HX1.out.step hbV)
  replace HX2 := Lib.hid (HX2.out.step hbV)
  replace hAl := EIn.below _ hAl hbV (Nat.le_refl _)
  obtain ⟨q4_0, hq⟩ : ∃ q, q = V3.heap.size := ⟨_, rfl⟩
  try rw [← hq] at l4_0
  rw [← hq]
  clear hq
  replace l3_1 := l3_1.below hbV l3_1.lt
  have hSe : EIn V4 Any sevE none := ein_mk (by decide) (by decide) (by decide) (by simp) (by rw [ELIn]; trivial)
  clear hbV
  have hx0 := HX0.out.box
  have hx1 := HX1.out.box
  obtain ⟨O1, hO1⟩ : ∃ o, o = Obj.cells #[.int .i64 ak, .int .i64 an, .string az, .slice A0 al.length (capF al.length c0), .int .i64 bk, .int .i64 bn, .string bz, .slice A1 bl.length (capF bl.length c1)] 24 := ⟨_, rfl⟩
  obtain ⟨O2, hO2⟩ : ∃ o, o = Obj.cells #[.int .i64 ak, .int .i64 an, .string az, .slice A0 al.length (capF al.length c0), .int .i64 6, .int .i64 0, .string ⟨#[65]⟩, .slice (some ⟨q3_0, 0, none⟩) 1 1] 24 := ⟨_, rfl⟩
  obtain ⟨O3, hO3⟩ : ∃ o, o = Obj.cells #[.int .i64 ak, .int .i64 an, .string az, .slice A0 al.length (capF al.length c0), .int .i64 bk, .int .i64 bn, .string bz, .slice A1 bl.length (capF bl.length c1)] 24 := ⟨_, rfl⟩
  obtain ⟨⟨f00, f01, f02, f03⟩, _⟩ := hx0.four
  obtain ⟨⟨f10, f11, f12, f13⟩, _⟩ := (hx0.old O1).four
  obtain ⟨⟨f20, f21, f22, f23⟩, _⟩ := ((hx0.old O1).old O2).four
  obtain ⟨⟨f30, f31, f32, f33⟩, _⟩ := (((hx0.old O1).old O2).old O3).four
  obtain ⟨⟨f40, f41, f42, f43⟩, _⟩ := hx1.four
  obtain ⟨⟨f50, f51, f52, f53⟩, _⟩ := ((hx1.old O1).old O2).four
  obtain ⟨⟨f60, f61, f62, f63⟩, _⟩ := (l3_1.old O1).four
  obtain ⟨⟨f70, f71, f72, f73⟩, _⟩ := (((l4_0.old O1).old O2).old O3).four
  subst hO1 hO2 hO3
  clear hx0 hx1
  go_upto_region 9 with fail
  clear f00 f01 f02 f03 f10 f11 f12 f13 f20 f21 f22 f23 f30 f31 f32 f33 f40 f41 f42 f43 f50 f51 f52 f53 f60 f61 f62 f63 f70 f71 f72 f73
  obtain ⟨V5, hV, hbV, l5_0, l5_1, l5_2, l5_3, l5_4⟩ := five_new V4 24 #[.int .i64 ak, .int .i64 an, .string az, .slice A0 al.length (capF al.length c0), .int .i64 bk, .int .i64 bn, .string bz, .slice A1 bl.length (capF bl.length c1)] #[.int .i64 ak, .int .i64 an, .string az, .slice A0 al.length (capF al.length c0), .int .i64 6, .int .i64 0, .string ⟨#[65]⟩, .slice (some ⟨q3_0, 0, none⟩) 1 1] #[.int .i64 ak, .int .i64 an, .string az, .slice A0 al.length (capF al.length c0), .int .i64 bk, .int .i64 bn, .string bz, .slice A1 bl.length (capF bl.length c1)] #[.int .i64 7, .int .i64 7, .string ⟨#[]⟩, .slice none 0 0, .int .i64 ak, .int .i64 an, .string az, .slice A0 al.length (capF al.length c0)] #[.int .i64 3, .int .i64 0, .string ⟨#[]⟩, .slice (some ⟨V4.heap.size, 0, none⟩) 2 2, .int .i64 5, .int .i64 0, .string ⟨#[]⟩, .slice (some ⟨V4.heap.size + 1, 0, none⟩) 2 2, .int .i64 8, .int .i64 0, .string ⟨#[43]⟩, .slice (some ⟨V4.heap.size + 1 + 1, 0, none⟩) 2 2, .int .i64 8, .int .i64 0, .string ⟨#[60]⟩, .slice (some ⟨V4.heap.size + 1 + 1 + 1, 0, none⟩) 2 2]
  rw [← hV]
  clear hV
  replace HX0 := Lib.hid (HX0.out.step hbV)
  replace HX1 := Lib.hid (HX1.out.step hbV)
  replace HX2 := Lib.hid (HX2.out.step hbV)
  replace hAl := EIn.below _ hAl hbV (Nat.le_refl _)
  replace hSe := EIn.below _ hSe hbV (Nat.le_refl _)
  replace l3_1 := l3_1.below hbV l3_1.lt
  replace l4_0 := l4_0.below hbV l4_0.lt
  obtain ⟨q5_4, hq⟩ : ∃ q, q = V4.heap.size + 1 + 1 + 1 + 1 := ⟨_, rfl⟩
  try rw [← hq] at l5_0
  try rw [← hq] at l5_1
  try rw [← hq] at l5_2
  try rw [← hq] at l5_3
  try rw [← hq] at l5_4
  try rw [← hq]
  clear hq
  obtain ⟨q5_3, hq⟩ : ∃ q, q = V4.heap.size + 1 + 1 + 1 := ⟨_, rfl⟩
  try rw [← hq] at l5_0
  try rw [← hq] at l5_1
  try rw [← hq] at l5_2
  try rw [← hq] at l5_3
  try rw [← hq] at l5_4
  try rw [← hq]
  clear hq
  obtain ⟨q5_2, hq⟩ : ∃ q, q = V4.heap.size + 1 + 1 := ⟨_, rfl⟩
  try rw [← hq] at l5_0
  try rw [← hq] at l5_1
  try rw [← hq] at l5_2
  try rw [← hq] at l5_3
  try rw [← hq] at l5_4
  try rw [← hq]
  clear hq
  obtain ⟨q5_1, hq⟩ : ∃ q, q = V4.heap.size + 1 := ⟨_, rfl⟩
  try rw [← hq] at l5_0
  try rw [← hq] at l5_1
  try rw [← hq] at l5_2
  try rw [← hq] at l5_3
  try rw [← hq] at l5_4
  try rw [← hq]
  clear hq
  obtain ⟨q5_0, hq⟩ : ∃ q, q = V4.heap.size := ⟨_, rfl⟩
  try rw [← hq] at l5_0
  try rw [← hq] at l5_1
  try rw [← hq] at l5_2
  try rw [← hq] at l5_3
  try rw [← hq] at l5_4
  try rw [← hq]
  clear hq
  have hL5 := fas_in (x := (.node ak an az al)) (b := (.node bk bn bz bl)) l5_0 l5_1 l5_2 l5_3 l5_4 HX0.out.tin HX1.out.tin hAl hSe
  clear l5_0 l5_1 l5_2 l5_3 l5_4 hbV
  have hx2 := HX2.out.box
  have hx1 := HX1.out.box
  obtain ⟨O1, hO1⟩ : ∃ o, o = Obj.cells #[.int .i64 xk, .int .i64 xn, .string xz, .slice Ax xl.length (capF xl.length cx), .int .i64 bk, .int .i64 bn, .string bz, .slice A1 bl.length (capF bl.length c1)] 24 := ⟨_, rfl⟩
  obtain ⟨O2, hO2⟩ : ∃ o, o = Obj.cells #[.int .i64 xk, .int .i64 xn, .string xz, .slice Ax xl.length (capF xl.length cx), .int .i64 6, .int .i64 0, .string ⟨#[65]⟩, .slice (some ⟨q3_0, 0, none⟩) 1 1] 24 := ⟨_, rfl⟩
  obtain ⟨O3, hO3⟩ : ∃ o, o = Obj.cells #[.int .i64 xk, .int .i64 xn, .string xz, .slice Ax xl.length (capF xl.length cx), .int .i64 bk, .int .i64 bn, .string bz, .slice A1 bl.length (capF bl.length c1)] 24 := ⟨_, rfl⟩
  obtain ⟨⟨f00, f01, f02, f03⟩, _⟩ := hx2.four
  obtain ⟨⟨f10, f11, f12, f13⟩, _⟩ := (hx2.old O1).four
  obtain ⟨⟨f20, f21, f22, f23⟩, _⟩ := ((hx2.old O1).old O2).four
  obtain ⟨⟨f30, f31, f32, f33⟩, _⟩ := (((hx2.old O1).old O2).old O3).four
  obtain ⟨⟨f40, f41, f42, f43⟩, _⟩ := hx1.four
  obtain ⟨⟨f50, f51, f52, f53⟩, _⟩ := ((hx1.old O1).old O2).four
  obtain ⟨⟨f60, f61, f62, f63⟩, _⟩ := (l3_1.old O1).four
  obtain ⟨⟨f70, f71, f72, f73⟩, _⟩ := (((l4_0.old O1).old O2).old O3).four
  subst hO1 hO2 hO3
  clear hx1 hx2
  go_upto_region 10 with fail
  clear f00 f01 f02 f03 f10 f11 f12 f13 f20 f21 f22 f23 f30 f31 f32 f33 f40 f41 f42 f43 f50 f51 f52 f53 f60 f61 f62 f63 f70 f71 f72 f73
  obtain ⟨V6, hV, hbV, l6_0, l6_1, l6_2, l6_3, l6_4⟩ := five_new V5 24 #[.int .i64 xk, .int .i64 xn, .string xz, .slice Ax xl.length (capF xl.length cx), .int .i64 bk, .int .i64 bn, .string bz, .slice A1 bl.length (capF bl.length c1)] #[.int .i64 xk, .int .i64 xn, .string xz, .slice Ax xl.length (capF xl.length cx), .int .i64 6, .int .i64 0, .string ⟨#[65]⟩, .slice (some ⟨q3_0, 0, none⟩) 1 1] #[.int .i64 xk, .int .i64 xn, .string xz, .slice Ax xl.length (capF xl.length cx), .int .i64 bk, .int .i64 bn, .string bz, .slice A1 bl.length (capF bl.length c1)] #[.int .i64 7, .int .i64 7, .string ⟨#[]⟩, .slice none 0 0, .int .i64 xk, .int .i64 xn, .string xz, .slice Ax xl.length (capF xl.length cx)] #[.int .i64 3, .int .i64 0, .string ⟨#[]⟩, .slice (some ⟨V5.heap.size, 0, none⟩) 2 2, .int .i64 5, .int .i64 0, .string ⟨#[]⟩, .slice (some ⟨V5.heap.size + 1, 0, none⟩) 2 2, .int .i64 8, .int .i64 0, .string ⟨#[43]⟩, .slice (some ⟨V5.heap.size + 1 + 1, 0, none⟩) 2 2, .int .i64 8, .int .i64 0, .string ⟨#[60]⟩, .slice (some ⟨V5.heap.size + 1 + 1 + 1, 0, none⟩) 2 2]
  rw [← hV]
  clear hV
  replace hL5 := ELIn.below _ hL5 hbV (Nat.le_refl _)
  replace HX0 := Lib.hid (HX0.out.step hbV)
  replace HX1 := Lib.hid (HX1.out.step hbV)
  replace HX2 := Lib.hid (HX2.out.step hbV)
  replace hAl := EIn.below _ hAl hbV (Nat.le_refl _)
  replace hSe := EIn.below _ hSe hbV (Nat.le_refl _)
  replace l3_1 := l3_1.below hbV l3_1.lt
  replace l4_0 := l4_0.below hbV l4_0.lt
  obtain ⟨q6_4, hq⟩ : ∃ q, q = V5.heap.size + 1 + 1 + 1 + 1 := ⟨_, rfl⟩
  try rw [← hq] at l6_0
  try rw [← hq] at l6_1
  try rw [← hq] at l6_2
  try rw [← hq] at l6_3
  try rw [← hq] at l6_4
  try rw [← hq]
  clear hq
  obtain ⟨q6_3, hq⟩ : ∃ q, q = V5.heap.size + 1 + 1 + 1 := ⟨_, rfl⟩
  try rw [← hq] at l6_0
  try rw [← hq] at l6_1
  try rw [← hq] at l6_2
  try rw [← hq] at l6_3
  try rw [← hq] at l6_4
  try rw [← hq]
  clear hq
  obtain ⟨q6_2, hq⟩ : ∃ q, q = V5.heap.size + 1 + 1 := ⟨_, rfl⟩
  try rw [← hq] at l6_0
  try rw [← hq] at l6_1
  try rw [← hq] at l6_2
  try rw [← hq] at l6_3
  try rw [← hq] at l6_4
  try rw [← hq]
  clear hq
  obtain ⟨q6_1, hq⟩ : ∃ q, q = V5.heap.size + 1 := ⟨_, rfl⟩
  try rw [← hq] at l6_0
  try rw [← hq] at l6_1
  try rw [← hq] at l6_2
  try rw [← hq] at l6_3
  try rw [← hq] at l6_4
  try rw [← hq]
  clear hq
  obtain ⟨q6_0, hq⟩ : ∃ q, q = V5.heap.size := ⟨_, rfl⟩
  try rw [← hq] at l6_0
  try rw [← hq] at l6_1
  try rw [← hq] at l6_2
  try rw [← hq] at l6_3
  try rw [← hq] at l6_4
  try rw [← hq]
  clear hq
  have hL6 := fas_in (x := (.node xk xn xz xl)) (b := (.node bk bn bz bl)) l6_0 l6_1 l6_2 l6_3 l6_4 HX2.out.tin HX1.out.tin hAl hSe
  clear l6_0 l6_1 l6_2 l6_3 l6_4 hbV
  have hB6 := HX0.out.bw
  clear HX0 HX1 HX2 hAl hSe l3_1 l4_0 hw0
  go_wp2_with fail
  go_loopw [11] (fun v wr => ∃ i : Nat, i ≤ 4 ∧ v = .int .i64 (i : Int) ∧ ELIn wr Any (fAs (.node ak an az al) (.node bk bn bz bl)) (some ⟨q5_4, 0, none⟩) 0 ∧ ELIn wr Any (fAs (.node xk xn xz xl) (.node bk bn bz bl)) (some ⟨q6_4, 0, none⟩) 0 ∧ Below w.heap.size w wr) (fun v _ => 4 - (intOf v).toNat)
  case atStart => exact ⟨0, by omega, rfl, hL5, hL6, hB6⟩
  case round =>
   clear hL5 hL6 hB6
   obtain ⟨i, hi, rfl, hL5, hL6, hbw⟩ := hrel
   by_cases hlt : i < 4
   ·have hst := HST.out i hlt
    have hmi := HSI.out i hlt
    have hzi := HSZ.out i hlt
    obtain ⟨g, o, B, bb, ⟨hA, _⟩, d0, d1, d2, d3, hIn⟩ := ELIn.at_ _ hL5 i (show i < (fAs (.node ak an az al) (.node bk bn bz bl)).length from hlt)
    rw [← prt_get (show i < (fAs (.node ak an az al) (.node bk bn bz bl)).length from hlt)] at d0 d1 d2 d3 hIn
    injection hA with hA
    injection hA with hA1 hA2
    subst hA1 hA2
    simp only [Nat.zero_add] at d0 d1 d2 d3
    obtain ⟨P, hP⟩ : ∃ P, P = prt (fAs (.node ak an az al) (.node bk bn bz bl)) i := ⟨_, rfl⟩
    rw [← hP] at hst hmi hzi d0 d1 d2 d3 hIn
    obtain ⟨Y, hY⟩ : ∃ Y, Y = prt (fAs (.node xk xn xz xl) (.node bk bn bz bl)) i := ⟨_, rfl⟩
    rw [← hY] at hst
    have HC0 := Lib.hid (stepV_any 0 P B bb wr hIn (HSG.out.below hbw HSG.out.pos) (fine_may hmi (by omega)) (fun _ => ⟨hmi, step_fine2 hmi (by omega)⟩))
    rw [hst] at HC0
    have HY := Lib.hid hY
    clear hst hmi hzi hP hIn hY
    obtain ⟨pk, pn, pz, pl⟩ := P
    obtain ⟨yk, yn, yz, yl⟩ := Y
    simp only [ev, Te.kind, Te.n, Te.name, Te.parts] at HC0 d0 d1 d2 d3
    have hlt0 : (i : Int) < 4 := by omega
    go_wp2_with fail
    refine HC0.out.mono ?_
    rintro e w9 ⟨Ay, cy, rfl, hTy0, hb9⟩
    have hTy : EIn w9 Any (.node yk yn yz yl) Ay := EIn.keep _ hTy0 fun _ _ _ _ => ⟨rfl, trivial⟩
    simp only [ev, Te.kind, Te.n, Te.name, Te.parts]
    replace hL5 := ELIn.below _ hL5 hb9 (Nat.le_refl _)
    replace hL6 := ELIn.below _ hL6 hb9 (Nat.le_refl _)
    replace hbw := hbw.trans (hb9.mono hbw.size)
    clear hTy0 hb9 d0 d1 d2 d3 HC0
    go_upto_if 14 with fail
    have hbV : Below w9.heap.size w9 (w9.alloc (.cells #[.int .i64 yk, .int .i64 yn, .string yz, .slice Ay yl.length (capF yl.length cy)] 24)) := (Below.refl _ _).alloc (Nat.le_refl _) _
    have ly : Lies (w9.alloc (.cells #[.int .i64 yk, .int .i64 yn, .string yz, .slice Ay yl.length (capF yl.length cy)] 24)) w9.heap.size 24 #[.int .i64 yk, .int .i64 yn, .string yz, .slice Ay yl.length (capF yl.length cy)] := Lies.new _ _ _
    replace hL5 := ELIn.below _ hL5 hbV (Nat.le_refl _)
    replace hL6 := ELIn.below _ hL6 hbV (Nat.le_refl _)
    replace hTy := EIn.below _ hTy hbV (Nat.le_refl _)
    replace hbw := hbw.trans (hbV.mono hbw.size)
    obtain ⟨b4, hb4⟩ : ∃ b, b = w9.heap.size := ⟨_, rfl⟩
    rw [← hb4] at ly
    rw [← hb4]
    clear hb4 hbV
    generalize w9.alloc (.cells #[.int .i64 yk, .int .i64 yn, .string yz, .slice Ay yl.length (capF yl.length cy)] 24) = V at *
    obtain ⟨g, o, B2, b2, ⟨hA, _⟩, d0, d1, d2, d3, hIn⟩ := ELIn.at_ _ hL6 i (show i < (fAs (.node xk xn xz xl) (.node bk bn bz bl)).length from hlt)
    have hlg := ELIn.lt_of hL6
    rw [← prt_get (show i < (fAs (.node xk xn xz xl) (.node bk bn bz bl)).length from hlt), ← HY.out] at d0 d1 d2 d3 hIn
    injection hA with hA
    injection hA with hA1 hA2
    subst hA1 hA2
    simp only [Nat.zero_add, Te.kind, Te.n, Te.name, Te.parts] at d0 d1 d2 d3
    have HSM : Hid (∀ X, Below V.heap.size V X → ∀ (A : Option Addr) (c : Nat) (hA : EIn X Any (.node yk yn yz yl) A) (B : Option Addr) (d : Nat) (hB : EIn X Any (.node yk yn yz yl) B), Calls Tryz.prog 16 #[.agg #[.int .i64 yk, .int .i64 yn, .string yz, .slice A yl.length (capF yl.length c)], .agg #[.int .i64 yk, .int .i64 yn, .string yz, .slice B yl.length (capF yl.length d)]] X fun e w' => e = .returned (.bool true) ∧ Below X.heap.size X w') := Lib.hid fun X hX A c hA B d hB => by
     have h := rsame6_any (depthE (.node yk yn yz yl)) (.node yk yn yz yl) (.node yk yn yz yl) A B c d X (Nat.le_refl _) hA hB
     rw [sameE_refl] at h
     exact h
    have HSS : Hid (∀ V', Below V.heap.size V V' → (fun V' : World => (V'.cell? ⟨b4, 0, none⟩ = some (.int .i64 yk) ∧ V'.cell? ⟨b4, 1, none⟩ = some (.int .i64 yn) ∧ V'.cell? ⟨b4, 2, none⟩ = some (.string yz) ∧ V'.cell? ⟨b4, 3, none⟩ = some (.slice Ay yl.length (capF yl.length cy)) ∧ V'.cell? ⟨q6_4, i * 4, none⟩ = some (.int .i64 yk) ∧ V'.cell? ⟨q6_4, i * 4 + 1, none⟩ = some (.int .i64 yn) ∧ V'.cell? ⟨q6_4, i * 4 + 2, none⟩ = some (.string yz) ∧ V'.cell? ⟨q6_4, i * 4 + 3, none⟩ = some (.slice B2 yl.length (capF yl.length b2)))) V') := Lib.hid fun V' h =>
     ⟨(h.cell (p := ⟨b4, 0, none⟩) ly.lt).trans (ly.cell 0), (h.cell (p := ⟨b4, 1, none⟩) ly.lt).trans (ly.cell 1), (h.cell (p := ⟨b4, 2, none⟩) ly.lt).trans (ly.cell 2), (h.cell (p := ⟨b4, 3, none⟩) ly.lt).trans (ly.cell 3), (h.cell (p := ⟨q6_4, i * 4, none⟩) hlg).trans d0, (h.cell (p := ⟨q6_4, i * 4 + 1, none⟩) hlg).trans d1, (h.cell (p := ⟨q6_4, i * 4 + 2, none⟩) hlg).trans d2, (h.cell (p := ⟨q6_4, i * 4 + 3, none⟩) hlg).trans d3⟩
    clear HY HSZ HSI HST
    have hb_1 : Below V.heap.size V V := Below.refl _ _
    refine wp_region_held_drew (S := (fun V' : World => (V'.cell? ⟨b4, 0, none⟩ = some (.int .i64 yk) ∧ V'.cell? ⟨b4, 1, none⟩ = some (.int .i64 yn) ∧ V'.cell? ⟨b4, 2, none⟩ = some (.string yz) ∧ V'.cell? ⟨b4, 3, none⟩ = some (.slice Ay yl.length (capF yl.length cy)) ∧ V'.cell? ⟨q6_4, i * 4, none⟩ = some (.int .i64 yk) ∧ V'.cell? ⟨q6_4, i * 4 + 1, none⟩ = some (.int .i64 yn) ∧ V'.cell? ⟨q6_4, i * 4 + 2, none⟩ = some (.string yz) ∧ V'.cell? ⟨q6_4, i * 4 + 3, none⟩ = some (.slice B2 yl.length (capF yl.length b2))))) rfl (HSS.out _ hb_1.drew) (fun hSs => ?_)
    change wpAnyH _ _ _ _ _ 12 (Array.replicate 12 false) _ _
    refine thB (i := 0) (oi := ⟨some 106, _, _, _, _, _⟩) (v := .int .i64 wh) hSs ?_
    try go_frame
    refine thB (i := 1) (oi := ⟨some 107, _, _, _, _, _⟩) (v := .int .i64 wh) hSs ?_
    try go_frame
    refine thA (i := 2) (oi := ⟨some 108, _, _, _, _, _⟩) (v := .bool false) hSs ?_
    try go_frame
    refine thB (i := 3) (oi := ⟨some 109, _, _, _, _, _⟩) (v := .bool false) hSs ?_
    try go_frame
    refine thA (i := 4) (oi := ⟨some 110, _, _, _, _, _⟩) (v := .agg #[.int .i64 yk, .int .i64 yn, .string yz, .slice Ay yl.length (capF yl.length cy)]) hSs ?_
    try go_frame
    refine thB (i := 5) (oi := ⟨some 111, _, _, _, _, _⟩) (v := .slice (some ⟨q6_4, 0, none⟩) 4 4) hSs ?_
    try go_frame
    refine thB (i := 6) (oi := ⟨some 112, _, _, _, _, _⟩) (v := .int .i64 (i : Int)) hSs ?_
    try go_frame
    refine thA (i := 7) (oi := ⟨some 113, _, _, _, _, _⟩) (v := .pointer (some ⟨q6_4, i * 4, none⟩)) hSs ?_
    try go_frame
    refine thA (i := 8) (oi := ⟨some 114, _, _, _, _, _⟩) (v := .agg #[.int .i64 yk, .int .i64 yn, .string yz, .slice B2 yl.length (capF yl.length b2)]) hSs ?_
    try go_frame
    refine wpAnyH_ready (rs := [9]) (by kernel_rfl) (by simp) (AllReadyH.cons rfl (fun K hK => ?_) AllReadyH.nil)
    rw [if_pos (by kernel_rfl)]
    go_simp
    refine (HSM.out _ (hb_1.drew) Ay cy (EIn.below _ hTy (Below.refl _ _).drew (Nat.le_refl _)) B2 b2 (EIn.below _ hIn (Below.refl _ _).drew (Nat.le_refl _))).mono ?_
    rintro e u_2 ⟨rfl, hq_2⟩
    have hb_2 := (hb_1.drew).trans (hq_2.mono (hb_1.drew).size)
    have hTy_2 := EIn.below _ (EIn.below _ hTy (Below.refl _ _).drew (Nat.le_refl _)) hq_2 (Nat.le_refl _)
    have hIn_2 := EIn.below _ (EIn.below _ hIn (Below.refl _ _).drew (Nat.le_refl _)) hq_2 (Nat.le_refl _)
    clear hTy hIn
    refine hK.out _ _ (HSS.out _ hb_2) (fun hS_2 => ?_)
    clear hK K
    try go_frame
    refine thB (i := 10) (oi := ⟨some 116, _, _, _, _, _⟩) (v := .bool false) hS_2 ?_
    try go_frame
    refine thB (i := 11) (oi := ⟨some 117, _, _, _, _, _⟩) (v := .bool false) hS_2 ?_
    try go_frame
    refine wpAnyH_done (by kernel_rfl) ?_ _
    go_wp2_with fail
    go_roundw
    case rel => exact ⟨i + 1, by omega, by go_num, ELIn.below _ hL5 hb_2 (Nat.le_refl _), ELIn.below _ hL6 hb_2 (Nat.le_refl _), hbw.trans (hb_2.mono hbw.size)⟩
    case measure => simp [intOf]; omega
   ·obtain rfl : i = 4 := by omega
    have HB := Lib.hid hbw
    clear hL5 hL6 hbw
    go_wp2_with fail
    go_ret
    exact ⟨rfl, HB.out⟩
end Lx
end Go.Proofs.YtiocmiikghcoaaaGreatDoor
