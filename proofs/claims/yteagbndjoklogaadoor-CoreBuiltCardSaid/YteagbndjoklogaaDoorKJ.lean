/-
  Texts that lie one behind the other: Fix6a Fix6 MayT6 BoxE.
-/
import Derived.Test.YteagbndjoklogaaDoorKI
import Derived.Deep.Cut
import Derived.Deep.RegionHeld3
import Derived.Deep.DrawnRows
import Derived.Deep.QuietTactic
import Derived.BigQuiet
namespace Go.Proofs.YteagbndjoklogaaDoor
open Go.RowKit Go.Sort
namespace Lx
set_option maxRecDepth 100000
theorem EIn.mk {w : World} {X : Nat → Prop} {k n : Int} {s : ByteArray} {l : List Te} {A : Option Addr} (hs : s.size ≤ 140737488351232) (h0 : -9223372036854775808 ≤ n) (h1 : n ≤ 9223372036854775807) (hl : l.length ≤ 140737488351232) (h : ELIn w X l A 0) : EIn w X (.node k n s l) A := by
  rw [EIn]; exact ⟨⟨hs, h0, h1⟩, hl, h⟩
theorem EIn.leaf {w : World} {X : Nat → Prop} {k n : Int} {s : ByteArray} {A : Option Addr} (hs : s.size ≤ 140737488351232) (h0 : -9223372036854775808 ≤ n) (h1 : n ≤ 9223372036854775807) : EIn w X (.node k n s []) A :=
  EIn.mk hs h0 h1 (by simp) (by rw [ELIn]; trivial)
theorem ELIn.of_lies {w : World} {X : Nat → Prop} {l : List Te} {xs : List Value} {g : Nat} {cs : Array Value} {t : TypeId} (h : RowTe w X l xs) (L : Lies w g t cs) (hcs : cs.toList = xs) (hg : X g) : ELIn w X l (some ⟨g, 0, none⟩) 0 := by
  refine h.parts hg (fun _ hb _ => hb) fun j u hu => ?_
  rw [Nat.zero_add, L.cell j, ← hu, ← hcs, Array.getElem?_toList]
theorem ELIn.one {w : World} {X : Nat → Prop} {t1 : Te} {A1 : Option Addr} {c1 : Nat} {g : Nat} {cs : Array Value} {t : TypeId} (L : Lies w g t cs) (hcs : cs.toList = cellsE t1 A1 c1) (hg : X g) (h1 : EIn w X t1 A1) : ELIn w X [t1] (some ⟨g, 0, none⟩) 0 :=
  ELIn.of_lies ((RowTe.nil w X).snoc (c := c1) h1) L (by simpa using hcs) hg
theorem ELIn.two {w : World} {X : Nat → Prop} {t1 t2 : Te} {A1 A2 : Option Addr} {c1 c2 : Nat} {g : Nat} {cs : Array Value} {t : TypeId} (L : Lies w g t cs) (hcs : cs.toList = cellsE t1 A1 c1 ++ cellsE t2 A2 c2) (hg : X g) (h1 : EIn w X t1 A1) (h2 : EIn w X t2 A2) : ELIn w X [t1, t2] (some ⟨g, 0, none⟩) 0 :=
  ELIn.of_lies (((RowTe.nil w X).snoc (c := c1) h1).snoc (c := c2) h2) L (by simpa using hcs) hg
abbrev e0B : ByteArray := ⟨#[]⟩
theorem e0B_size : e0B.size ≤ 140737488351232 := by decide
def vT (n : Int) : Te := .node 1 n e0B []
def idT : Te := .node 2 0 e0B [vT 0]
def i7T : Te := .node 7 (-7) e0B []
def tT : Te := .node 3 0 e0B [idT, i7T]
def aB : ByteArray := ⟨#[65]⟩
def altT : Te := .node 6 2 aB [vT 1]
def uT : Te := .node 5 0 e0B [tT, altT]
def failT : Te := .node 9 0 e0B []
/-- What id answers. -/
def IdP (w : World) (e : Ending) (w' : World) : Prop :=
  ∃ g, e = .returned (.agg #[.int .i64 2, .int .i64 0, .string e0B, .slice (some ⟨g, 0, none⟩) 1 1]) ∧ Below w.heap.size w w' ∧ Lies w' g 24 #[.int .i64 1, .int .i64 0, .string e0B, .slice none 0 0]
theorem id_in {W : World} {g : Nat} (h : Lies W g 24 #[.int .i64 1, .int .i64 0, .string e0B, .slice none 0 0]) : EIn W Any idT (some ⟨g, 0, none⟩) :=
  EIn.mk e0B_size (by decide) (by decide) (by simp) (ELIn.one (t1 := vT 0) (A1 := none) (c1 := 0) h rfl trivial (EIn.leaf e0B_size (by decide) (by decide)))
set_option maxHeartbeats 1000000 in
theorem id_any (w : World) : Calls Tryd.prog 15 #[] w (IdP w) := by
  go_enter Tryd.func15, Tryd.ntmps15
  go_wp2_with fail
  refine bodyPost_ret (res_term (p := 0) Tryd.results15 rfl ((Lies.new w _ _).old _)) rfl ⟨w.heap.size + 1, rfl, ((Below.refl _ w).alloc (Nat.le_refl _) _).alloc (by simp) _, ?_⟩
  have := Lies.new (w.alloc (.cells #[.int .i64 2, .int .i64 0, .string e0B, .slice (some ⟨w.heap.size + 1, 0, none⟩) 1 1] 24)) 24 #[.int .i64 1, .int .i64 0, .string e0B, .slice none 0 0]
  simpa using this
end Lx
end Go.Proofs.YteagbndjoklogaaDoor
namespace Go.Proofs.YteagbndjoklogaaDoor
open Go.RowKit Go.Sort
namespace Lx
set_option maxRecDepth 100000
theorem x6_id : textE idT = [40, 92, 32, 35, 48, 41] := by kernel_rfl
theorem x6_t : textE tT = [40, 64, 32, 40, 92, 32, 35, 48, 41, 32, 45, 55, 41] := by kernel_rfl
theorem x6_u : textE uT = [40, 63, 32, 40, 64, 32, 40, 92, 32, 35, 48, 41, 32, 45, 55, 41, 32, 40, 65, 58, 50, 32, 35, 49, 41, 41] := by kernel_rfl
theorem x6_f : textE failT = [33] := by kernel_rfl
theorem m6_u : mayV6 uT 0 = true := by kernel_rfl
theorem m6_a : mayV6 altT 5 = false := by kernel_rfl
theorem m6_v0 : mayV6 (vT 0) 0 = false := by kernel_rfl
theorem m6_v1 : mayV6 (vT 0) 1 = true := by kernel_rfl
theorem m6_i : mayV6 idT (-1) = false := by kernel_rfl
theorem z6_u : sizeE uT = 7 := by kernel_rfl
theorem d6_u : depthE uT = 4 := by kernel_rfl
theorem s6_tt : sameE tT tT = true := by kernel_rfl
theorem s6_tu : sameE tT uT = false := by kernel_rfl
/-- The two tables. -/
structure Tabs6 (w : World) : Prop where
  sg : Signs w
  pw : Lib.TabIs Tryd.prog w "internal/strconv.uint64pow10" .u64 Lib.pow10Tab
theorem Tabs6.below {w w' : World} (h : Tabs6 w) (hb : Below w.heap.size w w') : Tabs6 w' := ⟨h.sg.below hb h.sg.pos, etab_iv h.pw w' hb⟩
/-- What stands all along. -/
structure Fx6 (w W : World) (S1 S2 S3 GT GU : Nat) : Prop where
  lt : Lies W GT 24 #[.int .i64 3, .int .i64 0, .string e0B, .slice (some ⟨S1, 0, none⟩) 2 2]
  lu : Lies W GU 24 #[.int .i64 5, .int .i64 0, .string e0B, .slice (some ⟨S3, 0, none⟩) 2 2]
  ls : Lies W S3 24 #[.int .i64 3, .int .i64 0, .string e0B, .slice (some ⟨S1, 0, none⟩) 2 2, .int .i64 6, .int .i64 2, .string aB, .slice (some ⟨S2, 0, none⟩) 1 1]
  t0 : EIn W Any tT (some ⟨S1, 0, none⟩)
  u0 : EIn W Any uT (some ⟨S3, 0, none⟩)
  a0 : EIn W Any altT (some ⟨S2, 0, none⟩)
  tb : Tabs6 W
  bw : Below w.heap.size w W
theorem Fx6.step {w W W' : World} {S1 S2 S3 GT GU : Nat} (h : Fx6 w W S1 S2 S3 GT GU) (hb : Below W.heap.size W W') : Fx6 w W' S1 S2 S3 GT GU :=
  ⟨h.lt.below hb h.lt.lt, h.lu.below hb h.lu.lt, h.ls.below hb h.ls.lt, EIn.below _ h.t0 hb (Nat.le_refl _), EIn.below _ h.u0 hb (Nat.le_refl _), EIn.below _ h.a0 hb (Nat.le_refl _), h.tb.below hb, h.bw.trans (hb.mono h.bw.size)⟩

theorem fx6_new (w w1 : World) (g : Nat) (hg : Tabs6 w) (hb1 : Below w.heap.size w w1) (hL1 : Lies w1 g 24 #[.int .i64 1, .int .i64 0, .string e0B, .slice none 0 0]) :
    Fx6 w (((((w1.alloc (.cells #[.int .i64 2, .int .i64 0, .string e0B, .slice (some ⟨g, 0, none⟩) 1 1, .int .i64 7, .int .i64 (-7), .string e0B, .slice none 0 0] 24)).alloc (.cells #[.int .i64 3, .int .i64 0, .string e0B, .slice (some ⟨w1.heap.size, 0, none⟩) 2 2] 24)).alloc (.cells #[.int .i64 1, .int .i64 1, .string e0B, .slice none 0 0] 24)).alloc (.cells #[.int .i64 3, .int .i64 0, .string e0B, .slice (some ⟨w1.heap.size, 0, none⟩) 2 2, .int .i64 6, .int .i64 2, .string aB, .slice (some ⟨w1.heap.size + 1 + 1, 0, none⟩) 1 1] 24)).alloc (.cells #[.int .i64 5, .int .i64 0, .string e0B, .slice (some ⟨w1.heap.size + 1 + 1 + 1, 0, none⟩) 2 2] 24))
      w1.heap.size (w1.heap.size + 1 + 1) (w1.heap.size + 1 + 1 + 1) (w1.heap.size + 1) (w1.heap.size + 1 + 1 + 1 + 1) := by
  obtain ⟨O1, h1⟩ : ∃ O, O = Obj.cells #[.int .i64 2, .int .i64 0, .string e0B, .slice (some ⟨g, 0, none⟩) 1 1, .int .i64 7, .int .i64 (-7), .string e0B, .slice none 0 0] 24 := ⟨_, rfl⟩
  obtain ⟨O2, h2⟩ : ∃ O, O = Obj.cells #[.int .i64 3, .int .i64 0, .string e0B, .slice (some ⟨w1.heap.size, 0, none⟩) 2 2] 24 := ⟨_, rfl⟩
  obtain ⟨O3, h3⟩ : ∃ O, O = Obj.cells #[.int .i64 1, .int .i64 1, .string e0B, .slice none 0 0] 24 := ⟨_, rfl⟩
  obtain ⟨O4, h4⟩ : ∃ O, O = Obj.cells #[.int .i64 3, .int .i64 0, .string e0B, .slice (some ⟨w1.heap.size, 0, none⟩) 2 2, .int .i64 6, .int .i64 2, .string aB, .slice (some ⟨w1.heap.size + 1 + 1, 0, none⟩) 1 1] 24 := ⟨_, rfl⟩
  obtain ⟨O5, h5⟩ : ∃ O, O = Obj.cells #[.int .i64 5, .int .i64 0, .string e0B, .slice (some ⟨w1.heap.size + 1 + 1 + 1, 0, none⟩) 2 2] 24 := ⟨_, rfl⟩
  rw [← h1, ← h2, ← h3, ← h4, ← h5]
  have L1 : Lies (w1.alloc O1) w1.heap.size 24 #[.int .i64 2, .int .i64 0, .string e0B, .slice (some ⟨g, 0, none⟩) 1 1, .int .i64 7, .int .i64 (-7), .string e0B, .slice none 0 0] := by rw [h1]; exact Lies.new w1 _ _
  have L2 : Lies ((w1.alloc O1).alloc O2) (w1.heap.size + 1) 24 #[.int .i64 3, .int .i64 0, .string e0B, .slice (some ⟨w1.heap.size, 0, none⟩) 2 2] := by rw [h2]; have := Lies.new (w1.alloc O1) 24 #[.int .i64 3, .int .i64 0, .string e0B, .slice (some ⟨w1.heap.size, 0, none⟩) 2 2]; rw [show (w1.alloc O1).heap.size = w1.heap.size + 1 from by simp] at this; exact this
  have L3 : Lies (((w1.alloc O1).alloc O2).alloc O3) (w1.heap.size + 1 + 1) 24 #[.int .i64 1, .int .i64 1, .string e0B, .slice none 0 0] := by rw [h3]; have := Lies.new ((w1.alloc O1).alloc O2) 24 #[.int .i64 1, .int .i64 1, .string e0B, .slice none 0 0]; rw [show ((w1.alloc O1).alloc O2).heap.size = w1.heap.size + 1 + 1 from by simp] at this; exact this
  have L4 : Lies ((((w1.alloc O1).alloc O2).alloc O3).alloc O4) (w1.heap.size + 1 + 1 + 1) 24 #[.int .i64 3, .int .i64 0, .string e0B, .slice (some ⟨w1.heap.size, 0, none⟩) 2 2, .int .i64 6, .int .i64 2, .string aB, .slice (some ⟨w1.heap.size + 1 + 1, 0, none⟩) 1 1] := by rw [h4]; have := Lies.new (((w1.alloc O1).alloc O2).alloc O3) 24 #[.int .i64 3, .int .i64 0, .string e0B, .slice (some ⟨w1.heap.size, 0, none⟩) 2 2, .int .i64 6, .int .i64 2, .string aB, .slice (some ⟨w1.heap.size + 1 + 1, 0, none⟩) 1 1]; rw [show (((w1.alloc O1).alloc O2).alloc O3).heap.size = w1.heap.size + 1 + 1 + 1 from by simp] at this; exact this
  have L5 : Lies (((((w1.alloc O1).alloc O2).alloc O3).alloc O4).alloc O5) (w1.heap.size + 1 + 1 + 1 + 1) 24 #[.int .i64 5, .int .i64 0, .string e0B, .slice (some ⟨w1.heap.size + 1 + 1 + 1, 0, none⟩) 2 2] := by rw [h5]; have := Lies.new ((((w1.alloc O1).alloc O2).alloc O3).alloc O4) 24 #[.int .i64 5, .int .i64 0, .string e0B, .slice (some ⟨w1.heap.size + 1 + 1 + 1, 0, none⟩) 2 2]; rw [show ((((w1.alloc O1).alloc O2).alloc O3).alloc O4).heap.size = w1.heap.size + 1 + 1 + 1 + 1 from by simp] at this; exact this
  have hb5 : Below w1.heap.size w1 (((((w1.alloc O1).alloc O2).alloc O3).alloc O4).alloc O5) := ((((((Below.refl _ w1).alloc (Nat.le_refl _) _).alloc (by simp) _).alloc (by simp; omega) _).alloc (by simp; omega) _).alloc (by simp; omega) _)
  have M1 := (((L1.old O2).old O3).old O4).old O5
  have M2 := ((L2.old O3).old O4).old O5
  have M3 := (L3.old O4).old O5
  have M4 := L4.old O5
  obtain ⟨W, hW⟩ : ∃ W, W = ((((w1.alloc O1).alloc O2).alloc O3).alloc O4).alloc O5 := ⟨_, rfl⟩
  rw [← hW] at M1 M2 M3 M4 L5 hb5 ⊢
  have hid := id_in (hL1.below hb5 hL1.lt)
  have hi7 : EIn W Any i7T none := EIn.leaf e0B_size (by decide) (by decide)
  have ht : EIn W Any tT (some ⟨w1.heap.size, 0, none⟩) := EIn.mk e0B_size (by decide) (by decide) (by simp) (ELIn.two (t1 := idT) (t2 := i7T) (A1 := some ⟨g, 0, none⟩) (c1 := 1) (A2 := none) (c2 := 0) M1 rfl trivial hid hi7)
  have ha : EIn W Any altT (some ⟨w1.heap.size + 1 + 1, 0, none⟩) := EIn.mk (by decide) (by decide) (by decide) (by simp) (ELIn.one (t1 := vT 1) (A1 := none) (c1 := 0) M3 rfl trivial (EIn.leaf e0B_size (by decide) (by decide)))
  have hu : EIn W Any uT (some ⟨w1.heap.size + 1 + 1 + 1, 0, none⟩) := EIn.mk e0B_size (by decide) (by decide) (by simp) (ELIn.two (t1 := tT) (t2 := altT) (A1 := some ⟨w1.heap.size, 0, none⟩) (c1 := 2) (A2 := some ⟨w1.heap.size + 1 + 1, 0, none⟩) (c2 := 1) M4 rfl trivial ht ha)
  exact ⟨M2, L5, M4, ht, hu, ha, (hg.below hb1).below hb5, hb1.trans (hb5.mono hb1.size)⟩
section
variable {w W : World} {S1 S2 S3 GT GU : Nat}
theorem Fx6.c_t (h : Fx6 w W S1 S2 S3 GT GU) : W.cell? ⟨GT, 0, none⟩ = some (.int .i64 3) ∧ W.cell? ⟨GT, 1, none⟩ = some (.int .i64 0) ∧ W.cell? ⟨GT, 2, none⟩ = some (.string e0B) ∧ W.cell? ⟨GT, 3, none⟩ = some (.slice (some ⟨S1, 0, none⟩) 2 2) := h.lt.four'
theorem Fx6.c_u (h : Fx6 w W S1 S2 S3 GT GU) : W.cell? ⟨GU, 0, none⟩ = some (.int .i64 5) ∧ W.cell? ⟨GU, 1, none⟩ = some (.int .i64 0) ∧ W.cell? ⟨GU, 2, none⟩ = some (.string e0B) ∧ W.cell? ⟨GU, 3, none⟩ = some (.slice (some ⟨S3, 0, none⟩) 2 2) := h.lu.four'
theorem Fx6.c_a (h : Fx6 w W S1 S2 S3 GT GU) : W.cell? ⟨S3, 4, none⟩ = some (.int .i64 6) ∧ W.cell? ⟨S3, 5, none⟩ = some (.int .i64 2) ∧ W.cell? ⟨S3, 6, none⟩ = some (.string aB) ∧ W.cell? ⟨S3, 7, none⟩ = some (.slice (some ⟨S2, 0, none⟩) 1 1) := ⟨h.ls.cell 4, h.ls.cell 5, h.ls.cell 6, h.ls.cell 7⟩

theorem Fx6.text_t (h : Fx6 w W S1 S2 S3 GT GU) : Calls Tryd.prog 11 #[.agg #[.int .i64 3, .int .i64 0, .string e0B, .slice (some ⟨S1, 0, none⟩) 2 2]] W fun e w' => e = .returned (.string ⟨#[40, 64, 32, 40, 92, 32, 35, 48, 41, 32, 45, 55, 41]⟩) ∧ Below W.heap.size W w' := by
  have := etext_any tT _ 2 W h.t0 h.tb.pw (by rw [x6_t]; decide)
  rw [x6_t] at this
  exact this

theorem Fx6.text_u (h : Fx6 w W S1 S2 S3 GT GU) : Calls Tryd.prog 11 #[.agg #[.int .i64 5, .int .i64 0, .string e0B, .slice (some ⟨S3, 0, none⟩) 2 2]] W fun e w' => e = .returned (.string ⟨#[40, 63, 32, 40, 64, 32, 40, 92, 32, 35, 48, 41, 32, 45, 55, 41, 32, 40, 65, 58, 50, 32, 35, 49, 41, 41]⟩) ∧ Below W.heap.size W w' := by
  have := etext_any uT _ 2 W h.u0 h.tb.pw (by rw [x6_u]; decide)
  rw [x6_u] at this
  exact this

theorem Fx6.text_f (h : Fx6 w W S1 S2 S3 GT GU) : Calls Tryd.prog 11 #[.agg #[.int .i64 9, .int .i64 0, .string e0B, .slice none 0 0]] W fun e w' => e = .returned (.string ⟨#[33]⟩) ∧ Below W.heap.size W w' := by
  have := etext_any failT none 0 W (EIn.leaf e0B_size (by decide) (by decide)) h.tb.pw (by rw [x6_f]; decide)
  rw [x6_f] at this
  exact this

theorem Fx6.may_u (h : Fx6 w W S1 S2 S3 GT GU) : Calls Tryd.prog 10 #[.agg #[.int .i64 5, .int .i64 0, .string e0B, .slice (some ⟨S3, 0, none⟩) 2 2], .int .i64 0] W fun e w' => e = .returned (.bool true) ∧ Below W.heap.size W w' := by
  have := eMay_any uT _ 2 0 W h.u0 h.tb.sg (by decide)
  rw [m6_u] at this
  exact this

theorem Fx6.may_a (h : Fx6 w W S1 S2 S3 GT GU) : Calls Tryd.prog 10 #[.agg #[.int .i64 6, .int .i64 2, .string aB, .slice (some ⟨S2, 0, none⟩) 1 1], .int .i64 5] W fun e w' => e = .returned (.bool false) ∧ Below W.heap.size W w' := by
  have := eMay_any altT _ 1 5 W h.a0 h.tb.sg (by decide)
  rw [m6_a] at this
  exact this

theorem Fx6.may_v0 (h : Fx6 w W S1 S2 S3 GT GU) : Calls Tryd.prog 10 #[.agg #[.int .i64 1, .int .i64 0, .string e0B, .slice none 0 0], .int .i64 0] W fun e w' => e = .returned (.bool false) ∧ Below W.heap.size W w' := by
  have := eMay_any (vT 0) none 0 0 W (EIn.leaf e0B_size (by decide) (by decide)) h.tb.sg (by decide)
  rw [m6_v0] at this
  exact this

theorem Fx6.may_v1 (h : Fx6 w W S1 S2 S3 GT GU) : Calls Tryd.prog 10 #[.agg #[.int .i64 1, .int .i64 0, .string e0B, .slice none 0 0], .int .i64 1] W fun e w' => e = .returned (.bool true) ∧ Below W.heap.size W w' := by
  have := eMay_any (vT 0) none 0 1 W (EIn.leaf e0B_size (by decide) (by decide)) h.tb.sg (by decide)
  rw [m6_v1] at this
  exact this

theorem Fx6.size_u (h : Fx6 w W S1 S2 S3 GT GU) : Calls Tryd.prog 13 #[.agg #[.int .i64 5, .int .i64 0, .string e0B, .slice (some ⟨S3, 0, none⟩) 2 2]] W fun e w' => e = .returned (.int .i64 7) ∧ Below W.heap.size W w' := by
  have := esize_any 4 uT _ 2 W (by decide) (by decide) h.u0
  rw [z6_u] at this
  exact this

theorem Fx6.depth_u (h : Fx6 w W S1 S2 S3 GT GU) : Calls Tryd.prog 14 #[.agg #[.int .i64 5, .int .i64 0, .string e0B, .slice (some ⟨S3, 0, none⟩) 2 2]] W fun e w' => e = .returned (.int .i64 4) ∧ Below W.heap.size W w' := by
  have := edepth_any 4 uT _ 2 W (by decide) (by decide) h.u0
  rw [d6_u] at this
  exact this

theorem Fx6.same_tt (h : Fx6 w W S1 S2 S3 GT GU) : Calls Tryd.prog 12 #[.agg #[.int .i64 3, .int .i64 0, .string e0B, .slice (some ⟨S1, 0, none⟩) 2 2], .agg #[.int .i64 3, .int .i64 0, .string e0B, .slice (some ⟨S1, 0, none⟩) 2 2]] W fun e w' => e = .returned (.bool true) ∧ Below W.heap.size W w' := by
  have := esame_any 4 tT tT _ _ 2 2 W (by decide) h.t0 h.t0
  rw [s6_tt] at this
  exact this

theorem Fx6.same_tu (h : Fx6 w W S1 S2 S3 GT GU) : Calls Tryd.prog 12 #[.agg #[.int .i64 3, .int .i64 0, .string e0B, .slice (some ⟨S1, 0, none⟩) 2 2], .agg #[.int .i64 5, .int .i64 0, .string e0B, .slice (some ⟨S3, 0, none⟩) 2 2]] W fun e w' => e = .returned (.bool false) ∧ Below W.heap.size W w' := by
  have := esame_any 4 tT uT _ _ 2 2 W (by decide) h.t0 h.u0
  rw [s6_tu] at this
  exact this

end
theorem text6_id {W : World} {g : Nat} (h : Lies W g 24 #[.int .i64 1, .int .i64 0, .string e0B, .slice none 0 0]) (hg : Tabs6 W) : Calls Tryd.prog 11 #[.agg #[.int .i64 2, .int .i64 0, .string e0B, .slice (some ⟨g, 0, none⟩) 1 1]] W fun e w' => e = .returned (.string ⟨#[40, 92, 32, 35, 48, 41]⟩) ∧ Below W.heap.size W w' := by
  have := etext_any idT _ 1 W (id_in h) hg.pw (by rw [x6_id]; decide)
  rw [x6_id] at this
  exact this
theorem may6_i {W : World} {g : Nat} (h : Lies W g 24 #[.int .i64 1, .int .i64 0, .string e0B, .slice none 0 0]) (hg : Tabs6 W) : Calls Tryd.prog 10 #[.agg #[.int .i64 2, .int .i64 0, .string e0B, .slice (some ⟨g, 0, none⟩) 1 1], .int .i64 (-1)] W fun e w' => e = .returned (.bool false) ∧ Below W.heap.size W w' := by
  have := eMay_any idT _ 1 (-1) W (id_in h) hg.sg (by decide)
  rw [m6_i] at this
  exact this
set_option maxHeartbeats 16000000 in
theorem fix6_any (w : World) (hg : Tabs6 w) : Calls Tryd.prog 8 #[] w fun e w' => e = .returned (.bool true) ∧ Below w.heap.size w w' := by
  have hfd : ∀ (a b c d : Value) (w0 : World), (Instr.field 24 (.agg #[a, b, c, d]) 3).run Tryd.prog w0 = .ok d w0 := fun a b c d w0 => by kernel_rfl
  go_enter Tryd.func8, Tryd.ntmps8
  go_wp2_with fail
  refine (id_any _).mono ?_
  rintro e w1 ⟨g, rfl, hb1, hL1⟩
  have hF := fx6_new w w1 g hg hb1 hL1
  clear hL1 hb1 hg
  go_wp2_with fail
  change Calls _ _ _ (((((w1.alloc (.cells #[.int .i64 2, .int .i64 0, .string e0B, .slice (some ⟨g, 0, none⟩) 1 1, .int .i64 7, .int .i64 (-7), .string e0B, .slice none 0 0] 24)).alloc (.cells #[.int .i64 3, .int .i64 0, .string e0B, .slice (some ⟨w1.heap.size, 0, none⟩) 2 2] 24)).alloc (.cells #[.int .i64 1, .int .i64 1, .string e0B, .slice none 0 0] 24)).alloc (.cells #[.int .i64 3, .int .i64 0, .string e0B, .slice (some ⟨w1.heap.size, 0, none⟩) 2 2, .int .i64 6, .int .i64 2, .string aB, .slice (some ⟨w1.heap.size + 1 + 1, 0, none⟩) 1 1] 24)).alloc (.cells #[.int .i64 5, .int .i64 0, .string e0B, .slice (some ⟨w1.heap.size + 1 + 1 + 1, 0, none⟩) 2 2] 24)) _
  generalize (((((w1.alloc (.cells #[.int .i64 2, .int .i64 0, .string e0B, .slice (some ⟨g, 0, none⟩) 1 1, .int .i64 7, .int .i64 (-7), .string e0B, .slice none 0 0] 24)).alloc (.cells #[.int .i64 3, .int .i64 0, .string e0B, .slice (some ⟨w1.heap.size, 0, none⟩) 2 2] 24)).alloc (.cells #[.int .i64 1, .int .i64 1, .string e0B, .slice none 0 0] 24)).alloc (.cells #[.int .i64 3, .int .i64 0, .string e0B, .slice (some ⟨w1.heap.size, 0, none⟩) 2 2, .int .i64 6, .int .i64 2, .string aB, .slice (some ⟨w1.heap.size + 1 + 1, 0, none⟩) 1 1] 24)).alloc (.cells #[.int .i64 5, .int .i64 0, .string e0B, .slice (some ⟨w1.heap.size + 1 + 1 + 1, 0, none⟩) 2 2] 24)) = W0 at hF ⊢
  have HF := Lib.hid hF
  clear hF

  refine (id_any _).mono ?_
  rintro e V1 ⟨g1, rfl, hb, hL⟩
  have HF := Lib.hid (HF.out.step hb)
  have HL := Lib.hid hL
  clear hb hL
  go_wp2_with fail
  refine (text6_id HL.out HF.out.tb).mono ?_
  rintro e V2 ⟨rfl, hb⟩
  have HF := Lib.hid (HF.out.step hb)
  clear hb
  obtain ⟨t0, t1, t2, t3⟩ := HF.out.c_t
  go_wp2_with fail
  clear t0 t1 t2 t3
  refine (HF.out.text_t).mono ?_
  rintro e V3 ⟨rfl, hb⟩
  have HF := Lib.hid (HF.out.step hb)
  clear hb
  obtain ⟨u0, u1, u2, u3⟩ := HF.out.c_u
  go_wp2_with fail
  clear u0 u1 u2 u3
  refine (HF.out.text_u).mono ?_
  rintro e V4 ⟨rfl, hb⟩
  have HF := Lib.hid (HF.out.step hb)
  clear hb
  obtain ⟨u0, u1, u2, u3⟩ := HF.out.c_u
  go_wp2_with fail
  clear u0 u1 u2 u3
  refine (HF.out.may_u).mono ?_
  rintro e V5 ⟨rfl, hb⟩
  have HF := Lib.hid (HF.out.step hb)
  clear hb
  obtain ⟨u0, u1, u2, u3⟩ := HF.out.c_u
  obtain ⟨a0, a1, a2, a3⟩ := HF.out.c_a
  go_wp2_with fail
  clear u0 u1 u2 u3
  clear a0 a1 a2 a3
  refine (HF.out.may_a).mono ?_
  rintro e V6 ⟨rfl, hb⟩
  have HF := Lib.hid (HF.out.step hb)
  clear hb
  go_wp2_with fail
  refine (id_any _).mono ?_
  rintro e V7 ⟨g7, rfl, hb, hL⟩
  have HF := Lib.hid (HF.out.step hb)
  have HL := Lib.hid hL
  clear hb hL
  obtain ⟨v0, v1, v2, v3⟩ := HL.out.four'
  go_wp2_with fail
  clear v0 v1 v2 v3
  refine (HF.out.may_v0).mono ?_
  rintro e V8 ⟨rfl, hb⟩
  have HF := Lib.hid (HF.out.step hb)
  clear hb
  go_wp2_with fail
  refine (id_any _).mono ?_
  rintro e V9 ⟨g9, rfl, hb, hL⟩
  have HF := Lib.hid (HF.out.step hb)
  have HL := Lib.hid hL
  clear hb hL
  obtain ⟨v0, v1, v2, v3⟩ := HL.out.four'
  go_wp2_with fail
  clear v0 v1 v2 v3
  refine (HF.out.may_v1).mono ?_
  rintro e V10 ⟨rfl, hb⟩
  have HF := Lib.hid (HF.out.step hb)
  clear hb
  go_wp2_with fail
  refine (id_any _).mono ?_
  rintro e V11 ⟨g11, rfl, hb, hL⟩
  have HF := Lib.hid (HF.out.step hb)
  have HL := Lib.hid hL
  clear hb hL
  go_wp2_with fail
  refine (may6_i HL.out HF.out.tb).mono ?_
  rintro e V12 ⟨rfl, hb⟩
  have HF := Lib.hid (HF.out.step hb)
  clear hb
  obtain ⟨u0, u1, u2, u3⟩ := HF.out.c_u
  go_wp2_with fail
  clear u0 u1 u2 u3
  refine (HF.out.size_u).mono ?_
  rintro e V13 ⟨rfl, hb⟩
  have HF := Lib.hid (HF.out.step hb)
  clear hb
  obtain ⟨u0, u1, u2, u3⟩ := HF.out.c_u
  go_wp2_with fail
  clear u0 u1 u2 u3
  refine (HF.out.depth_u).mono ?_
  rintro e V14 ⟨rfl, hb⟩
  have HF := Lib.hid (HF.out.step hb)
  clear hb
  obtain ⟨t0, t1, t2, t3⟩ := HF.out.c_t
  go_wp2_with fail
  clear t0 t1 t2 t3
  refine (HF.out.same_tt).mono ?_
  rintro e V15 ⟨rfl, hb⟩
  have HF := Lib.hid (HF.out.step hb)
  clear hb
  obtain ⟨t0, t1, t2, t3⟩ := HF.out.c_t
  obtain ⟨u0, u1, u2, u3⟩ := HF.out.c_u
  go_wp2_with fail
  clear t0 t1 t2 t3
  clear u0 u1 u2 u3
  refine (HF.out.same_tu).mono ?_
  rintro e V16 ⟨rfl, hb⟩
  have HF := Lib.hid (HF.out.step hb)
  clear hb
  go_wp2_with fail
  refine (HF.out.text_f).mono ?_
  rintro e V17 ⟨rfl, hb⟩
  have HF := Lib.hid (HF.out.step hb)
  clear hb
  go_wp2_with fail
  go_ret
  exact ⟨rfl, HF.out.bw⟩
end Lx
end Go.Proofs.YteagbndjoklogaaDoor
namespace Go.Proofs.YteagbndjoklogaaDoor
namespace Lx
set_option maxRecDepth 100000
theorem head_mono {k n : Int} {s : List UInt8} {m : Nat} {f f' b : Int} (h : f ≤ f') (hh : headE k n s m f b = true) : headE k n s m f' b = true := by
  unfold headE at hh ⊢
  by_cases k1 : k = 1
  · rw [if_pos k1] at hh ⊢
    simp only [Bool.and_eq_true, beq_iff_eq, decide_eq_true_eq] at hh ⊢
    exact ⟨hh.1, hh.2.1, by omega, hh.2.2.2⟩
  · rw [if_neg k1] at hh ⊢
    exact hh
mutual
theorem mayE_mono : ∀ (t : Te) (f f' b : Int), f ≤ f' → mayE t f b = true → mayE t f' b = true
  | .node k n s l, f, f', b, h, hm => by
    rw [mayE, Bool.and_eq_true, Bool.and_eq_true] at hm ⊢
    exact ⟨head_mono h hm.1, mayEL_mono k 0 l f f' _ h hm.2.1, hm.2.2⟩
theorem mayEL_mono : ∀ (k : Int) (i : Nat) (l : List Te) (f f' b : Int), f ≤ f' → mayEL k i l f b = true → mayEL k i l f' b = true
  | k, i, [], f, f', b, h, _ => by rw [mayEL]
  | k, i, t :: r, f, f', b, h, hm => by
    rw [mayEL, Bool.and_eq_true, Bool.and_eq_true] at hm ⊢
    exact ⟨hm.1, mayE_mono t f f' b h hm.2.1, mayEL_mono k (i + 1) r f f' b h hm.2.2⟩
end
theorem head_shift (k n : Int) (s : List UInt8) (m : Nat) (f b d : Int) : headE k n s m f (b + d) = headE k n s m (f + d) b := by
  unfold headE
  by_cases k1 : k = 1
  · rw [if_pos k1, if_pos k1]
    have e : decide (n - (b + d) < f) = decide (n - b < f + d) := by
      rw [Bool.eq_iff_iff, decide_eq_true_eq, decide_eq_true_eq]; omega
    rw [e]
  · rw [if_neg k1, if_neg k1]
mutual
theorem mayE_shift : ∀ (t : Te) (f b d : Int), mayE t f (b + d) = mayE t (f + d) b
  | .node k n s l, f, b, d => by
    rw [mayE, mayE, head_shift, show b + d + moreE k n = b + moreE k n + d from by omega, mayEL_shift k 0 l f _ d]
theorem mayEL_shift : ∀ (k : Int) (i : Nat) (l : List Te) (f b d : Int), mayEL k i l f (b + d) = mayEL k i l (f + d) b
  | k, i, [], f, b, d => by rw [mayEL, mayEL]
  | k, i, t :: r, f, b, d => by
    rw [mayEL, mayEL, mayE_shift t f b d, mayEL_shift k (i + 1) r f b d]
end
theorem mayV_mono {t : Te} {f f' : Int} (h : f ≤ f') (hm : mayV6 t f = true) : mayV6 t f' = true := by
  unfold mayV6 at hm ⊢
  simp only [Bool.and_eq_true, decide_eq_true_eq] at hm ⊢
  exact ⟨by omega, hm.2.1, mayE_mono t f f' 0 h hm.2.2⟩
theorem stands_no {k : Int} (h : k ≠ 5) (i : Nat) (p : Int) : standsE k i p = decide (p ≠ 6) := by
  unfold standsE
  by_cases hp : p = 6 <;> simp [h, hp]
theorem app_may (t u : Te) (f : Int) (hf : 0 ≤ f) : mayV6 (.node 3 0 e0B [t, u]) f = (mayV6 t f && mayV6 u f) := by
  unfold mayV6
  rw [mayE, mayEL, mayEL, mayEL, stands_no (by decide), stands_no (by decide)]
  have h1 : headE 3 0 e0B.data.toList [t, u].length f 0 = true := by simp [headE]
  rw [h1]
  simp only [Te.kind, moreE, decide_eq_true hf]
  rw [Bool.eq_iff_iff]
  simp
  grind
theorem op_may (t u : Te) (f : Int) (hf : 0 ≤ f) : mayV6 (.node 8 0 ⟨#[60]⟩ [t, u]) f = (mayV6 t f && mayV6 u f) := by
  unfold mayV6
  rw [mayE, mayEL, mayEL, mayEL, stands_no (by decide), stands_no (by decide)]
  have h1 : headE 8 0 (⟨#[60]⟩ : ByteArray).data.toList [t, u].length f 0 = true := by simp [headE]; rfl
  rw [h1]
  simp only [Te.kind, moreE, decide_eq_true hf]
  rw [Bool.eq_iff_iff]
  simp
  grind
theorem con_may (t u : Te) (f : Int) (hf : 0 ≤ f) : mayV6 (.node 4 0 aB [t, u]) f = (mayV6 t f && mayV6 u f) := by
  unfold mayV6
  rw [mayE, mayEL, mayEL, mayEL, stands_no (by decide), stands_no (by decide)]
  have h1 : headE 4 0 aB.data.toList [t, u].length f 0 = true := by simp [headE]; rfl
  rw [h1]
  simp only [Te.kind, moreE, decide_eq_true hf]
  rw [Bool.eq_iff_iff]
  simp
  grind
theorem alt_may (u : Te) (f : Int) : mayE (.node 6 0 aB [u]) f 0 = (decide (u.kind ≠ 6) && mayE u f 0) := by
  rw [mayE, mayEL, mayEL, stands_no (by decide)]
  have h1 : headE 6 0 aB.data.toList [u].length f 0 = true := by simp [headE]; rfl
  rw [h1]
  simp [moreE]
theorem case_may (t u : Te) (f : Int) (hf : 0 ≤ f) : mayV6 (.node 5 0 e0B [t, .node 6 0 aB [u]]) f = (mayV6 t f && mayV6 u f) := by
  have h0 : standsE 5 0 t.kind = decide (t.kind ≠ 6) := by unfold standsE; by_cases hp : t.kind = 6 <;> simp [hp]
  have h2 : standsE 5 1 (Te.node 6 0 aB [u]).kind = true := rfl
  unfold mayV6
  rw [mayE, mayEL, mayEL, mayEL, h0, h2]
  have h1 : headE 5 0 e0B.data.toList [t, .node 6 0 aB [u]].length f 0 = true := by simp [headE]
  rw [h1, show (0 : Int) + moreE 5 0 = 0 from rfl, alt_may]
  simp only [Te.kind, decide_eq_true hf, List.drop_succ_cons, List.drop_zero, unlikeE, unlikeF]
  rw [Bool.eq_iff_iff]
  simp
  grind
theorem lam_may (t : Te) (f : Int) (hf : 0 ≤ f) : mayV6 (.node 2 0 e0B [t]) f = mayV6 t (f + 1) := by
  unfold mayV6
  rw [mayE, mayEL, mayEL, stands_no (by decide)]
  have h1 : headE 2 0 e0B.data.toList [t].length f 0 = true := by simp [headE]
  rw [h1, show (0 : Int) + moreE 2 0 = 0 + 1 from rfl, mayE_shift]
  simp only [Te.kind, decide_eq_true hf, decide_eq_true (show 0 ≤ f + 1 by omega)]
  rw [Bool.eq_iff_iff]
  simp
theorem var_may (n f : Int) (hf : 0 ≤ f) : mayV6 (.node 1 n e0B []) f = (decide (0 ≤ n) && decide (n < f)) := by
  unfold mayV6
  rw [mayE, mayEL]
  simp [headE, Te.kind, hf]
theorem altV_may (u : Te) (f : Int) : mayV6 (.node 6 0 aB [u]) f = false := by
  unfold mayV6
  simp [Te.kind]
end Lx
end Go.Proofs.YteagbndjoklogaaDoor
namespace Go.Proofs.YteagbndjoklogaaDoor
open Go.RowKit Go.Sort
namespace Lx
set_option maxRecDepth 100000
/-- The term stands in the box g. -/
structure Bx6 (w W : World) (g : Nat) (k n : Int) (s : ByteArray) (l : List Te) (A : Option Addr) (c : Nat) : Prop where
  box : Lies W g 24 #[.int .i64 k, .int .i64 n, .string s, .slice A l.length (capF l.length c)]
  tin : EIn W Any (.node k n s l) A
  tb : Tabs6 W
  bw : Below w.heap.size w W
theorem Bx6.step {w W W' : World} {g : Nat} {k n : Int} {s : ByteArray} {l : List Te} {A : Option Addr} {c : Nat} (h : Bx6 w W g k n s l A c) (hb : Below W.heap.size W W') : Bx6 w W' g k n s l A c :=
  ⟨h.box.below hb h.box.lt, EIn.below _ h.tin hb (Nat.le_refl _), h.tb.below hb, h.bw.trans (hb.mono h.bw.size)⟩
theorem Bx6.old {w W : World} {g : Nat} {k n : Int} {s : ByteArray} {l : List Te} {A : Option Addr} {c : Nat} (h : Bx6 w W g k n s l A c) (o : Obj) : Bx6 w (W.alloc o) g k n s l A c := h.step ((Below.refl _ W).alloc (Nat.le_refl _) o)
theorem Bx6.new {w V : World} {k n : Int} {s : ByteArray} {l : List Te} {A : Option Addr} {c : Nat} (hI : EIn w Any (.node k n s l) A) (hg : Tabs6 w) (hb : Below w.heap.size w V) :
    Bx6 w (V.alloc (.cells #[.int .i64 k, .int .i64 n, .string s, .slice A l.length (capF l.length c)] 24)) V.heap.size k n s l A c :=
  have hb2 : Below w.heap.size w (V.alloc (.cells #[.int .i64 k, .int .i64 n, .string s, .slice A l.length (capF l.length c)] 24)) := hb.alloc hb.size _
  ⟨Lies.new V _ _, EIn.below _ hI hb2 (Nat.le_refl _), hg.below hb2, hb2⟩
/-- Its four cells. -/
def Bx4 (g : Nat) (k n : Int) (s : ByteArray) (m : Nat) (A : Option Addr) (c : Nat) (V : World) : Prop :=
  V.cell? ⟨g, 0, none⟩ = some (.int .i64 k) ∧ V.cell? ⟨g, 1, none⟩ = some (.int .i64 n) ∧ V.cell? ⟨g, 2, none⟩ = some (.string s) ∧ V.cell? ⟨g, 3, none⟩ = some (.slice A m c)
section
variable {w W : World} {g : Nat} {k n : Int} {s : ByteArray} {l : List Te} {A : Option Addr} {c : Nat}
theorem Bx6.four (h : Bx6 w W g k n s l A c) : Bx4 g k n s l.length A (capF l.length c) W := h.box.four'
theorem Bx6.small (h : Bx6 w W g k n s l A c) (L : Int) (h0 : 0 ≤ L) (h1 : L ≤ 100000) : Calls Tryd.prog 9 #[.agg #[.int .i64 k, .int .i64 n, .string s, .slice A l.length (capF l.length c)], .int .i64 L] W fun e w' => e = .returned (.bool (decide (0 ≤ fewE (.node k n s l) L 600))) ∧ Below W.heap.size W w' :=
  esmall_any (.node k n s l) A c L W h.tin h0 h1
theorem Bx6.may (h : Bx6 w W g k n s l A c) (hd : depthE (.node k n s l) ≤ 1000) (f : Int) : Calls Tryd.prog 10 #[.agg #[.int .i64 k, .int .i64 n, .string s, .slice A l.length (capF l.length c)], .int .i64 f] W fun e w' => e = .returned (.bool (mayV6 (.node k n s l) f)) ∧ Below W.heap.size W w' :=
  eMay_any (.node k n s l) A c f W h.tin h.tb.sg hd
theorem Bx6.size (h : Bx6 w W g k n s l A c) (hs : sizeE (.node k n s l) ≤ 100000) : Calls Tryd.prog 13 #[.agg #[.int .i64 k, .int .i64 n, .string s, .slice A l.length (capF l.length c)]] W fun e w' => e = .returned (.int .i64 (sizeE (.node k n s l))) ∧ Below W.heap.size W w' :=
  esize_any _ (.node k n s l) A c W (Nat.le_refl _) hs h.tin
theorem Bx6.depth (h : Bx6 w W g k n s l A c) (hs : sizeE (.node k n s l) ≤ 100000) : Calls Tryd.prog 14 #[.agg #[.int .i64 k, .int .i64 n, .string s, .slice A l.length (capF l.length c)]] W fun e w' => e = .returned (.int .i64 (depthE (.node k n s l))) ∧ Below W.heap.size W w' :=
  edepth_any _ (.node k n s l) A c W (Nat.le_refl _) hs h.tin
theorem Bx6.text (h : Bx6 w W g k n s l A c) (hs : (textE (.node k n s l)).length ≤ 99999990) : Calls Tryd.prog 11 #[.agg #[.int .i64 k, .int .i64 n, .string s, .slice A l.length (capF l.length c)]] W fun e w' => e = .returned (.string ⟨(textE (.node k n s l)).toArray⟩) ∧ Below W.heap.size W w' :=
  etext_any (.node k n s l) A c W h.tin h.tb.pw hs
theorem Bx6.same {g' : Nat} {k' n' : Int} {s' : ByteArray} {l' : List Te} {A' : Option Addr} {c' : Nat} (h : Bx6 w W g k n s l A c) (h' : Bx6 w W g' k' n' s' l' A' c') : Calls Tryd.prog 12 #[.agg #[.int .i64 k, .int .i64 n, .string s, .slice A l.length (capF l.length c)], .agg #[.int .i64 k', .int .i64 n', .string s', .slice A' l'.length (capF l'.length c')]] W fun e w' => e = .returned (.bool (sameE (.node k n s l) (.node k' n' s' l'))) ∧ Below W.heap.size W w' :=
  esame_any _ (.node k n s l) (.node k' n' s' l') A A' c c' W (Nat.le_refl _) h.tin h'.tin
end
theorem small6_size {t : Te} {L : Int} (h : decide (0 ≤ fewE t L 600) = true) (hL : L ≤ 1000) : sizeE t ≤ 1000 ∧ depthE t ≤ 600 := by
  have := fewE_size t L 600 (of_decide_eq_true h)
  have := of_decide_eq_true h
  omega
end Lx
end Go.Proofs.YteagbndjoklogaaDoor
