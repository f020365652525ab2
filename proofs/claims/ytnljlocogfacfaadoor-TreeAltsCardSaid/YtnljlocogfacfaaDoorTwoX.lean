/-
  Two trees that calls made, and two boxes for them, whatever came first.
-/
import Derived.Test.YtnljlocogfacfaaDoorBox
import Derived.Test.YtnljlocogfacfaaDoorSix
namespace Go.Proofs.YtnljlocogfacfaaDoor
open Go.RowKit
namespace Lx
set_option maxRecDepth 100000
/-- What has come up is put down. -/
def a6 (a0 : Act) (u22 u24 u5 u6 : Value) : Act := (((a0.put (some 22) u22).put (some 24) u24).put (some 5) u5).put (some 6) u6
theorem put_put (a : Act) (d : Tmp) (u v : Value) : (a.put (some d) u).put (some d) v = a.put (some d) v := by
  simp [Act.put]
theorem put_far (a : Act) {d e : Tmp} (h : d ≠ e) (u v : Value) : (a.put (some d) u).put (some e) v = (a.put (some e) v).put (some d) u :=
  Act.put_comm a u v (fun _ hk he => h ((Option.some.inj hk).trans (Option.some.inj he).symm))
theorem a6_6 (a0 : Act) (u22 u24 u5 u6 v : Value) : (a6 a0 u22 u24 u5 u6).put (some 6) v = a6 a0 u22 u24 u5 v := put_put _ _ _ _
theorem a6_5 (a0 : Act) (u22 u24 u5 u6 v : Value) : (a6 a0 u22 u24 u5 u6).put (some 5) v = a6 a0 u22 u24 v u6 := by
  rw [a6, put_far (d := 6) (e := 5) _ (by decide), put_put]; rfl
theorem a6_24 (a0 : Act) (u22 u24 u5 u6 v : Value) : (a6 a0 u22 u24 u5 u6).put (some 24) v = a6 a0 u22 v u5 u6 := by
  rw [a6, put_far (d := 6) (e := 24) _ (by decide), put_far (d := 5) (e := 24) _ (by decide), put_put]; rfl
theorem a6_22 (a0 : Act) (u22 u24 u5 u6 v : Value) : (a6 a0 u22 u24 u5 u6).put (some 22) v = a6 a0 v u24 u5 u6 := by
  rw [a6, put_far (d := 6) (e := 22) _ (by decide), put_far (d := 5) (e := 22) _ (by decide), put_far (d := 24) (e := 22) _ (by decide), put_put]; rfl
/-- A box of these two is not in the block h. -/
def PX (x y : Bool) (u5 u6 : Value) (h : Nat) : Prop := (x = true → u5 ≠ .pointer (some ⟨h, 0, none⟩)) ∧ (y = true → u6 ≠ .pointer (some ⟨h, 0, none⟩))
/-- A box that was made in V, empty. -/
def Made (B : Nat) (V : World) (u : Value) : Prop := ∃ g, u = .pointer (some ⟨g, 0, none⟩) ∧ B ≤ g ∧ Lies V g 33 #[.int .i64 0, .string ⟨#[]⟩, .int .i64 0, .int .i64 0, .slice none 0 0]
structure St6 (a0 : Act) (w3 : World) (va vb : Option Addr → Nat → Value) (Ta Tb : Tr) (pa pb x y : Bool) (a : Act) (V : World) : Prop where
  bw : Below w3.heap.size w3 V
  ex : ∃ u22 u24 u5 u6, a = a6 a0 u22 u24 u5 u6 ∧ (pa = true → ∃ A c, u22 = va A c ∧ TIn V (PX x y u5 u6) Ta A) ∧ (pb = true → ∃ A c, u24 = vb A c ∧ TIn V (PX x y u5 u6) Tb A) ∧
    (x = true → Made w3.heap.size V u5) ∧ (y = true → Made w3.heap.size V u6) ∧ (x = true → y = true → u5 ≠ u6)
section
variable {a0 a : Act} {w3 V V' : World} {va vb : Option Addr → Nat → Value} {Ta Tb : Tr} {pa pb x y : Bool}
theorem Made.step {B : Nat} {u : Value} (h : Made B V u) (hb : Below V.heap.size V V') : Made B V' u := by
  obtain ⟨g, e, h1, h2⟩ := h
  exact ⟨g, e, h1, h2.below hb h2.lt⟩
theorem Made.ne {B h : Nat} {u : Value} (hm : Made B V u) (hh : V.heap.size ≤ h) : u ≠ .pointer (some ⟨h, 0, none⟩) := by
  obtain ⟨g, e, h1, h2⟩ := hm
  have := h2.lt
  rintro rfl
  injection e with e
  injection e with e
  injection e with e
  omega
theorem Made.new {B : Nat} (hB : B ≤ V.heap.size) : Made B (V.alloc (.cells #[.int .i64 0, .string ⟨#[]⟩, .int .i64 0, .int .i64 0, .slice none 0 0] 33)) (.pointer (some ⟨V.heap.size, 0, none⟩)) :=
  ⟨_, rfl, hB, Lies.new _ _ _⟩
theorem St6.hA (h : St6 a0 w3 va vb Ta Tb false pb x y a V) (hb : Below V.heap.size V V') {A : Option Addr} {c : Nat} (hT : TIn V' (fun g => V.heap.size ≤ g ∧ g < V'.heap.size) Ta A) :
    St6 a0 w3 va vb Ta Tb true pb x y (a.put (some 22) (va A c)) V' := by
  obtain ⟨hbw, u22, u24, u5, u6, rfl, h1, h2, h3, h4, h5⟩ := h
  refine ⟨hbw.trans (hb.mono hbw.size), va A c, u24, u5, u6, a6_22 _ _ _ _ _ _, fun _ => ⟨A, c, rfl, TIn.wide _ hT fun g hg _ => ⟨fun hx => (h3 hx).ne hg.1, fun hy => (h4 hy).ne hg.1⟩⟩, fun hp => ?_, fun hx => (h3 hx).step hb, fun hy => (h4 hy).step hb, h5⟩
  obtain ⟨A', c', e, hT'⟩ := h2 hp
  exact ⟨A', c', e, TIn.below _ hT' hb (Nat.le_refl _)⟩
theorem St6.hB (h : St6 a0 w3 va vb Ta Tb pa false x y a V) (hb : Below V.heap.size V V') {A : Option Addr} {c : Nat} (hT : TIn V' (fun g => V.heap.size ≤ g ∧ g < V'.heap.size) Tb A) :
    St6 a0 w3 va vb Ta Tb pa true x y (a.put (some 24) (vb A c)) V' := by
  obtain ⟨hbw, u22, u24, u5, u6, rfl, h1, h2, h3, h4, h5⟩ := h
  refine ⟨hbw.trans (hb.mono hbw.size), u22, vb A c, u5, u6, a6_24 _ _ _ _ _ _, fun hp => ?_, fun _ => ⟨A, c, rfl, TIn.wide _ hT fun g hg _ => ⟨fun hx => (h3 hx).ne hg.1, fun hy => (h4 hy).ne hg.1⟩⟩, fun hx => (h3 hx).step hb, fun hy => (h4 hy).step hb, h5⟩
  obtain ⟨A', c', e, hT'⟩ := h1 hp
  exact ⟨A', c', e, TIn.below _ hT' hb (Nat.le_refl _)⟩
theorem px_new {u5 u6 : Value} (o : Obj) {T : Tr} {A : Option Addr} (hT : TIn V (PX false y u5 u6) T A) : TIn (V.alloc o) (PX true y (.pointer (some ⟨V.heap.size, 0, none⟩)) u6) T A :=
  TIn.below _ (TIn.wide _ hT fun g hX hlt => ⟨fun _ e => by injection e with e; injection e with e; injection e with e; omega, hX.2⟩) ((Below.refl _ V).alloc (Nat.le_refl _) _) (Nat.le_refl _)
theorem px_new2 {u5 u6 : Value} (o : Obj) {T : Tr} {A : Option Addr} (hT : TIn V (PX x false u5 u6) T A) : TIn (V.alloc o) (PX x true u5 (.pointer (some ⟨V.heap.size, 0, none⟩))) T A :=
  TIn.below _ (TIn.wide _ hT fun g hX hlt => ⟨hX.1, fun _ e => by injection e with e; injection e with e; injection e with e; omega⟩) ((Below.refl _ V).alloc (Nat.le_refl _) _) (Nat.le_refl _)
theorem St6.hX (h : St6 a0 w3 va vb Ta Tb pa pb false y a V) :
    St6 a0 w3 va vb Ta Tb pa pb true y (a.put (some 5) (.pointer (some ⟨V.heap.size, 0, none⟩))) (V.alloc (.cells #[.int .i64 0, .string ⟨#[]⟩, .int .i64 0, .int .i64 0, .slice none 0 0] 33)) := by
  obtain ⟨hbw, u22, u24, u5, u6, rfl, h1, h2, h3, h4, h5⟩ := h
  have hb : ∀ o, Below V.heap.size V (V.alloc o) := fun o => (Below.refl _ V).alloc (Nat.le_refl _) o
  refine ⟨hbw.trans ((hb _).mono hbw.size), u22, u24, _, u6, a6_5 _ _ _ _ _ _, fun hp => ?_, fun hp => ?_, fun _ => Made.new hbw.size, fun hy => (h4 hy).step (hb _), fun _ hy e => (h4 hy).ne (Nat.le_refl _) e.symm⟩
  · obtain ⟨A', c', e, hT'⟩ := h1 hp
    exact ⟨A', c', e, px_new _ hT'⟩
  · obtain ⟨A', c', e, hT'⟩ := h2 hp
    exact ⟨A', c', e, px_new _ hT'⟩
theorem St6.hY (h : St6 a0 w3 va vb Ta Tb pa pb x false a V) :
    St6 a0 w3 va vb Ta Tb pa pb x true (a.put (some 6) (.pointer (some ⟨V.heap.size, 0, none⟩))) (V.alloc (.cells #[.int .i64 0, .string ⟨#[]⟩, .int .i64 0, .int .i64 0, .slice none 0 0] 33)) := by
  obtain ⟨hbw, u22, u24, u5, u6, rfl, h1, h2, h3, h4, h5⟩ := h
  have hb : ∀ o, Below V.heap.size V (V.alloc o) := fun o => (Below.refl _ V).alloc (Nat.le_refl _) o
  refine ⟨hbw.trans ((hb _).mono hbw.size), u22, u24, u5, _, a6_6 _ _ _ _ _ _, fun hp => ?_, fun hp => ?_, fun hx => (h3 hx).step (hb _), fun _ => Made.new hbw.size, fun hx _ => (h3 hx).ne (Nat.le_refl _)⟩
  · obtain ⟨A', c', e, hT'⟩ := h1 hp
    exact ⟨A', c', e, px_new2 _ hT'⟩
  · obtain ⟨A', c', e, hT'⟩ := h2 hp
    exact ⟨A', c', e, px_new2 _ hT'⟩
end
/-- The region, from where its loads have come up. -/
theorem six_two {P : Program} {ops : Array Oper} {Q : Exit → Act → World → Prop} {md : Region.Mode} {S : World → Prop} {a0 : Act} {w3 : World} (va vb : Option Addr → Nat → Value) (Ta Tb : Tr)
    (h00 : a6 a0 undef undef undef undef = a0)
    (hr : ∀ pa pb x y, (pb = true → pa = true) → n6 pa pb x y ≠ 0 → Region.ready md ops (L6 pa pb x y) = rd6 pa pb x y)
    (hS : ∀ V, Below w3.heap.size w3 V → S V)
    (hA : ∀ x y a w, St6 a0 w3 va vb Ta Tb false false x y a w → wpOp P ops Q 1 (St6 a0 w3 va vb Ta Tb true false x y) a w)
    (hB : ∀ x y a w, St6 a0 w3 va vb Ta Tb true false x y a w → wpOp P ops Q 3 (St6 a0 w3 va vb Ta Tb true true x y) a w)
    (hX : ∀ pa pb y a w, St6 a0 w3 va vb Ta Tb pa pb false y a w → wpOp P ops Q 4 (St6 a0 w3 va vb Ta Tb pa pb true y) a w)
    (hY : ∀ pa pb x a w, St6 a0 w3 va vb Ta Tb pa pb x false a w → wpOp P ops Q 5 (St6 a0 w3 va vb Ta Tb pa pb x true) a w)
    (hE : ∀ a w, St6 a0 w3 va vb Ta Tb true true true true a w → wpAnyH P md ops Q S 2 #[true, true, true, true, true, true, false, false] a w) :
    wpAnyH P md ops Q S 6 #[true, false, true, false, false, false, false, false] a0 w3.drew :=
  six (St := St6 a0 w3 va vb Ta Tb) hr (fun _ _ _ _ _ _ h => hS _ h.bw) hA hB hX hY hE 4 false false false false a0 w3.drew rfl (by simp)
    ⟨(Below.refl _ w3).drew, undef, undef, undef, undef, h00.symm, by simp, by simp, by simp, by simp, by simp⟩
end Lx
end Go.Proofs.YtnljlocogfacfaaDoor
