/-
  Texts that lie one behind the other: SuLz.
-/
import Derived.Test.YtcgiloccmehbeaaY6
namespace Go.Proofs.Ytcgiloccmehbeaa
open Go.RowKit
namespace Lx
set_option maxRecDepth 100000
theorem lamZ_any (b : Te) (A : Option Addr) (c : Nat) (w : World) (Z : Nat → Prop) (hI : EIn w Z b A) (hZ : ∀ g, w.heap.size ≤ g → Z g) : Calls Try.prog 24 #[ev b A c] w fun e w' => ∃ A c, e = .returned (ev (lamE b) A c) ∧ EIn w' Z (lamE b) A ∧ Below w.heap.size w w' := by
  obtain ⟨k, n, s, l⟩ := b
  have HI := Lib.hid hI
  have HZ := Lib.hid hZ
  clear hI hZ
  show Calls Try.prog 24 #[.agg #[.int .i64 k, .int .i64 n, .string s, .slice A l.length (capF l.length c)]] w _
  go_enter Try.func24, Try.ntmps24
  go_wp2_with fail
  refine bodyPost_ret (res_term (p := 2) Try.results24 rfl (Lies.old (lies_next _ _ _ _ (by simp)) _)) rfl ⟨some ⟨w.heap.size + 1 + 1, 0, none⟩, 1, rfl, ein_mk (by decide) (by decide) (by decide) (by simp) ?_, (((Below.refl _ w).alloc (Nat.le_refl _) _).alloc (by simp) _).alloc (by simp <;> omega) _⟩
  refine ein_lies1 (c := c) (A := A) (t := .node k n s l) (ty := 24) ?_ (HZ.out _ (by omega)) (EIn.below _ HI.out ((((Below.refl _ w).alloc (Nat.le_refl _) _).alloc (by simp) _).alloc (by simp <;> omega) _) (Nat.le_refl _))
  exact lies_next _ _ _ _ (by simp)
theorem appZ_any (a b : Te) (A B : Option Addr) (c d : Nat) (w : World) (Z : Nat → Prop) (hI : EIn w Z a A) (hJ : EIn w Z b B) (hZ : ∀ g, w.heap.size ≤ g → Z g) : Calls Try.prog 25 #[ev a A c, ev b B d] w fun e w' => ∃ A c, e = .returned (ev (appE a b) A c) ∧ EIn w' Z (appE a b) A ∧ Below w.heap.size w w' := by
  obtain ⟨k, n, s, l⟩ := a
  obtain ⟨k2, n2, s2, l2⟩ := b
  have HI := Lib.hid hI
  have HJ := Lib.hid hJ
  have HZ := Lib.hid hZ
  clear hI hJ hZ
  show Calls Try.prog 25 #[.agg #[.int .i64 k, .int .i64 n, .string s, .slice A l.length (capF l.length c)], .agg #[.int .i64 k2, .int .i64 n2, .string s2, .slice B l2.length (capF l2.length d)]] w _
  obtain ⟨O1, hO1⟩ : ∃ O, O = Obj.cells #[.int .i64 k, .int .i64 n, .string s, .slice A l.length (capF l.length c)] 24 := ⟨_, rfl⟩
  obtain ⟨O2, hO2⟩ : ∃ O, O = Obj.cells #[.int .i64 k2, .int .i64 n2, .string s2, .slice B l2.length (capF l2.length d)] 24 := ⟨_, rfl⟩
  go_enter Try.func25, Try.ntmps25
  go_wp2_with fail
  rw [← hO1, ← hO2]
  refine bodyPost_ret (res_term (p := 4) Try.results25 rfl (Lies.old (lies_next _ _ _ _ (by simp)) _)) rfl ⟨some ⟨w.heap.size + 1 + 1 + 1, 0, none⟩, 2, rfl, ein_mk (by decide) (by decide) (by decide) (by simp) ?_, ((((Below.refl _ w).alloc (Nat.le_refl _) _).alloc (by simp) _).alloc (by simp <;> omega) _).alloc (by simp <;> omega) _⟩
  have hb := ((((Below.refl _ w).alloc (Nat.le_refl _) O1).alloc (by simp) O2).alloc (by simp <;> omega) (Obj.cells #[.int .i64 3, .int .i64 0, .string ⟨#[]⟩, .slice (some ⟨w.heap.size + 1 + 1 + 1, 0, none⟩) 2 2] 24)).alloc (by simp <;> omega) (Obj.cells #[.int .i64 k, .int .i64 n, .string s, .slice A l.length (capF l.length c), .int .i64 k2, .int .i64 n2, .string s2, .slice B l2.length (capF l2.length d)] 24)
  refine ein_lies2 (c := c) (d := d) (A := A) (B := B) (t := .node k n s l) (u := .node k2 n2 s2 l2) (ty := 24) ?_ (HZ.out _ (by omega)) (EIn.below _ HI.out hb (Nat.le_refl _)) (EIn.below _ HJ.out hb (Nat.le_refl _))
  exact lies_next _ _ _ _ (by simp)
end Lx
end Go.Proofs.Ytcgiloccmehbeaa
