/-
  Walk of tree.May.
-/
import Derived.Test.YtnljlocogfacfaaDoorMay
import Derived.Deep.RegionHeld3
import Derived.Deep.DrawnRows
import Derived.Deep.QuietTactic
import Derived.BigQuiet
namespace Go.Proofs.YtnljlocogfacfaaDoor
open Go.RowKit
namespace Lx
set_option maxRecDepth 100000
/-- May a tree be, as a whole one? -/
def mayV (t : Tr) : Bool := decide (t.kind ≠ 8) && mayT t
set_option maxHeartbeats 2000000 in
theorem tmay_any (t : Tr) (A : Option Addr) (c : Nat) (w : World) (hI : TIn w Any t A) (hg : Signs w) :
    Calls Tryd.prog 26 #[tv t A c] w fun e w' => e = .returned (.bool (mayV t)) ∧ Below w.heap.size w w' := by
  obtain ⟨k, s, n, a, l⟩ := t
  show Calls Tryd.prog 26 #[.agg #[.int .i64 k, .string s, .int .i64 n, .int .i64 a, .slice A l.length c]] w _
  have HI := Lib.hid hI
  clear hI
  have hb0 : Below w.heap.size w (w.alloc (.cells #[.int .i64 k, .string s, .int .i64 n, .int .i64 a, .slice A l.length c] 33)) := (Below.refl _ w).alloc (Nat.le_refl _) _
  by_cases h8 : k = 8
  · have HE : Hid (mayV (.node k s n a l) = false) := by
      show _ = _
      unfold mayV
      simp [Tr.kind, h8]
    subst h8
    go_enter Tryd.func26, Tryd.ntmps26
    go_wp2_with fail
    go_quiet (fail)
    go_wp2_with fail
    go_ret
    exact ⟨ret_bool HE.out.symm, below_drewN hb0 _⟩
  · have e8 : (k != 8) = true := by simpa using h8
    have HE : Hid (mayV (.node k s n a l) = mayT (.node k s n a l)) := by
      show _ = _
      unfold mayV
      simp [Tr.kind, h8]
    obtain ⟨W, hW⟩ : ∃ W, W = w.alloc (.cells #[.int .i64 k, .string s, .int .i64 n, .int .i64 a, .slice A l.length c] 33) := ⟨_, rfl⟩
    have hL : Lies W w.heap.size 33 #[.int .i64 k, .string s, .int .i64 n, .int .i64 a, .slice A l.length c] := by rw [hW]; exact Lies.new w _ _
    go_enter Tryd.func26, Tryd.ntmps26
    go_wp2_with fail
    rw [← hW] at hb0 ⊢
    obtain ⟨b0, b1, b2, b3, b4⟩ := hL.five.1
    have hl := hL.lt
    have hgW := hg.below hb0 hg.pos
    have hIW := TIn.below _ HI.out hb0 (Nat.le_refl _)
    clear hW h8
    go_region_held3 (fun V => V.cell? ⟨w.heap.size, 0, none⟩ = some (.int .i64 k) ∧ V.cell? ⟨w.heap.size, 1, none⟩ = some (.string s) ∧ V.cell? ⟨w.heap.size, 2, none⟩ = some (.int .i64 n) ∧ V.cell? ⟨w.heap.size, 3, none⟩ = some (.int .i64 a) ∧ V.cell? ⟨w.heap.size, 4, none⟩ = some (.slice A l.length c))
      (first | go_keep)
      ((first
        | (go_at_call 45
           refine (shapes_any W.drew).mono ?_
           rintro e w2 ⟨rfl, hM2, hb2⟩
           have hbr : Below W.heap.size W w2 := (Below.refl _ W).drew.trans hb2
           have v0 := (hbr.cell (p := ⟨w.heap.size, 0, none⟩) hl).trans b0
           have v1 := (hbr.cell (p := ⟨w.heap.size, 1, none⟩) hl).trans b1
           have v2 := (hbr.cell (p := ⟨w.heap.size, 2, none⟩) hl).trans b2
           have v3 := (hbr.cell (p := ⟨w.heap.size, 3, none⟩) hl).trans b3
           have v4 := (hbr.cell (p := ⟨w.heap.size, 4, none⟩) hl).trans b4
           have hl2 : w.heap.size < w2.heap.size := by have := hbr.size; omega)
        | (go_at_call 44
           refine (pmay_any (depthT (.node k s n a l)) (.node k s n a l) A c _ w2 (Nat.le_refl _) (TIn.below _ hIW hbr (Nat.le_refl _)) hM2 (hgW.below hbr hgW.pos)).mono ?_
           rintro e w3 ⟨rfl, hb3⟩
           have v0' := (hb3.cell (p := ⟨w.heap.size, 0, none⟩) hl2).trans v0
           have v1' := (hb3.cell (p := ⟨w.heap.size, 1, none⟩) hl2).trans v1
           have v2' := (hb3.cell (p := ⟨w.heap.size, 2, none⟩) hl2).trans v2
           have v3' := (hb3.cell (p := ⟨w.heap.size, 3, none⟩) hl2).trans v3
           have v4' := (hb3.cell (p := ⟨w.heap.size, 4, none⟩) hl2).trans v4)))
    go_wp2_with fail
    go_ret
    exact ⟨ret_bool HE.out.symm, (hb0.trans (hbr.mono hb0.size)).trans (hb3.mono (by have := hb0.size; have := hbr.size; omega))⟩
end Lx
end Go.Proofs.YtnljlocogfacfaaDoor
