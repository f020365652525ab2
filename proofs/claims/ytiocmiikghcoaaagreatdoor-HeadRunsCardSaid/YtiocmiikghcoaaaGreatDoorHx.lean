/-
  Plain: where a run ends; what the rest of a run is.
-/
import Derived.Test.YtiocmiikghcoaaaGreatDoorR9
import Derived.Test.YtiocmiikghcoaaaGreatDoorC18
namespace Go.Proofs.YtiocmiikghcoaaaGreatDoor
open Go.RowKit
namespace Lx
set_option maxRecDepth 100000
theorem runE_at : ∀ (f n : Nat) (t : Te), (runE f n t).2.2 = 0 → valK (runE f n t).1.kind = true ∧ (runE f n t).1 = iterE ((runE f n t).2.1 - n) t
 | f, n, t, h => by
  by_cases hs : 5000 < sizeE t
  ·rw [runE_wide hs] at h; exact absurd (show (91 : Int) = 0 from h) (by decide)
  ·cases hv : valK t.kind with
   | true => rw [runE_val hs hv]; exact ⟨hv, by show t = iterE (n - n) t; rw [Nat.sub_self]; rfl⟩
   | false =>
    cases f with
    | zero => rw [runE_fuel hs hv] at h; exact absurd (show (90 : Int) = 0 from h) (by decide)
    | succ f =>
     rw [runE_step hs hv] at h ⊢
     have h1 := runE_at f (n + 1) (stepE t).1 h
     have h2 := (runE_ends f (n + 1) (stepE t).1).1
     refine ⟨h1.1, h1.2.trans ?_⟩
     rw [show (runE f (n + 1) (stepE t).1).2.1 - n = ((runE f (n + 1) (stepE t).1).2.1 - (n + 1)) + 1 by omega]
     rfl
/-- A value stands still. -/
theorem stepE_val {a : Te} (hv : valK a.kind = true) : stepE a = (a, 0) := by
 obtain ⟨k, n, s, l⟩ := a
 have hv' : valK k = true := hv
 have hk : waitE (.node k n s l) = none := by
  show waitK k l = none
  unfold waitK
  rw [if_neg (fun h => by rcases h with rfl | rfl <;> exact absurd hv' (by decide)), if_neg (fun h => by subst h; exact absurd hv' (by decide))]
 rw [stepE_act hk, actE]
 exact (if_neg (fun h : k = 3 => by subst h; exact absurd hv' (by decide))).trans ((if_neg (fun h : k = 5 => by subst h; exact absurd hv' (by decide))).trans (if_neg (fun h : k = 8 => by subst h; exact absurd hv' (by decide))))
/-- What is left of a run that ended, after some of its steps. -/
theorem run_rest {t a : Te} {n i : Nat} (h : runE 60 0 t = (a, n, 0)) (hi : i ≤ n) : runE 60 0 (iterE i t) = (a, n - i, 0) := by
 have h0 := runE_ends 60 0 t
 rw [h] at h0
 have hn : n ≤ 60 := by have := h0.2.1; omega
 have h1 := runE_rest i 60 0 t (by rw [h]; show 0 + i ≤ n; omega) (by omega)
 rw [h, runE_shift] at h1
 rw [Prod.ext_iff, Prod.ext_iff] at h1
 obtain ⟨e1, e2, e3⟩ := h1
 have e2' : (runE (60 - i) 0 (iterE i t)).2.1 + i = n := e2
 have e3' : (runE (60 - i) 0 (iterE i t)).2.2 = 0 := e3
 rw [runE_more (f := 60) (g := 60 - i) (by omega) e3']
 exact Prod.ext e1 (Prod.ext (by show (runE (60 - i) 0 (iterE i t)).2.1 = n - i; omega) e3')
/-- Ahead of the end there is a step, and what it makes is fine. -/
theorem run_within {t : Te} {i : Nat} (hm : mayQ t 0 false = true) (h : i < (runE 60 0 t).2.1) : mayQ (iterE i t) 0 false = true ∧ sizeE (iterE i t) ≤ 5000 ∧ (stepE (iterE i t)).2 ≠ 0 ∧ (stepE (iterE i t)).1 = iterE (i + 1) t := by
 have h1 := runE_iter i 60 0 t (by omega)
 have h2 := iterE_may i t 0 hm
 exact ⟨h2, h1.1, step_what _ _ (Nat.le_refl _) h2 h1.2, (iterE_succ i t).symm⟩
end Lx
end Go.Proofs.YtiocmiikghcoaaaGreatDoor
