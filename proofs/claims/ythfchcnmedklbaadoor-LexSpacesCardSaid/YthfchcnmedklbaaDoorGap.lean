/-
  Plain: blanks ahead and behind.
-/
import Derived.Test.YthfchcnmedklbaaDoorJoin
import Derived.Test.YthfchcnmedklbaaDoorPless
import Derived.Lib.SmallJoins
namespace Go.Proofs.YthfchcnmedklbaaDoor
namespace Lx
def gapS : Nat → List UInt8
  | 0 => []
  | i + 1 => gapS i ++ [if i % 3 = 0 then 32 else if i % 3 = 1 then 10 else 9]
theorem gapS_length : ∀ i, (gapS i).length = i
  | 0 => rfl
  | i + 1 => by simp [gapS, gapS_length i]
theorem run_all {P : Int → Bool} : ∀ l : List UInt8, (∀ c ∈ l, P (c.toNat : Int) = true) → run P l = l.length
  | [], _ => rfl
  | c :: l, h => by
    have := run_all l (fun d hd => h d (by simp [hd]))
    simp [run, h c (by simp), this]
theorem gapS_blank : ∀ i, ∀ c ∈ gapS i, blkR (c.toNat : Int) = true
  | 0, c, h => by simp [gapS] at h
  | i + 1, c, h => by
    simp only [gapS, List.mem_append, List.mem_singleton] at h
    rcases h with h | h
    · exact gapS_blank i c h
    · subst h
      split
      · rfl
      · split <;> rfl
theorem gapS_run (i : Nat) : run blkR (gapS i) = (gapS i).length := run_all _ (gapS_blank i)
theorem gapS_head : ∀ i, ∃ r, gapS (i + 1) = 32 :: r ∧ ∀ c ∈ r, blkR (c.toNat : Int) = true
  | 0 => ⟨[], rfl, by simp⟩
  | i + 1 => by
    obtain ⟨r, h, hr⟩ := gapS_head i
    refine ⟨r ++ [if (i + 1) % 3 = 0 then 32 else if (i + 1) % 3 = 1 then 10 else 9], ?_, ?_⟩
    · rw [gapS, h]; rfl
    · intro c hc
      rcases List.mem_append.1 hc with hc | hc
      · exact hr c hc
      · rw [List.mem_singleton] at hc
        subst hc
        split
        · rfl
        · split <;> rfl
theorem allK_gap_ahead (i : Nat) (s : List UInt8) : allK (gapS i ++ s) = shift i (allK s) := by
  have := allK_ahead (gapS i) s (gapS_run i)
  rwa [gapS_length] at this
theorem follow_nil (r : Except (Int × Int) (List Tok)) : follow r (.ok []) = r := by
  cases r <;> simp [follow, glue]
theorem allK_gap_behind (i : Nat) (s : List UInt8) : allK (s ++ gapS i) = allK s := by
  cases i with
  | zero => simp [gapS]
  | succ i =>
    obtain ⟨r, h, hr⟩ := gapS_head i
    rw [h, allK_join, allK_blank r (run_all r hr)]
    exact follow_nil _
theorem moved_noPlace (d : Nat) (ts : List Tok) : (ts.map (moved d)).map noPlace = ts.map noPlace := by
  simp [List.map_map, Function.comp_def, noPlace, moved]
end Lx
end Go.Proofs.YthfchcnmedklbaaDoor
