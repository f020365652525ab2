/-
  Plain: the tokens of a text, one behind the other.
-/
import Derived.Test.YtnljlocogfacfaaDoorPlain
import Derived.WalkKit
namespace Go.Proofs.YtnljlocogfacfaaDoor
namespace Lx
set_option maxRecDepth 100000
structure Tok where
  kind : Int
  text : List UInt8
  n : Int
  place : Int
deriving DecidableEq
def Tok.cells (t : Tok) : List Value := [.int .i64 t.kind, .string ⟨t.text.toArray⟩, .int .i64 t.n, .int .i64 t.place]
def cellsOf (l : List Tok) : List Value := l.flatMap Tok.cells
theorem cellsOf_length (l : List Tok) : (cellsOf l).length = l.length * 4 := by
  induction l with
  | nil => rfl
  | cons a r ih => simp only [cellsOf, List.flatMap_cons, List.length_append, List.length_cons] at ih ⊢; rw [ih]; simp [Tok.cells]; omega
theorem cellsOf_snoc (l : List Tok) (t : Tok) : cellsOf (l ++ [t]) = cellsOf l ++ t.cells := by
  simp [cellsOf, List.flatMap_append]

/-- The tokens from a place on, the text standing at no blank. -/
def scan : Nat → List UInt8 → Nat → Except (Int × Int) (List Tok)
  | 0, _, _ => .ok []
  | f + 1, l, k =>
    if l = [] then .ok [] else
    match tokK l with
    | .error e => .error (k, e)
    | .ok (kd, n, t) =>
      match scan f ((l.drop t.length).drop (run blkR (l.drop t.length))) (k + t.length + run blkR (l.drop t.length)) with
      | .error e => .error e
      | .ok r => .ok (⟨kd, t, n, k⟩ :: r)
def allK (l : List UInt8) : Except (Int × Int) (List Tok) := scan (l.length + 1) (l.drop (run blkR l)) (run blkR l)
def glue (acc : List Tok) : Except (Int × Int) (List Tok) → Except (Int × Int) (List Tok)
  | .ok r => .ok (acc ++ r)
  | .error e => .error e

theorem scan_end (f k : Nat) : scan f [] k = .ok [] := by
  cases f <;> simp [scan]
theorem scan_bad {f k : Nat} {l : List UInt8} {e : Int} (hl : l ≠ []) (h : tokK l = .error e) : scan (f + 1) l k = .error (k, e) := by
  simp [scan, hl, h]
theorem scan_good {f k : Nat} {l t : List UInt8} {kd n : Int} (acc : List Tok) (hl : l ≠ []) (h : tokK l = .ok (kd, n, t)) :
    glue acc (scan (f + 1) l k) = glue (acc ++ [⟨kd, t, n, k⟩]) (scan f ((l.drop t.length).drop (run blkR (l.drop t.length))) (k + t.length + run blkR (l.drop t.length))) := by
  simp only [scan, hl, if_false, h]
  cases scan f ((l.drop t.length).drop (run blkR (l.drop t.length))) (k + t.length + run blkR (l.drop t.length)) <;> simp [glue]

theorem signs_pos : ∀ g ∈ signsS, 0 < g.length := by decide
/-- A token's text is what stands there, and it is not empty. -/
theorem tok_text {l t : List UInt8} {kd n : Int} (h : tokK l = .ok (kd, n, t)) : 0 < t.length ∧ t.length ≤ l.length ∧ l.take t.length = t := by
  unfold tokK at h
  have hr := run_le ldR l
  split at h
  · rename_i h0
    split at h
    · simp only [Except.ok.injEq, Prod.mk.injEq] at h
      obtain ⟨_, _, rfl⟩ := h
      simp only [List.length_take]
      refine ⟨by omega, by omega, by congr 1; omega⟩
    · cases h
  · split at h
    · rename_i g h1
      simp only [Except.ok.injEq, Prod.mk.injEq] at h
      obtain ⟨_, _, rfl⟩ := h
      have hp := List.find?_some h1
      have hm := signs_pos _ (List.mem_of_find?_eq_some h1)
      have hpre : g <+: l := List.isPrefixOf_iff_prefix.1 hp
      exact ⟨hm, hpre.length_le, (List.prefix_iff_eq_take.1 hpre).symm⟩
    · cases h
theorem scan_step {l : List UInt8} {acc : List Tok} {k f : Nat} {kd n : Int} {t : List UInt8} (hlt : k < l.length) (hf : l.length < k + (f + 1)) (ha : acc.length ≤ k) (h : tokK (l.drop k) = .ok (kd, n, t))
    (hs : allK l = glue acc (scan (f + 1) (l.drop k) k)) :
    k + t.length ≤ l.length ∧ k + t.length + run blkR (l.drop (k + t.length)) ≤ l.length ∧ l.length < k + t.length + run blkR (l.drop (k + t.length)) + f ∧
      (acc ++ [(⟨kd, t, n, k⟩ : Tok)]).length ≤ k + t.length + run blkR (l.drop (k + t.length)) ∧
      allK l = glue (acc ++ [⟨kd, t, n, k⟩]) (scan f (l.drop (k + t.length + run blkR (l.drop (k + t.length)))) (k + t.length + run blkR (l.drop (k + t.length)))) := by
  obtain ⟨h1, h2, _⟩ := tok_text h
  have hr := run_le blkR (l.drop (k + t.length))
  simp only [List.length_drop] at h2 hr
  refine ⟨by omega, by omega, by omega, by simp; omega, ?_⟩
  rw [hs, scan_good acc (by intro e; have := congrArg List.length e; simp at this; omega) h]
  simp only [List.drop_drop, Nat.add_assoc]
end Lx
end Go.Proofs.YtnljlocogfacfaaDoor
