/-
  A net that is filled, plainly.
-/
import Derived.Test.YtceblpjlklogpaaDoorC4
import Derived.Test.YtceblpjlklogpaaDoorNlZP
namespace Go.Proofs.YtceblpjlklogpaaDoor
open Go Go.RowKit
namespace Lx
set_option maxRecDepth 100000
def fillN (x : Nd) (j : Nat) : List Nd := nsN ++ List.replicate j (freshV x)
theorem nsN_kind : ∀ i, i < 2 → (ndAt nsN i).kind ≠ 0 := by decide
theorem nsN_small : ∀ i, i < 2 → (ndAt nsN i).to.length ≤ 100000 ∧ (ndAt nsN i).alts.length ≤ 100000 := by decide
theorem fill_len (x : Nd) (j : Nat) : (fillN x j).length = 2 + j := by
  simp [fillN, nsN]; omega
theorem fill_snoc (x : Nd) (j : Nat) : fillN x (j + 1) = fillN x j ++ [freshV x] := by
  rw [fillN, fillN, List.replicate_succ', List.append_assoc]
theorem fill_used {x : Nd} (h : makeable x = true) : ∀ j, usedV (fillN x j) = 2 + j
  | 0 => rfl
  | j + 1 => by
    have hk : x.kind ≠ 0 := by
      simp only [makeable, Bool.and_eq_true, decide_eq_true_eq] at h
      omega
    rw [fill_snoc, usedV_snoc, fresh_kind, if_neg hk, fill_used h j]
    omega
theorem fill_kind {x : Nd} (h : makeable x = true) : ∀ (j i : Nat), i < 2 + j → (ndAt (fillN x j) i).kind ≠ 0
  | 0, i, hi => nsN_kind i hi
  | j + 1, i, hi => by
    have hk : x.kind ≠ 0 := by
      simp only [makeable, Bool.and_eq_true, decide_eq_true_eq] at h
      omega
    rw [fill_snoc, ndAt_snoc, fill_len]
    split
    · exact hk
    · exact fill_kind h j i (by omega)
theorem fill_make {x : Nd} (h : makeable x = true) {j : Nat} {most : Int} (hm : (2 + j : Int) < most) : makeV (fillN x j) most x = (fillN x (j + 1), (2 + j : Int), 0) := by
  rw [makeV, if_pos h, if_pos (by rw [fill_used h]; omega), freeAt_no (fun i hi => fill_kind h j i (by rw [fill_len] at hi; exact hi)), fill_snoc]
  simp only [fill_len]
  congr 2
theorem fill_full {x : Nd} (h : makeable x = true) {j : Nat} {most : Int} (hm : (2 + j : Int) = most) : makeV (fillN x j) most x = (fillN x j, 0, 121) := by
  rw [makeV, if_pos h, if_neg (by rw [fill_used h]; omega)]
theorem fill_root (l : List Nd) (cap : Int) : makeV l cap ⟨1, 0, 0, ⟨#[]⟩, [], []⟩ = (l, 0, 122) := by
  rw [makeV, if_neg (by simp [makeable])]
theorem fill_free {x : Nd} (h : makeable x = true) (j : Nat) : freeV (fillN x (j + 1)) (2 + j : Int) = (fillN x j, 0) := by
  rw [freeV, if_pos ⟨by omega, by rw [fill_len]; omega, fill_kind h _ _ (by omega)⟩]
  have e : ((2 + j : Int)).toNat = 2 + j := by omega
  rw [e, fill_snoc, List.set_append_right _ _ (by rw [fill_len]; omega), fill_len, Nat.sub_self, List.set_cons_zero, trimV_zero _ _ rfl]
  rw [trimV_last (by intro e; have := congrArg List.length e; rw [fill_len] at this; simp at this) (fill_kind h _ _ (by rw [fill_len]; omega))]
theorem fill_small {x : Nd} (hp : x.ports ≤ 100000) (ha : x.alts.length ≤ 100000) : ∀ (j i : Nat), i < (fillN x j).length → (ndAt (fillN x j) i).to.length ≤ 100000 ∧ (ndAt (fillN x j) i).alts.length ≤ 100000
  | 0, i, hi => nsN_small i hi
  | j + 1, i, hi => by
    rw [fill_snoc, ndAt_snoc]
    split
    · simp only [freshV, List.length_replicate]; exact ⟨hp, ha⟩
    · refine fill_small hp ha j i ?_
      rw [fill_len] at hi ⊢
      rename_i hn
      rw [fill_len] at hn
      omega
theorem fill_check {most : Int} (h : 2 ≤ most ∧ most ≤ 4000) : checkI nsN most = 0 := by
  have ha : ∀ i, i < nsN.length → atOk nsN i = true := fun i hi => by
    match i, hi with
    | 0, _ => decide
    | 1, _ => decide
  rw [checkI, if_pos]
  rw [checkV]
  exact decide_eq_true ⟨by omega, by omega, by decide, by show (2 : Int) ≤ most; omega, by decide, ha⟩
end Lx
end Go.Proofs.YtceblpjlklogpaaDoor
