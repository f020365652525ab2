/-
  Plain: what a token's first byte tells of its kind.
-/
import Derived.Test.YthfchcnmedklbaaDoorJoin
namespace Go.Proofs.YthfchcnmedklbaaDoor
namespace Lx
def KindOf (kd n : Int) (c : UInt8) (q : List UInt8) : Prop :=
  (kd = 3 ∧ 48 ≤ (c.toNat : Int) ∧ (c.toNat : Int) ≤ 57 ∧ wordS (c :: q) = false ∧ n = numV (c :: q) ∧ run digR (c :: q) = (c :: q).length ∧ (c :: q).length ≤ 18) ∨
  (kd = 4 ∧ 97 ≤ (c.toNat : Int) ∧ (c.toNat : Int) ≤ 122 ∧ wordS (c :: q) = true ∧ n = 0 ∧ (c :: q).length ≤ 18) ∨
  (kd = 1 ∧ 97 ≤ (c.toNat : Int) ∧ (c.toNat : Int) ≤ 122 ∧ wordS (c :: q) = false ∧ n = 0 ∧ (c :: q).length ≤ 18) ∨
  (kd = 2 ∧ 65 ≤ (c.toNat : Int) ∧ (c.toNat : Int) ≤ 90 ∧ wordS (c :: q) = false ∧ n = 0 ∧ (c :: q).length ≤ 18) ∨
  (kd = 5 ∧ ((c.toNat : Int) < 48 ∨ (57 < (c.toNat : Int) ∧ (c.toNat : Int) < 65) ∨ (90 < (c.toNat : Int) ∧ (c.toNat : Int) < 97) ∨ 122 < (c.toNat : Int)) ∧ wordS (c :: q) = false ∧ n = 0 ∧ (c :: q).length ≤ 18)

theorem word_first {c : UInt8} {q : List UInt8} (h : wordS (c :: q) = true) : 97 ≤ (c.toNat : Int) ∧ (c.toNat : Int) ≤ 122 := by
  simp only [wordS, Bool.or_eq_true, beq_iff_eq, List.cons.injEq] at h
  rcases h with ⟨rfl, _⟩ | ⟨rfl, _⟩ | ⟨rfl, _⟩ | ⟨rfl, _⟩ | ⟨rfl, _⟩ <;> decide
theorem word_not {c : UInt8} {q : List UInt8} (h : (c.toNat : Int) < 97 ∨ 122 < (c.toNat : Int)) : wordS (c :: q) = false := by
  cases hw : wordS (c :: q) with
  | false => rfl
  | true => have := word_first hw; omega
theorem run_pos {P : Int → Bool} {c : UInt8} {q : List UInt8} : 0 < run P (c :: q) ↔ P (c.toNat : Int) = true := by
  by_cases h : P (c.toNat : Int) = true <;> simp [run, h]
theorem sign_first : ∀ g ∈ signsS, ∃ c q, g = c :: q ∧ ((c.toNat : Int) < 48 ∨ (57 < (c.toNat : Int) ∧ (c.toNat : Int) < 65) ∨ (90 < (c.toNat : Int) ∧ (c.toNat : Int) < 97) ∨ 122 < (c.toNat : Int)) ∧ g.length ≤ 18 := by
  intro g hg
  simp only [signsS, List.mem_cons, List.not_mem_nil, or_false] at hg
  rcases hg with rfl | rfl | rfl | rfl | rfl | rfl | rfl | rfl | rfl | rfl | rfl | rfl | rfl | rfl | rfl <;> exact ⟨_, _, rfl, by decide, by decide⟩

theorem tok_kind {l : List UInt8} {kd n : Int} {c : UInt8} {q : List UInt8} (h : tokK l = .ok (kd, n, c :: q)) : KindOf kd n c q := by
  unfold tokK at h
  split at h
  · rename_i h0
    split at h
    · rename_i k' n' h1
      simp only [Except.ok.injEq, Prod.mk.injEq] at h
      obtain ⟨rfl, rfl, ht⟩ := h
      have hall := run_take_all ldR l
      rw [ht] at h1 hall
      have hc := hall c (by simp)
      unfold runK at h1
      split at h1
      · rename_i h2
        have h3 := run_pos.1 h2
        simp only [digR, Bool.and_eq_true, decide_eq_true_eq] at h3
        unfold numK at h1
        split at h1
        · cases h1
        · split at h1
          · cases h1
          · rename_i h4 h5
            simp only [Except.ok.injEq, Prod.mk.injEq] at h1
            obtain ⟨rfl, rfl⟩ := h1
            have := run_le digR (c :: q)
            exact .inl ⟨rfl, h3.1, h3.2, word_not (.inl (by omega)), rfl, by omega, by omega⟩
      · rename_i h2
        have h2' : ¬ digR (c.toNat : Int) = true := fun e => h2 (run_pos.2 e)
        split at h1
        · cases h1
        · rename_i h3
          split at h1
          · rename_i h4
            simp only [Except.ok.injEq, Prod.mk.injEq] at h1
            obtain ⟨rfl, rfl⟩ := h1
            have := word_first h4
            exact .inr (.inl ⟨rfl, this.1, this.2, h4, rfl, by omega⟩)
          · rename_i h4
            have h4' : wordS (c :: q) = false := by simpa using h4
            split at h1
            · rename_i h5
              simp only [Except.ok.injEq, Prod.mk.injEq] at h1
              obtain ⟨rfl, rfl⟩ := h1
              have h6 := run_pos.1 h5
              simp only [lowR, Bool.and_eq_true, decide_eq_true_eq] at h6
              exact .inr (.inr (.inl ⟨rfl, h6.1, h6.2, h4', rfl, by omega⟩))
            · rename_i h5
              simp only [Except.ok.injEq, Prod.mk.injEq] at h1
              obtain ⟨rfl, rfl⟩ := h1
              have h6 : ¬ lowR (c.toNat : Int) = true := fun e => h5 (run_pos.2 e)
              have h7 : upR (c.toNat : Int) = true := by
                simp only [ldR, Bool.or_eq_true] at hc
                rcases hc with hc | hc | hc
                · exact absurd hc h6
                · exact hc
                · exact absurd hc h2'
              simp only [upR, Bool.and_eq_true, decide_eq_true_eq] at h7
              exact .inr (.inr (.inr (.inl ⟨rfl, h7.1, h7.2, h4', rfl, by omega⟩)))
    · cases h
  · split at h
    · rename_i g h1
      simp only [Except.ok.injEq, Prod.mk.injEq] at h
      obtain ⟨rfl, rfl, rfl⟩ := h
      obtain ⟨c', q', he, hb, hl⟩ := sign_first _ (List.mem_of_find?_eq_some h1)
      injection he with e1 e2
      subst e1 e2
      exact .inr (.inr (.inr (.inr ⟨rfl, hb, word_not (by omega), rfl, hl⟩)))
    · cases h
theorem good_kind {t : Tok} (h : Good t) : ∃ c q, t.text = c :: q ∧ KindOf t.kind t.n c q := by
  have hp := good_pos h
  obtain ⟨l, hl⟩ := h
  cases htx : t.text with
  | nil => rw [htx] at hp; simp at hp
  | cons c q =>
    rw [htx] at hl
    exact ⟨c, q, rfl, tok_kind hl⟩
end Lx
end Go.Proofs.YthfchcnmedklbaaDoor
