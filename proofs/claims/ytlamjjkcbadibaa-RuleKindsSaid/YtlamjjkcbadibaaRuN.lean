/-
  Plain: what RuleKinds and RuleLevels say.
-/
import Derived.Test.YtlamjjkcbadibaaC6
import Derived.Test.YtlamjjkcbadibaaC3
namespace Go.Proofs.Ytlamjjkcbadibaa
namespace Lx
set_option maxRecDepth 100000
theorem recV_cases (s : ByteArray) (a b : Int) : (recV s a b).2.1 = ⟨#[]⟩ ∨ (recV s a b).2.1 = ⟨#[84, 114, 117, 101]⟩ ∨ (recV s a b).2.1 = ⟨#[70, 97, 108, 115, 101]⟩ := by
  unfold recV truthS
  repeat' split
  all_goals simp
/-- What x and y do, x being the first one. -/
def KindsP (x y : Nd) (p : Pl) : Prop :=
  (p.kind = 8 ∧ x.kind = 7) ∨ (p.kind = 6 ∧ roleV x.kind = 2 ∧ x.kind = y.kind ∧ x.level = y.level) ∨
  (p.kind = 7 ∧ roleV x.kind = 2 ∧ x.level < y.level ∧ 0 ≤ p.level ∧ p.level ≤ 60 ∧ x.level ≤ p.level) ∨
  (x.kind = 12 ∧ ∃ nk nn ns, p = ⟨4, p.swap, 0, 0, ⟨nk, x.level, nn, ns, [], [(0, 0)]⟩⟩ ∧ (nk = 10 ∨ nk = 8) ∧ nodeV ⟨nk, x.level, nn, ns, [], [(0, 0)]⟩ = true) ∨
  (1 ≤ p.kind ∧ p.kind ≤ 5 ∧ p.kind ≠ 4 ∧ roleV x.kind = 3 ∧ roleV y.kind = 4)
theorem plan_kinds {x y : Nd} (nx : nodeV x = true) (ny : nodeV y = true) (h : (planV x y).2 = 0) : KindsP x y (planV x y).1 := by
  have fx := node_facts nx
  have fy := node_facts ny
  unfold planV at h ⊢
  by_cases h1 : roleV x.kind = 1
  · rw [if_pos h1]
    exact .inl ⟨rfl, role_seven.1 h1⟩
  · rw [if_neg h1] at h ⊢
    by_cases h2 : roleV x.kind = 2 ∧ x.level < y.level
    · rw [if_pos h2] at h ⊢
      unfold passV at h ⊢
      by_cases h3 : y.level > 60 - riseV x.kind
      · rw [if_pos h3] at h; exact absurd h (by decide)
      · rw [if_neg h3]
        have hr := rise_cases x.kind
        refine .inr (.inr (.inl ⟨rfl, h2.1, h2.2, ?_⟩))
        simp only
        rw [wrapR_of (by omega)]
        omega
    · rw [if_neg h2] at h ⊢
      by_cases h3 : roleV x.kind = 2 ∧ x.level = y.level ∧ x.kind = y.kind
      · rw [if_pos h3]
        exact .inr (.inl ⟨rfl, h3.1, h3.2.2, h3.2.1⟩)
      · rw [if_neg h3] at h ⊢
        by_cases h4 : roleV x.kind = 3 ∧ roleV y.kind = 4
        · rw [if_pos h4] at h ⊢
          have hk := answer_kind x y h
          by_cases h5 : (answerV x y).1.kind = 4
          · refine .inr (.inr (.inr (.inl ?_)))
            clear hk
            unfold answerV at h h5 ⊢
            by_cases b0 : (x.kind = 3 ∧ y.kind = 2 ∨ x.kind = 9 ∧ y.kind = 8) ∧ x.level ≠ y.level
            · rw [if_pos b0] at h; exact absurd h (by decide)
            · rw [if_neg b0] at h5 ⊢
              by_cases b1 : x.kind = 3 ∧ y.kind = 2
              · rw [if_pos b1] at h5; exact absurd h5 (by simp [Pl.one])
              · rw [if_neg b1] at h5 ⊢
                by_cases b2 : x.kind = 9 ∧ y.kind = 8
                · rw [if_pos b2] at h5
                  exfalso
                  revert h5
                  simp only [pickV]
                  split <;> simp [Pl.one]
                · rw [if_neg b2] at h5 ⊢
                  by_cases b3 : x.kind = 11 ∧ y.kind = 10
                  · rw [if_pos b3] at h5; exact absurd h5 (by simp [Pl.one])
                  · rw [if_neg b3] at h5 ⊢
                    by_cases b4 : x.kind = 12 ∧ y.kind = 10
                    · rw [if_pos b4] at h5 ⊢
                      refine ⟨b4.1, ?_⟩
                      simp only [outV] at h5 ⊢
                      by_cases b5 : (recV x.name x.n y.n).2.2 = true
                      · rw [if_pos b5]
                        refine ⟨_, _, _, rfl, ?_, ?_⟩
                        · split <;> simp
                        · have hc := recV_con x.name x.n y.n
                          have h6 := recV_cases x.name x.n y.n
                          generalize recV x.name x.n y.n = R at *
                          obtain ⟨rn, rs, rb⟩ := R
                          simp only at hc h6 ⊢
                          rw [nodeV_eq]
                          rcases h6 with rfl | rfl | rfl
                          · rw [if_pos rfl]; simp [n1, n3, n5, hasNameK, hasNumK, altsFrom]; omega
                          · rw [if_neg (by decide), hc (by decide)]; simp [n1, n3, n5, hasNameK, hasNumK, altsFrom]; omega
                          · rw [if_neg (by decide), hc (by decide)]; simp [n1, n3, n5, hasNameK, hasNumK, altsFrom]; omega
                      · rw [if_neg b5] at h5; exact absurd h5 (by simp [Pl.one])
                    · rw [if_neg b4] at h5; exact absurd h5 (by simp [Pl.one])
          · exact .inr (.inr (.inr (.inr ⟨hk.1, hk.2, h5, h4.1, h4.2⟩)))
        · rw [if_neg h4] at h; exact absurd h (by decide)
theorem plan_errs (x y : Nd) : (planV x y).2 = 0 ∨ (planV x y).2 = 140 ∨ (planV x y).2 = 141 := by
  unfold planV passV answerV
  repeat' split
  all_goals simp
/-- What the law asks. -/
theorem kinds_ok {x y : Nd} (nx : nodeV x = true) (ny : nodeV y = true) : ((ofN x y).2 = 0 ∨ (ofN x y).2 = 140 ∨ (ofN x y).2 = 141) ∧
    ((ofN x y).2 = 0 → ((ofN x y).1.swap = false ∧ KindsP x y (ofN x y).1) ∨ ((ofN x y).1.swap = true ∧ KindsP y x (ofN x y).1)) := by
  have hs : ∀ {a b : Nd} {p : Pl} {s : Bool}, KindsP a b p → KindsP a b { p with swap := s } := fun {a b p s} h => by
    rcases h with h | h | h | ⟨h, nk, nn, ns, e, h'⟩ | h
    · exact .inl h
    · exact .inr (.inl h)
    · exact .inr (.inr (.inl h))
    · exact .inr (.inr (.inr (.inl ⟨h, nk, nn, ns, by rw [e], h'⟩)))
    · exact .inr (.inr (.inr (.inr h)))
  cases hA : aheadV y x with
  | true =>
    rw [of_swap hA]
    refine ⟨plan_errs y x, fun h => .inr ⟨decide_eq_true h, hs (plan_kinds ny nx h)⟩⟩
  | false =>
    rw [of_noswap hA]
    exact ⟨plan_errs x y, fun h => .inl ⟨rfl, hs (plan_kinds nx ny h)⟩⟩
end Lx
end Go.Proofs.Ytlamjjkcbadibaa
