/-
  Plain: what RuleLevels says.
-/
import Derived.Test.YtlamjjkcbadibaaRuN
namespace Go.Proofs.Ytlamjjkcbadibaa
namespace Lx
set_option maxRecDepth 100000
/-- The level that a control leaves. -/
def wantV (k l : Int) : Int := l + riseV k
/-- What a control and a node do. -/
theorem levels_ok {k l : Int} {y : Nd} (hk : 4 ≤ k ∧ k ≤ 6) (ny : nodeV y = true) (hl : 0 ≤ l ∧ l ≤ 60) (hy : 2 ≤ y.kind ∧ y.kind ≠ 7) :
    (l < y.level → 60 < wantV k y.level → (ofN (bareN k l) y).2 = 141) ∧
    (l < y.level → ¬ 60 < wantV k y.level → (ofN (bareN k l) y).2 = 0 ∧ (ofN (bareN k l) y).1.kind = 7 ∧ (ofN (bareN k l) y).1.level = wantV k y.level ∧ (ofN (bareN k l) y).1.swap = false) ∧
    (¬ l < y.level → roleV y.kind = 2 → l = y.level → ((ofN (bareN k l) y).2 = 0 ↔ k = y.kind)) ∧
    (¬ l < y.level → roleV y.kind ≠ 2 → (ofN (bareN k l) y).2 = 140) := by
  have fy := node_facts ny
  have r2 : roleV k = 2 := role_control.2 (by omega)
  have r1 : roleV y.kind ≠ 1 := fun h => hy.2 (role_seven.1 h)
  have rc := role_cases y.kind
  have hr := rise_cases k
  have hrk : roleV y.kind = 0 → False := fun h => by
    have : roleV y.kind ≠ 0 := by unfold roleV; repeat' split <;> omega
    exact this h
  have hp : l < y.level → planV (bareN k l) y = passV (bareN k l) y := fun h => by
    unfold planV
    rw [if_neg (by show roleV k ≠ 1; omega), if_pos ⟨r2, h⟩]
  have hn : l < y.level → aheadV y (bareN k l) = false := fun h => by
    unfold aheadV
    by_cases h2 : roleV y.kind = 2 ∧ roleV (bareN k l).kind = 2
    · rw [if_pos h2]
      show decide (y.level < l) = false
      simp; omega
    · rw [if_neg h2]
      have h5 : roleV (bareN k l).kind = 2 := r2
      have h6 : roleV y.kind ≠ 0 := hrk
      simp; omega
  have hps : passV (bareN k l) y = if y.level > 60 - riseV k then (Pl.zero, 141) else (⟨7, false, wrapR (y.level + riseV k), 0, Nd.zero⟩, 0) := rfl
  refine ⟨fun h hw => ?_, fun h hw => ?_, fun h h2 he => ?_, fun h h2 => ?_⟩
  · rw [of_noswap (hn h), hp h, hps, if_pos (by unfold wantV at hw; omega)]
  · rw [of_noswap (hn h), hp h, hps, if_neg (by unfold wantV at hw; omega)]
    unfold wantV at *
    refine ⟨rfl, rfl, ?_, rfl⟩
    show wrapR _ = _
    rw [wrapR_of (by omega)]
  · have ha : aheadV y (bareN k l) = false := by
      unfold aheadV
      rw [if_pos ⟨h2, r2⟩]
      show decide (y.level < l) = false
      simp; omega
    rw [of_noswap ha]
    unfold planV
    rw [if_neg (by show roleV k ≠ 1; omega), if_neg (by show ¬ (roleV k = 2 ∧ l < y.level); omega)]
    by_cases e : k = y.kind
    · rw [if_pos ⟨r2, he, e⟩]
      exact ⟨fun _ => e, fun _ => rfl⟩
    · rw [if_neg (fun h9 => e h9.2.2), if_neg (by show ¬ (roleV k = 3 ∧ roleV y.kind = 4); omega)]
      exact ⟨fun h9 => absurd h9 (by decide), fun h9 => absurd h9 e⟩
  · have ha : aheadV y (bareN k l) = false := by
      rw [ahead_role (.inl h2)]
      show decide (roleV y.kind < roleV k) = false
      have : roleV y.kind ≠ 0 := hrk
      simp; omega
    rw [of_noswap ha]
    unfold planV
    rw [if_neg (by show roleV k ≠ 1; omega), if_neg (by show ¬ (roleV k = 2 ∧ l < y.level); omega), if_neg (fun h9 => by
      have h8 : k = y.kind := h9.2.2
      rw [← h8] at h2
      exact h2 r2), if_neg (by show ¬ (roleV k = 3 ∧ roleV y.kind = 4); omega)]
end Lx
end Go.Proofs.Ytlamjjkcbadibaa
