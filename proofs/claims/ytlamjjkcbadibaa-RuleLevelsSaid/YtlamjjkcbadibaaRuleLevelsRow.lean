/-
  PROVED: RuleLevels: a control passes what lies higher, and leaves a level as it says; what lies as low, or lower, and is no control, it does not meet. CONDITIONS: none.
-/
import Derived.Test.YtlamjjkcbadibaaC1
import Derived.Test.YtlamjjkcbadibaaRuZL
namespace Go.Proofs.Ytlamjjkcbadibaa
open Go.ChangeShapes Go.WideShapes Go.ChangeAt Go.RowKit
open Go.ChangeMaps (open_string shut_string)
namespace Lx
set_option maxRecDepth 100000 in
theorem ruleLevels_lifted (os : Os) (started : os.Started) (H : Type) (enc : TypeId × Value → H) :
    ReturnsInHanded {} Try.checked os 5 .any (Rows.ruleLevelsSpec.pre6 enc Try.prog Try.f5 Rows.ruleLevelsRow.domain false) (Rows.ruleLevelsSpec.post enc Try.prog Try.f5 false true false false) := by
  refine returnsInHanded_of_change_sized (C := Try.checked) (by kernel_rfl) started (by kernel_rfl) Try.func5
    (ChangeSpec.witness6 (enc := enc) (C := Try.checked) false ⟨#[], #[.int .i64 0, .agg #[.int .i64 0, .int .i64 0, .int .i64 0, .string ⟨#[]⟩, .slice none 0 0, .slice none 0 0], .int .i64 0], []⟩ 8 (by kernel_rfl) (by kernel_rfl) (by kernel_rfl) (by kernel_rfl)) ?_
  intro W base args ds gs before hval0 hW _ hz0 _
  have hval : ∀ (j : Nat) t v, Try.f5.params[j]? = some t → args[j]? = some v → Value.okWide Try.prog W .any base t v := hval0
  have hW' := hW
  obtain ⟨p, q, hA0, hV, rfl, hfz, hnd⟩ := hW
  have hA : DataW.TrodAll enc Try.prog W 0 (fun _ => true) true Try.f5.params.toList args.toList ds p := hA0
  have hz : (DataW.weightsEach Try.prog (Try.f5.params.toList ++ Rows.ruleLevelsSpec.plain.varTypes Try.prog) (ds ++ gs)).all (· ≤ reachBytes) = true := hz0
  rw [Try.params5] at hA hval hz
  obtain ⟨v0, v1, v2, d0, d1, d2, p0, p1, p2, rfl, rfl, rfl, h0, h1, h2⟩ := trodAll_three hA
  obtain ⟨rfl, rfl⟩ := trodVars_none hV
  obtain ⟨n0, e0, e0', e0'', w0⟩ := open_int Try.underlying3 (hval 0 3 v0 rfl rfl) h0
  subst e0' e0''
  have hw1 : ∀ k ∈ DataW.weights Try.prog 25 d1, k ≤ reachBytes := fun k hk => by
    have := List.all_eq_true.1 hz k (by simp [DataW.weightsEach, hk])
    simpa using this
  obtain ⟨t1, B1, b1, C1, c1, e1, hT1⟩ := node_arg (hval 1 25 v1 rfl rfl) h1 hw1
  obtain ⟨n2, e2, e2', e2'', w2⟩ := open_int Try.underlying3 (hval 2 3 v2 rfl rfl) h2
  subst e2' e2''
  clear hA0 hval0 hz0 hz
  simp only [List.append_nil] at hW'
  have hlt := hW'.lt
  subst e0 e1 e2
  refine (ruleLevels_law n0 t1 n2 B1 C1 b1 c1 W hT1).mono fun e W' ⟨he, hb⟩ => ?_
  subst he
  exact ⟨_, rfl, postN_left hW' (fun _ _ _ => trodAll_mk1 (shut_bool Try.underlying4 _)) (fun sp hs => by have h9 := trodAll_mk3 (shut_int Try.underlying3 w0) (node_again h1 hb (fun x hx => hlt x ((fun y => by simpa using y) hx)) (fun x hx => hs x ((fun y => by simpa using y) hx))) (shut_int Try.underlying3 w2); simp only [List.append_nil, List.nil_append] at h9; exact h9) (fun _ => rfl) hb (ok_one (by kernel_rfl) rfl (okWide_bool_mk Try.underlying4 _))⟩
end Lx
theorem ruleLevels_holds : Rows.RuleLevelsSaid :=
  OpenClaim.holds_of_wide 5 Try.f5 rfl rfl rfl rfl rfl rfl rfl ⟨rfl, rfl, rfl, rfl, rfl⟩ rfl rfl rfl rfl rfl (by kernel_rfl) Try.func5 (by kernel_rfl)
    (of_decide_eq_true (by kernel_rfl)) (by unfold Func.isWrapper; rw [if_neg (of_decide_eq_false (by kernel_rfl))]; exact ⟨rfl, rfl⟩)
    (fun os started H enc _ => Lx.ruleLevels_lifted os started H enc)
#print axioms ruleLevels_holds
end Go.Proofs.Ytlamjjkcbadibaa
