/-
  PROVED: of every closed term none of whose variables is used twice, a step leaves one of which that is so, too, and that is smaller. CONDITIONS: none.
-/
import Derived.Test.YtgnafcnokenogaaC2
import Derived.Test.YtgnafcnokenogaaUsZS
namespace Go.Proofs.Ytgnafcnokenogaa
open Go.ChangeShapes Go.WideShapes Go.ChangeAt Go.RowKit
namespace Lx
set_option maxRecDepth 100000 in
theorem useSteps_lifted (os : Os) (started : os.Started) (H : Type) (enc : TypeId × Value → H) :
    ReturnsInHanded {} Try.checked os 3 .any (Rows.useStepsSpec.pre6 enc Try.prog Try.f3 Rows.useStepsRow.domain false) (Rows.useStepsSpec.post enc Try.prog Try.f3 false true false false) := by
  refine returnsInHanded_of_change_sized (C := Try.checked) (by kernel_rfl) started (by kernel_rfl) Try.func3
    (ChangeSpec.witness6 (enc := enc) (C := Try.checked) false ⟨#[], #[.agg #[.int .i64 0, .int .i64 0, .string ⟨#[]⟩, .slice none 0 0]], []⟩ 8 (by kernel_rfl) (by kernel_rfl) (by kernel_rfl) (by kernel_rfl)) ?_
  intro W base args ds gs before hval0 hW _ hz0 _
  have hval : ∀ (j : Nat) t v, Try.f3.params[j]? = some t → args[j]? = some v → Value.okWide Try.prog W .any base t v := hval0
  have hW' := hW
  obtain ⟨p, q, hA0, hV, rfl, hfz, hnd⟩ := hW
  have hA : DataW.TrodAll enc Try.prog W 0 (fun _ => true) true Try.f3.params.toList args.toList ds p := hA0
  have hz : (DataW.weightsEach Try.prog (Try.f3.params.toList ++ Rows.useStepsSpec.plain.varTypes Try.prog) (ds ++ gs)).all (· ≤ reachBytes) = true := hz0
  rw [Try.params3] at hA hval hz
  obtain ⟨v0, d0, rfl, rfl, h0⟩ := trodAll_one hA
  obtain ⟨rfl, rfl⟩ := trodVars_none hV
  have hw0 : ∀ k ∈ DataW.weights Try.prog 24 d0, k ≤ reachBytes := fun k hk => by
    have := List.all_eq_true.1 hz k (by simp [DataW.weightsEach, hk])
    simpa using this
  obtain ⟨t0, A0, c0, e0, hT0⟩ := term_argS (hval 0 24 v0 rfl rfl) h0 hw0
  clear hA0 hval0 hz0 hz
  simp only [List.append_nil] at hW'
  have hlt := hW'.lt
  subst e0
  refine (useSteps_law t0 A0 c0 W hT0).mono fun e W' ⟨he, hb⟩ => ?_
  subst he
  exact ⟨_, rfl, post_leftS hW' (fun _ _ _ => trodAll_mk1 (shut_bool Try.underlying4 _)) (fun sp hs => by
    have h9 := trodAll_mk1 (term_againS h0 hb (fun x hx => hlt x (by simp [hx])) (fun x hx => hs x (by simp [hx])))
    first | exact h9 | (rw [← List.append_assoc] at h9; exact h9) | (rw [List.append_assoc] at h9; exact h9) | (simp only [List.append_nil] at h9; exact h9) | (simp only [List.append_nil, List.append_assoc] at h9; exact h9)) (fun _ => rfl) hb (ok_one (by kernel_rfl) rfl (okWide_bool_mk Try.underlying4 _))⟩
end Lx
theorem useSteps_holds : Rows.UseStepsSaid :=
  OpenClaim.holds_of_wide 3 Try.f3 rfl rfl rfl rfl rfl rfl rfl ⟨rfl, rfl, rfl, rfl, rfl⟩ rfl rfl rfl rfl rfl (by kernel_rfl) Try.func3 (by kernel_rfl)
    (of_decide_eq_true (by kernel_rfl)) (by unfold Func.isWrapper; rw [if_neg (of_decide_eq_false (by kernel_rfl))]; exact ⟨rfl, rfl⟩)
    (fun os started H enc _ => Lx.useSteps_lifted os started H enc)
#print axioms useSteps_holds
end Go.Proofs.Ytgnafcnokenogaa
