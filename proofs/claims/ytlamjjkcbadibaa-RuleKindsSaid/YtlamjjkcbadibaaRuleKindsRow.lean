/-
  PROVED: RuleKinds: of two nodes that may be a plan is told just where one is dropped, a control lies lower or alike, or one asks and one is told; levels that come of it may be. CONDITIONS: none.
-/
import Derived.Test.YtlamjjkcbadibaaC1
import Derived.Test.YtlamjjkcbadibaaRuZK
namespace Go.Proofs.Ytlamjjkcbadibaa
open Go.ChangeShapes Go.WideShapes Go.ChangeAt Go.RowKit
open Go.ChangeMaps (open_string shut_string)
namespace Lx
set_option maxRecDepth 100000 in
theorem ruleKinds_lifted (os : Os) (started : os.Started) (H : Type) (enc : TypeId × Value → H) :
    ReturnsInHanded {} Try.checked os 4 .any (Rows.ruleKindsSpec.pre6 enc Try.prog Try.f4 Rows.ruleKindsRow.domain false) (Rows.ruleKindsSpec.post enc Try.prog Try.f4 false true false false) := by
  refine returnsInHanded_of_change_sized (C := Try.checked) (by kernel_rfl) started (by kernel_rfl) Try.func4
    (ChangeSpec.witness6 (enc := enc) (C := Try.checked) false ⟨#[], #[.agg #[.int .i64 0, .int .i64 0, .int .i64 0, .string ⟨#[]⟩, .slice none 0 0, .slice none 0 0], .agg #[.int .i64 0, .int .i64 0, .int .i64 0, .string ⟨#[]⟩, .slice none 0 0, .slice none 0 0]], []⟩ 8 (by kernel_rfl) (by kernel_rfl) (by kernel_rfl) (by kernel_rfl)) ?_
  intro W base args ds gs before hval0 hW _ hz0 _
  have hval : ∀ (j : Nat) t v, Try.f4.params[j]? = some t → args[j]? = some v → Value.okWide Try.prog W .any base t v := hval0
  have hW' := hW
  obtain ⟨p, q, hA0, hV, rfl, hfz, hnd⟩ := hW
  have hA : DataW.TrodAll enc Try.prog W 0 (fun _ => true) true Try.f4.params.toList args.toList ds p := hA0
  have hz : (DataW.weightsEach Try.prog (Try.f4.params.toList ++ Rows.ruleKindsSpec.plain.varTypes Try.prog) (ds ++ gs)).all (· ≤ reachBytes) = true := hz0
  rw [Try.params4] at hA hval hz
  obtain ⟨v0, v1, d0, d1, p0, p1, rfl, rfl, rfl, h0, h1⟩ := trodAll_two hA
  obtain ⟨rfl, rfl⟩ := trodVars_none hV
  have hw0 : ∀ k ∈ DataW.weights Try.prog 25 d0, k ≤ reachBytes := fun k hk => by
    have := List.all_eq_true.1 hz k (by simp [DataW.weightsEach, hk])
    simpa using this
  obtain ⟨t0, B0, b0, C0, c0, e0, hT0⟩ := node_arg (hval 0 25 v0 rfl rfl) h0 hw0
  have hw1 : ∀ k ∈ DataW.weights Try.prog 25 d1, k ≤ reachBytes := fun k hk => by
    have := List.all_eq_true.1 hz k (by simp [DataW.weightsEach, hk])
    simpa using this
  obtain ⟨t1, B1, b1, C1, c1, e1, hT1⟩ := node_arg (hval 1 25 v1 rfl rfl) h1 hw1
  clear hA0 hval0 hz0 hz
  simp only [List.append_nil] at hW'
  have hlt := hW'.lt
  subst e0 e1
  refine (ruleKinds_law t0 t1 B0 C0 b0 c0 B1 C1 b1 c1 W hT0 hT1).mono fun e W' ⟨he, hb⟩ => ?_
  subst he
  exact ⟨_, rfl, postN_left hW' (fun _ _ _ => trodAll_mk1 (shut_bool Try.underlying4 _)) (fun sp hs => trodAll_mk2 (node_again h0 hb (fun x hx => hlt x ((fun y => List.mem_append.2 (.inl y)) hx)) (fun x hx => hs x ((fun y => List.mem_append.2 (.inl y)) hx))) (node_again h1 hb (fun x hx => hlt x ((fun y => List.mem_append.2 (.inr y)) hx)) (fun x hx => hs x ((fun y => List.mem_append.2 (.inr y)) hx)))) (fun _ => rfl) hb (ok_one (by kernel_rfl) rfl (okWide_bool_mk Try.underlying4 _))⟩
end Lx
theorem ruleKinds_holds : Rows.RuleKindsSaid :=
  OpenClaim.holds_of_wide 4 Try.f4 rfl rfl rfl rfl rfl rfl rfl ⟨rfl, rfl, rfl, rfl, rfl⟩ rfl rfl rfl rfl rfl (by kernel_rfl) Try.func4 (by kernel_rfl)
    (of_decide_eq_true (by kernel_rfl)) (by unfold Func.isWrapper; rw [if_neg (of_decide_eq_false (by kernel_rfl))]; exact ⟨rfl, rfl⟩)
    (fun os started H enc _ => Lx.ruleKinds_lifted os started H enc)
#print axioms ruleKinds_holds
end Go.Proofs.Ytlamjjkcbadibaa
