/-
  PROVED: A step of what is applied is a step of the whole, in its place; so of what a case looks at, and of an operator's parts, the left one first. CONDITIONS: the table of signs (the package-level variable signs of package lex) starts as the program's text lays it (the card ties it); no other.
-/
import Derived.Test.YtiocmiikghcoaaaGreatDoorC20
import Derived.Test.YtiocmiikghcoaaaGreatDoorHlApps
import Derived.LaidSub
namespace Go.Proofs.YtiocmiikghcoaaaGreatDoor
open Go.ChangeShapes Go.WideShapes Go.ChangeAt Go.RowKit
open Go.ChangeMaps (open_string shut_string)
namespace Lx
set_option maxRecDepth 100000 in
theorem headApps_lifted (os : Os) (started : os.Started) (H : Type) (enc : TypeId × Value → H) :
  ReturnsInHanded {} Tryz.checked os 7 .any (fun w args => (Rows.headAppsSpec.pre enc Tryz.prog Tryz.f7 [] false w args ∧ laidMetH Tryz.prog laidL w) ∧ sizedMet enc Tryz.prog Tryz.f7 (OpenSpec.ofChange Rows.headAppsSpec) false w args)
   (Rows.headAppsSpec.post enc Tryz.prog Tryz.f7 false true false false) := by
 refine returnsInHanded_of_change_and (C := Tryz.checked) (X := fun w _ => laidMetH Tryz.prog laidL w) (fun _ _ _ hh h => h.of_heap hh) own_ started (by kernel_rfl) Tryz.func7
  (ChangeSpec.witness_shaped (enc := enc) (C := Tryz.checked) (os := os) (X := fun w _ => laidMetH Tryz.prog laidL w) false (World.doorLaid Tryz.prog 400 os) #[.agg #[.int .i64 0, .int .i64 0, .string ⟨#[]⟩, .slice none 0 0], .agg #[.int .i64 0, .int .i64 0, .string ⟨#[]⟩, .slice none 0 0]] 8 rfl (World.shaped_of_RefB (by kernel_rfl) (by kernel_rfl)) (by kernel_rfl) (by kernel_rfl) (by kernel_rfl) (door_met os _)) ?_
 intro W base args ds gs before hval0 hW _ hz0 hL _
 have hval : ∀ (j : Nat) t v, Tryz.f7.params[j]? = some t → args[j]? = some v → Value.okWide Tryz.prog W .any base t v := hval0
 have hW' := hW
 obtain ⟨p, q, hA0, hV, rfl, hfz, hnd⟩ := hW
 have hA : DataW.TrodAll enc Tryz.prog W 0 (fun _ => true) true Tryz.f7.params.toList args.toList ds p := hA0
 have hz : (DataW.weightsEach Tryz.prog (Tryz.f7.params.toList ++ Rows.headAppsSpec.plain.varTypes Tryz.prog) (ds ++ gs)).all (· ≤ reachBytes) = true := hz0
 rw [Tryz.params7] at hA hval hz
 obtain ⟨v0, v1, d0, d1, p0, p1, rfl, rfl, rfl, h0, h1⟩ := trodAll_two hA
 obtain ⟨rfl, rfl⟩ := trodVars_none hV
 have hw0 : ∀ k ∈ DataW.weights Tryz.prog 24 d0, k ≤ reachBytes := fun k hk => by
  have := List.all_eq_true.1 hz k (by simp [DataW.weightsEach, hk])
  simpa using this
 obtain ⟨t0, A0, c0, e0, hT0⟩ := term_argS (hval 0 24 v0 rfl rfl) h0 hw0
 have hw1 : ∀ k ∈ DataW.weights Tryz.prog 24 d1, k ≤ reachBytes := fun k hk => by
  have := List.all_eq_true.1 hz k (by simp [DataW.weightsEach, hk])
  simpa using this
 obtain ⟨t1, A1, c1, e1, hT1⟩ := term_argS (hval 1 24 v1 rfl rfl) h1 hw1
 have hS := signs_of_laid hL
 clear hA0 hval0 hz0 hz
 simp only [List.append_nil] at hW'
 have hlt := hW'.lt
 subst e0 e1
 refine (apps9_any t0 A0 c0 t1 A1 c1 W hS hT0 hT1).mono fun e W' ⟨he, hb⟩ => ?_
 subst he
 exact ⟨_, rfl, post_leftS hW' (fun _ _ _ => trodAll_mk1 (shut_bool Tryz.underlying4 _)) (fun sp hs => trodAll_mk2 (term_againS h0 hb (fun x hx => hlt x ((fun y => List.mem_append.2 (.inl y)) hx)) (fun x hx => hs x ((fun y => List.mem_append.2 (.inl y)) hx))) (term_againS h1 hb (fun x hx => hlt x ((fun y => List.mem_append.2 (.inr y)) hx)) (fun x hx => hs x ((fun y => List.mem_append.2 (.inr y)) hx)))) (fun _ => rfl) hb (ok_one (by kernel_rfl) rfl (okWide_bool_mk Tryz.underlying4 _))⟩
end Lx
theorem headApps_holds : Rows.HeadAppsSaid :=
 OpenClaim.holds_of_wide 7 Tryz.f7 rfl rfl rfl rfl rfl rfl rfl ⟨rfl, rfl, rfl, rfl, rfl⟩ rfl rfl rfl rfl rfl (by kernel_rfl) Tryz.func7 (by kernel_rfl)
  (of_decide_eq_true (by kernel_rfl)) (by unfold Func.isWrapper; rw [if_neg (of_decide_eq_false (by kernel_rfl))]; exact ⟨rfl, rfl⟩)
  (fun os started H enc _ => Lx.headApps_lifted os started H enc)

theorem headApps_card_holds : Rows.HeadAppsCardSaid :=
 Claim7.holds_tied_plain_at .later [] [.data] true (true, "305529867e0743b86d3b4c1e2e4aa7e0a9417f172dec5a6de93f264f7e7a44a6") true
  headApps_holds (fun _ h => by cases h) (by kernel_rfl) (fun _ h => by cases h) headApps_row_tie rfl ⟨rfl, rfl⟩ (by kernel_rfl) rfl
  (fun f fn hf hfn => by
   obtain rfl : f = 7 := Option.some.inj ((show Tryz.prog.funcNamed "gossamer/gossamerlaw09.HeadApps" = some 7 by kernel_rfl).symm.trans hf) |>.symm
   obtain rfl : fn = Tryz.f7 := (Option.some.inj (Tryz.func7.symm.trans hfn)).symm
   exact ⟨by kernel_rfl, fun j t ht => by
    rw [Tryz.params7] at ht
    have hm : t ∈ [24, 24] := by simpa using Array.mem_of_getElem? ht
    have hall : ([24, 24].all fun u => !Tryz.prog.wantsStandIn u) = true := by kernel_rfl
    exact (show Tryz.prog.wantsStandIn t = false by simpa using List.all_eq_true.1 hall t hm)⟩)
  (by kernel_rfl)
#print axioms headApps_card_holds
end Go.Proofs.YtiocmiikghcoaaaGreatDoor
