/-
  PROVED: A name that is let is bound in what stands behind, one that is let by itself in what it is, too; what is free in the other parts is free: ScopeLets answers true, without panic, for all trees and every name. CONDITIONS: the table of signs (the package-level variable signs of package lex) starts as the program's text lays it (the card ties it); no other.
-/
import Derived.Test.YtobdoahdjbmflaaDoorC20
import Derived.Test.YtobdoahdjbmflaaDoorScZL
namespace Go.Proofs.YtobdoahdjbmflaaDoor
open Go.ChangeShapes Go.WideShapes Go.ChangeAt Go.RowKit
open Go.ChangeMaps (open_string shut_string)
namespace Lx
set_option maxRecDepth 100000 in
theorem scopeLets_lifted (os : Os) (started : os.Started) (H : Type) (enc : TypeId × Value → H) :
    ReturnsInHanded {} Tryd.checked os 4 .any (fun w args => (Rows.scopeLetsSpec.pre enc Tryd.prog Tryd.f4 [] false w args ∧ laidMetH Tryd.prog laidL w) ∧ sizedMet enc Tryd.prog Tryd.f4 (OpenSpec.ofChange Rows.scopeLetsSpec) false w args)
      (Rows.scopeLetsSpec.post enc Tryd.prog Tryd.f4 false true false false) := by
  refine returnsInHanded_of_change_and (C := Tryd.checked) (X := fun w _ => laidMetH Tryd.prog laidL w) (fun _ _ _ hh h => h.of_heap hh) own_ started (by kernel_rfl) Tryd.func4
    (ChangeSpec.witness_shaped (enc := enc) (C := Tryd.checked) (os := os) (X := fun w _ => laidMetH Tryd.prog laidL w) false (World.doorLaid Tryd.prog 400 os) #[.agg #[.int .i64 0, .string ⟨#[]⟩, .int .i64 0, .int .i64 0, .slice none 0 0], .agg #[.int .i64 0, .string ⟨#[]⟩, .int .i64 0, .int .i64 0, .slice none 0 0], .string ⟨#[]⟩] 8 rfl (World.shaped_of_RefB (by kernel_rfl) (by kernel_rfl)) (by kernel_rfl) (by kernel_rfl) (by kernel_rfl) (door_met os _)) ?_
  intro W base args ds gs before hval0 hW _ hz0 hL _
  have hval : ∀ (j : Nat) t v, Tryd.f4.params[j]? = some t → args[j]? = some v → Value.okWide Tryd.prog W .any base t v := hval0
  have hW' := hW
  obtain ⟨p, q, hA0, hV, rfl, hfz, hnd⟩ := hW
  have hA : DataW.TrodAll enc Tryd.prog W 0 (fun _ => true) true Tryd.f4.params.toList args.toList ds p := hA0
  have hz : (DataW.weightsEach Tryd.prog (Tryd.f4.params.toList ++ Rows.scopeLetsSpec.plain.varTypes Tryd.prog) (ds ++ gs)).all (· ≤ reachBytes) = true := hz0
  rw [Tryd.params4] at hA hval hz
  obtain ⟨v0, v1, v2, d0, d1, d2, p0, p1, p2, rfl, rfl, rfl, h0, h1, h2⟩ := trodAll_three hA
  obtain ⟨rfl, rfl⟩ := trodVars_none hV
  have hw0 : ∀ k ∈ DataW.weights Tryd.prog 24 d0, k ≤ reachBytes := fun k hk => by
    have := List.all_eq_true.1 hz k (by simp [DataW.weightsEach, hk])
    simpa using this
  obtain ⟨t0, A0, c0, e0, hT0⟩ := tree_arg (hval 0 24 v0 rfl rfl) h0 hw0
  have hw1 : ∀ k ∈ DataW.weights Tryd.prog 24 d1, k ≤ reachBytes := fun k hk => by
    have := List.all_eq_true.1 hz k (by simp [DataW.weightsEach, hk])
    simpa using this
  obtain ⟨t1, A1, c1, e1, hT1⟩ := tree_arg (hval 1 24 v1 rfl rfl) h1 hw1
  obtain ⟨s2, e2, e2', e2'', w2⟩ := open_string Tryd.underlying9 (hval 2 9 v2 rfl rfl) h2
  subst e2' e2''
  have hz2 : s2.size ≤ 140737488351232 := by
    have := List.all_eq_true.1 hz s2.size (by simp [DataW.weightsEach, DataW.weights])
    exact of_decide_eq_true this
  have hS := signs_of_laid hL
  clear hA0 hval0 hz0 hz
  simp only [List.append_nil] at hW'
  have hlt := hW'.lt
  subst e0 e1 e2
  refine (scopeLets_law t0 t1 s2 A0 A1 c0 c1 W hT0 hT1 hz2 hS).mono fun e W' ⟨he, hb⟩ => ?_
  subst he
  exact ⟨_, rfl, post_left hW' (fun _ _ _ => trodAll_mk1 (shut_bool Tryd.underlying4 _)) (fun sp hs => by have h9 := trodAll_mk3 (tree_again h0 hb (fun x hx => hlt x ((fun y => by simp [y]) hx)) (fun x hx => hs x ((fun y => by simp [y]) hx))) (tree_again h1 hb (fun x hx => hlt x ((fun y => by simp [y]) hx)) (fun x hx => hs x ((fun y => by simp [y]) hx))) (shut_string Tryd.underlying9 w2); simp only [List.append_nil] at h9; exact h9) (fun _ => rfl) hb (ok_one (by kernel_rfl) rfl (okWide_bool_mk Tryd.underlying4 _))⟩
end Lx
theorem scopeLets_holds : Rows.ScopeLetsSaid :=
  OpenClaim.holds_of_wide 4 Tryd.f4 rfl rfl rfl rfl rfl rfl rfl ⟨rfl, rfl, rfl, rfl, rfl⟩ rfl rfl rfl rfl rfl (by kernel_rfl) Tryd.func4 (by kernel_rfl)
    (of_decide_eq_true (by kernel_rfl)) (by unfold Func.isWrapper; rw [if_neg (of_decide_eq_false (by kernel_rfl))]; exact ⟨rfl, rfl⟩)
    (fun os started H enc _ => Lx.scopeLets_lifted os started H enc)

theorem scopeLets_card_holds : Rows.ScopeLetsCardSaid :=
  Claim7.holds_tied_plain_at .later [] [.data] true (true, "e8eefd6745b5c2469585e571dddaa42791840f83b08e12f281409167227b9797") true
    scopeLets_holds (fun _ h => by cases h) (by kernel_rfl) (fun _ h => by cases h) scopeLets_row_tie rfl ⟨rfl, rfl⟩ (by kernel_rfl) rfl
    (fun f fn hf hfn => by
      obtain rfl : f = 4 := Option.some.inj ((show Tryd.prog.funcNamed "gossamer/gossamerlaw05.ScopeLets" = some 4 by kernel_rfl).symm.trans hf) |>.symm
      obtain rfl : fn = Tryd.f4 := (Option.some.inj (Tryd.func4.symm.trans hfn)).symm
      exact ⟨by kernel_rfl, fun j t ht => by
        rw [Tryd.params4] at ht
        have hm : t ∈ [24, 24, 9] := by simpa using Array.mem_of_getElem? ht
        have hall : ([24, 24, 9].all fun u => !Tryd.prog.wantsStandIn u) = true := by kernel_rfl
        exact (show Tryd.prog.wantsStandIn t = false by simpa using List.all_eq_true.1 hall t hm)⟩)
    (by kernel_rfl)
#print axioms scopeLets_card_holds
end Go.Proofs.YtobdoahdjbmflaaDoor
