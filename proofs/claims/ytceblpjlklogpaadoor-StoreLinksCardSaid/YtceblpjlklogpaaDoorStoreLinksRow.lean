/-
  PROVED: of every net that may be, with one link turned to itself it may be no more, and with a node freed it may be just if that node was linked to itself alone. CONDITIONS: one table (the package-level variable ports of package store) starts as the program's text lays it (the card ties it); no other.
-/
import Derived.Test.YtceblpjlklogpaaDoorC9
import Derived.Test.YtceblpjlklogpaaDoorNlZL
namespace Go.Proofs.YtceblpjlklogpaaDoor
open Go.ChangeShapes Go.WideShapes Go.ChangeAt Go.RowKit
open Go.ChangeMaps (open_string shut_string)
namespace Lx
set_option maxRecDepth 100000 in
theorem storeLinks_lifted (os : Os) (started : os.Started) (H : Type) (enc : TypeId × Value → H) :
    ReturnsInHanded {} Tryd.checked os 6 .any (fun w args => (Rows.storeLinksSpec.pre enc Tryd.prog Tryd.f6 [] false w args ∧ laidMetH Tryd.prog laidN w) ∧ sizedMet enc Tryd.prog Tryd.f6 (OpenSpec.ofChange Rows.storeLinksSpec) false w args)
      (Rows.storeLinksSpec.post enc Tryd.prog Tryd.f6 false true false false) := by
  refine returnsInHanded_of_change_and (C := Tryd.checked) (X := fun w _ => laidMetH Tryd.prog laidN w) (fun _ _ _ hh h => h.of_heap hh) own_ started (by kernel_rfl) Tryd.func6
    (ChangeSpec.witness_shaped (enc := enc) (C := Tryd.checked) (os := os) (X := fun w _ => laidMetH Tryd.prog laidN w) false (World.doorLaid Tryd.prog 400 os) #[.agg #[.slice none 0 0, .int .i64 0], .int .i64 0, .int .i64 0] 8 rfl (World.shaped_of_RefB (by kernel_rfl) (by kernel_rfl)) (by kernel_rfl) (by kernel_rfl) (by kernel_rfl) (door_metN os _)) ?_
  intro W base args ds gs before hval0 hW _ hz0 hL _
  have hval : ∀ (j : Nat) t v, Tryd.f6.params[j]? = some t → args[j]? = some v → Value.okWide Tryd.prog W .any base t v := hval0
  have hW' := hW
  obtain ⟨p, q, hA0, hV, rfl, hfz, hnd⟩ := hW
  have hA : DataW.TrodAll enc Tryd.prog W 0 (fun _ => true) true Tryd.f6.params.toList args.toList ds p := hA0
  have hz : (DataW.weightsEach Tryd.prog (Tryd.f6.params.toList ++ Rows.storeLinksSpec.plain.varTypes Tryd.prog) (ds ++ gs)).all (· ≤ reachBytes) = true := hz0
  rw [Tryd.params6] at hA hval hz
  obtain ⟨v0, v1, v2, d0, d1, d2, p0, p1, p2, rfl, rfl, rfl, h0, h1, h2⟩ := trodAll_three hA
  obtain ⟨rfl, rfl⟩ := trodVars_none hV
  have hw0 : ∀ k ∈ DataW.weights Tryd.prog 24 d0, k ≤ reachBytes := fun k hk => by
    have := List.all_eq_true.1 hz k (by simp [DataW.weightsEach, hk])
    simpa using this
  obtain ⟨l0, A0, c0, cap0, e0, hT0, hn0⟩ := net_arg (hval 0 24 v0 rfl rfl) h0 hw0
  obtain ⟨n1, e1, e1', e1'', w1⟩ := open_int Tryd.underlying3 (hval 1 3 v1 rfl rfl) h1
  subst e1' e1''
  obtain ⟨n2, e2, e2', e2'', w2⟩ := open_int Tryd.underlying3 (hval 2 3 v2 rfl rfl) h2
  subst e2' e2''
  have hS := ptab_of_laid hL
  clear hA0 hval0 hz0 hz
  simp only [List.append_nil] at hW'
  have hlt := hW'.lt
  subst e0 e1 e2
  refine (storeLinks_law l0 A0 l0.length (capN l0.length c0) cap0 n1 n2 W rfl hn0 hT0 hS).mono fun e W' ⟨he, hb⟩ => ?_
  subst he
  exact ⟨_, rfl, postN_left hW' (fun _ _ _ => trodAll_mk1 (shut_bool Tryd.underlying4 _)) (fun sp hs => by have h9 := trodAll_mk3 (net_again h0 hb (fun x hx => hlt x ((fun y => by simp [y]) hx)) (fun x hx => hs x ((fun y => by simp [y]) hx))) (shut_int Tryd.underlying3 w1) (shut_int Tryd.underlying3 w2); simp only [List.append_nil] at h9; exact h9) (fun _ => rfl) hb (ok_one (by kernel_rfl) rfl (okWide_bool_mk Tryd.underlying4 _))⟩
end Lx
theorem storeLinks_holds : Rows.StoreLinksSaid :=
  OpenClaim.holds_of_wide 6 Tryd.f6 rfl rfl rfl rfl rfl rfl rfl ⟨rfl, rfl, rfl, rfl, rfl⟩ rfl rfl rfl rfl rfl (by kernel_rfl) Tryd.func6 (by kernel_rfl)
    (of_decide_eq_true (by kernel_rfl)) (by unfold Func.isWrapper; rw [if_neg (of_decide_eq_false (by kernel_rfl))]; exact ⟨rfl, rfl⟩)
    (fun os started H enc _ => Lx.storeLinks_lifted os started H enc)

theorem storeLinks_card_holds : Rows.StoreLinksCardSaid :=
  Claim7.holds_tied_plain_at .later [] [.data] true (true, "30b2ecdb303c80c7cc1cb764c9603ee8672e9bd29a57e7fd45c0a83b683327ff") false
    storeLinks_holds (fun _ h => by cases h) (by kernel_rfl) (fun _ h => by cases h) storeLinks_row_tie rfl ⟨rfl, rfl⟩ (by kernel_rfl) rfl
    (fun f fn hf hfn => by
      obtain rfl : f = 6 := Option.some.inj ((show Tryd.prog.funcNamed "gossamer/gossamerlaw12.StoreLinks" = some 6 by kernel_rfl).symm.trans hf) |>.symm
      obtain rfl : fn = Tryd.f6 := (Option.some.inj (Tryd.func6.symm.trans hfn)).symm
      exact ⟨by kernel_rfl, fun j t ht => by
        rw [Tryd.params6] at ht
        have hm : t ∈ [24, 3, 3] := by simpa using Array.mem_of_getElem? ht
        have hall : ([24, 3, 3].all fun u => !Tryd.prog.wantsStandIn u) = true := by kernel_rfl
        exact (show Tryd.prog.wantsStandIn t = false by simpa using List.all_eq_true.1 hall t hm)⟩)
    (by kernel_rfl)
#print axioms storeLinks_card_holds
end Go.Proofs.YtceblpjlklogpaaDoor
