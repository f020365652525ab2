/-
  PROVED: the law CoreBuilt answers true for every two terms and every two numbers, and leaves them as they were. CONDITIONS: four tables (the package-level variables signs of package lex, uint64pow10 of internal/strconv, deBruijn32tab and deBruijn64tab of math/bits) start as the program's text lays them (the card ties them); no other.
-/
import Derived.Test.YteagbndjoklogaaDoorKK
import Derived.Test.YteagbndjoklogaaDoorLawBuilt6
namespace Go.Proofs.YteagbndjoklogaaDoor
open Go.ChangeShapes Go.WideShapes Go.ChangeAt Go.RowKit
open Go.ChangeMaps (open_string shut_string)
namespace Lx
set_option maxRecDepth 100000 in
theorem coreBuilt_lifted (os : Os) (started : os.Started) (H : Type) (enc : TypeId × Value → H) :
    ReturnsInHanded {} Tryd.checked os 6 .any (fun w args => (Rows.coreBuiltSpec.pre enc Tryd.prog Tryd.f6 [] false w args ∧ laidMetH Tryd.prog laidL6 w) ∧ sizedMet enc Tryd.prog Tryd.f6 (OpenSpec.ofChange Rows.coreBuiltSpec) false w args)
      (Rows.coreBuiltSpec.post enc Tryd.prog Tryd.f6 false true false false) := by
  refine returnsInHanded_of_change_and (C := Tryd.checked) (X := fun w _ => laidMetH Tryd.prog laidL6 w) (fun _ _ _ hh h => h.of_heap hh) own_ started (by kernel_rfl) Tryd.func6
    (ChangeSpec.witness_shaped (enc := enc) (C := Tryd.checked) (os := os) (X := fun w _ => laidMetH Tryd.prog laidL6 w) false (World.doorLaid Tryd.prog 400 os) #[.agg #[.int .i64 0, .int .i64 0, .string ⟨#[]⟩, .slice none 0 0], .agg #[.int .i64 0, .int .i64 0, .string ⟨#[]⟩, .slice none 0 0], .agg #[.int .i64 0, .int .i64 0]] 8 rfl (World.shaped_of_RefB (by kernel_rfl) (by kernel_rfl)) (by kernel_rfl) (by kernel_rfl) (by kernel_rfl) (door_met6 os _)) ?_
  intro W base args ds gs before hval0 hW _ hz0 hL _
  have hval : ∀ (j : Nat) t v, Tryd.f6.params[j]? = some t → args[j]? = some v → Value.okWide Tryd.prog W .any base t v := hval0
  have hW' := hW
  obtain ⟨p, q, hA0, hV, rfl, hfz, hnd⟩ := hW
  have hA : DataW.TrodAll enc Tryd.prog W 0 (fun _ => true) true Tryd.f6.params.toList args.toList ds p := hA0
  have hz : (DataW.weightsEach Tryd.prog (Tryd.f6.params.toList ++ Rows.coreBuiltSpec.plain.varTypes Tryd.prog) (ds ++ gs)).all (· ≤ reachBytes) = true := hz0
  rw [Tryd.params6] at hA hval hz
  obtain ⟨v0, v1, v2, d0, d1, d2, p0, p1, p2, rfl, rfl, rfl, h0, h1, h2⟩ := trodAll_three hA
  obtain ⟨rfl, rfl⟩ := trodVars_none hV
  have hw0 : ∀ k ∈ DataW.weights Tryd.prog 24 d0, k ≤ reachBytes := fun k hk => by
    have := List.all_eq_true.1 hz k (by simp [DataW.weightsEach, hk])
    simpa using this
  obtain ⟨t0, A0, c0, e0, hT0, _⟩ := term_arg (hval 0 24 v0 rfl rfl) h0 hw0
  have hw1 : ∀ k ∈ DataW.weights Tryd.prog 24 d1, k ≤ reachBytes := fun k hk => by
    have := List.all_eq_true.1 hz k (by simp [DataW.weightsEach, hk])
    simpa using this
  obtain ⟨t1, A1, c1, e1, hT1, _⟩ := term_arg (hval 1 24 v1 rfl rfl) h1 hw1
  obtain ⟨x2, y2, e2, _, q2⟩ := pair_arg (hval 2 32 v2 rfl rfl) h2
  have hS := tabs6_of_laid hL
  clear hA0 hval0 hz0 hz
  simp only [List.append_nil] at hW'
  have hlt := hW'.lt
  subst e0 e1 e2
  refine ((fun t0 A0 c0 t1 A1 c1 (x2 y2 : Int) W h0 h1 (q2 : -9223372036854775808 ≤ y2 ∧ y2 ≤ 9223372036854775807) hg => built6_any t0 t1 A0 A1 c0 c1 x2 y2 W h0 h1 hg q2.1 q2.2) t0 A0 c0 t1 A1 c1 x2 y2 W hT0 hT1 q2 hS).mono fun e W' ⟨he, hb⟩ => ?_
  subst he
  exact ⟨_, rfl, post6_left hW' (fun _ _ _ => trodAll_mk1 (shut_bool Tryd.underlying4 _)) (fun sp hs => by have h9 := trodAll_mk3 (term_again h0 hb (fun x hx => hlt x ((fun y => by simp [y]) hx)) (fun x hx => hs x ((fun y => by simp [y]) hx))) (term_again h1 hb (fun x hx => hlt x ((fun y => by simp [y]) hx)) (fun x hx => hs x ((fun y => by simp [y]) hx))) (pair_again h2 hb (fun x hx => hlt x ((fun y => by simp [y]) hx)) (fun x hx => hs x ((fun y => by simp [y]) hx))); rw [← List.append_assoc] at h9; exact h9) (fun _ => rfl) hb (ok_one (by kernel_rfl) rfl (okWide_bool_mk Tryd.underlying4 _))⟩
end Lx
theorem coreBuilt_holds : Rows.CoreBuiltSaid :=
  OpenClaim.holds_of_wide 6 Tryd.f6 rfl rfl rfl rfl rfl rfl rfl ⟨rfl, rfl, rfl, rfl, rfl⟩ rfl rfl rfl rfl rfl (by kernel_rfl) Tryd.func6 (by kernel_rfl)
    (of_decide_eq_true (by kernel_rfl)) (by unfold Func.isWrapper; rw [if_neg (of_decide_eq_false (by kernel_rfl))]; exact ⟨rfl, rfl⟩)
    (fun os started H enc _ => Lx.coreBuilt_lifted os started H enc)

theorem coreBuilt_card_holds : Rows.CoreBuiltCardSaid :=
  Claim7.holds_tied_plain_at .later [] [.data, .data, .data, .data] true (true, "da445eae54ff76443c9f03af430fc7cf0c245840d7fcc6f960f03eb23feaf442") true
    coreBuilt_holds (fun _ h => by cases h) (by kernel_rfl) (fun _ h => by cases h) coreBuilt_row_tie rfl ⟨rfl, rfl⟩ (by kernel_rfl) rfl
    (fun f fn hf hfn => by
      obtain rfl : f = 6 := Option.some.inj ((show Tryd.prog.funcNamed "gossamer/gossamerlaw06.CoreBuilt" = some 6 by kernel_rfl).symm.trans hf) |>.symm
      obtain rfl : fn = Tryd.f6 := (Option.some.inj (Tryd.func6.symm.trans hfn)).symm
      exact ⟨by kernel_rfl, fun j t ht => by
        rw [Tryd.params6] at ht
        have hm : t ∈ [24, 24, 32] := by simpa using Array.mem_of_getElem? ht
        have hall : ([24, 24, 32].all fun u => !Tryd.prog.wantsStandIn u) = true := by kernel_rfl
        exact (show Tryd.prog.wantsStandIn t = false by simpa using List.all_eq_true.1 hall t hm)⟩)
    (by kernel_rfl)
#print axioms coreBuilt_card_holds
end Go.Proofs.YteagbndjoklogaaDoor
