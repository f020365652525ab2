/-
  PROVED: the law CoreSame answers true for every three terms, and leaves them as they were, CONDITIONS: the three terms are together of bulk at most 1048576 (the second form's bound); four tables (the package-level variables signs of package lex, uint64pow10 of internal/strconv, deBruijn32tab and deBruijn64tab of math/bits) start as the program's text lays them (the card ties them); no other.
-/
import Derived.Test.YteagbndjoklogaaDoorKK
import Derived.Test.YteagbndjoklogaaDoorLawSame6
namespace Go.Proofs.YteagbndjoklogaaDoor
open Go.ChangeShapes Go.WideShapes Go.ChangeAt Go.RowKit
namespace Lx
set_option maxRecDepth 100000
theorem coreSame_contract (H : Type) (enc : TypeId × Value → H) (W : World) (base : Nat) (args : Array Value) (ds gs : List (DataW H)) (before : List MemPlace)
    (hval : ∀ (j : Nat) t v, Tryd.f4.params[j]? = some t → args[j]? = some v → Value.okWide Tryd.prog W .any base t v)
    (hW : DataW.Whole enc Tryd.prog Tryd.f4.params.toList Rows.coreSameSpec.vars false W args.toList ds gs before) (hk : Rows.uptoSmall H (ds ++ gs) = true) (hL : laidMetH Tryd.prog laidL6 W) :
    Calls Tryd.prog 4 args W fun e W' => ∃ v, e = .returned v ∧ Rows.coreSameSpec.post enc Tryd.prog Tryd.f4 false true false false W args v W' := by
  have hW' := hW
  obtain ⟨p, q, hA0, hV, rfl, hfz, hnd⟩ := hW
  have hA : DataW.TrodAll enc Tryd.prog W 0 (fun _ => true) true Tryd.f4.params.toList args.toList ds p := hA0
  rw [Tryd.params4] at hA hval
  obtain ⟨v0, v1, v2, d0, d1, d2, p0, p1, p2, rfl, rfl, rfl, h0, h1, h2⟩ := trodAll_three hA
  obtain ⟨rfl, rfl⟩ := trodVars_none hV
  have hb := of_decide_eq_true hk
  simp only [List.append_nil, Rows.uptoBulkAll] at hb
  obtain ⟨t0, A0, c0, e0, hT0, hn0⟩ := term_argB (hval 0 24 v0 rfl rfl) h0 (by omega)
  obtain ⟨t1, A1, c1, e1, hT1, _⟩ := term_argB (hval 1 24 v1 rfl rfl) h1 (by omega)
  obtain ⟨t2, A2, c2, e2, hT2, _⟩ := term_argB (hval 2 24 v2 rfl rfl) h2 (by omega)
  have hS := tabs6_of_laid hL
  have hn : namesE t0 ≤ 1048576 := by omega
  clear hA0 hk hb hn0
  simp only [List.append_nil] at hW'
  have hlt := hW'.lt
  subst e0 e1 e2
  refine (same6_any t0 t1 t2 A0 A1 A2 c0 c1 c2 W hT0 hT1 hT2 hS hn).mono fun e W' ⟨he, hb⟩ => ?_
  subst he
  exact ⟨_, rfl, post6_left hW' (fun _ _ _ => trodAll_mk1 (shut_bool Tryd.underlying4 _)) (fun sp hs => by
    have h9 := trodAll_mk3 (term_again h0 hb (fun x hx => hlt x (by simp [hx])) (fun x hx => hs x (by simp [hx]))) (term_again h1 hb (fun x hx => hlt x (by simp [hx])) (fun x hx => hs x (by simp [hx]))) (term_again h2 hb (fun x hx => hlt x (by simp [hx])) (fun x hx => hs x (by simp [hx])))
    rw [← List.append_assoc] at h9
    exact h9) (fun _ => rfl) hb (ok_one (by kernel_rfl) rfl (okWide_bool_mk Tryd.underlying4 _))⟩
theorem coreSameUpto_lifted (os : Os) (started : os.Started) (H : Type) (enc : TypeId × Value → H) (F : Stop.Interp) :
    ReturnsInHanded {} Tryd.checked os 4 .any ((Rows.OpenSpec.upto Rows.coreSameSpec).preRow enc Tryd.prog Tryd.f4 Rows.coreSameUptoRow.domain false Rows.coreSameUptoRow.laid) (((Rows.OpenSpec.upto Rows.coreSameSpec).at F).post enc Tryd.prog Tryd.f4 false true false false) := by
  refine returnsInHanded_of_row (C := Tryd.checked) (s := Rows.OpenSpec.upto Rows.coreSameSpec) own_ started (by kernel_rfl) Tryd.func4
    (witness_row_atRef (enc := enc) (C := Tryd.checked) false (World.doorLaid Tryd.prog 400 os) #[.agg #[.int .i64 0, .int .i64 0, .string ⟨#[]⟩, .slice none 0 0], .agg #[.int .i64 0, .int .i64 0, .string ⟨#[]⟩, .slice none 0 0], .agg #[.int .i64 0, .int .i64 0, .string ⟨#[]⟩, .slice none 0 0]] rfl (by kernel_rfl) (by kernel_rfl) (by kernel_rfl)
      (OpenSpec.preRow_of_cond (x := ([.agg [.lit (.int .i64 0), .lit (.int .i64 0), .lit (.string []), .nil], .agg [.lit (.int .i64 0), .lit (.int .i64 0), .lit (.string []), .nil], .agg [.lit (.int .i64 0), .lit (.int .i64 0), .lit (.string []), .nil]], [], [])) 8 (by kernel_rfl) (by kernel_rfl) (fun k hk => by cases hk; kernel_rfl) (by kernel_rfl) (door_met6 os _))) ?_
  intro W base args ds gs before hval hW _ hcond _ hL _ _
  exact coreSame_contract H enc W base args ds gs before hval hW (hcond _ rfl) hL
end Lx
theorem coreSameUpto_holds : Rows.CoreSameUptoSaid :=
  OpenClaim.holds_of_cond 4 Tryd.f4 rfl rfl rfl rfl rfl rfl rfl ⟨rfl, rfl, rfl, rfl, rfl⟩ rfl rfl rfl rfl rfl (by kernel_rfl) Tryd.func4 (by kernel_rfl)
    (of_decide_eq_true (by kernel_rfl)) (by unfold Func.isWrapper; rw [if_neg (of_decide_eq_false (by kernel_rfl))]; exact ⟨rfl, rfl⟩)
    (fun os started H enc _ F => by rw [OpenClaim.pre_eq_preRow]; exact Lx.coreSameUpto_lifted os started H enc F)

theorem coreSameUpto_card_holds : Rows.CoreSameUptoCardSaid :=
  Claim7.holds_tied_plain_at .later [] _ _ _ _
    coreSameUpto_holds (fun _ h => by cases h) (by kernel_rfl) (fun _ h => by cases h) coreSameUpto_row_tie rfl ⟨rfl, rfl⟩ (by kernel_rfl) rfl
    (fun f fn hf hfn => by
      obtain rfl : f = 4 := Option.some.inj ((show Tryd.prog.funcNamed "gossamer/gossamerlaw06.CoreSame" = some 4 by kernel_rfl).symm.trans hf) |>.symm
      obtain rfl : fn = Tryd.f4 := (Option.some.inj (Tryd.func4.symm.trans hfn)).symm
      exact ⟨by kernel_rfl, fun j t ht => by
        rw [Tryd.params4] at ht
        have hm : t ∈ [24, 24, 24] := by simpa using Array.mem_of_getElem? ht
        have hall : ([24, 24, 24].all fun u => !Tryd.prog.wantsStandIn u) = true := by kernel_rfl
        exact (show Tryd.prog.wantsStandIn t = false by simpa using List.all_eq_true.1 hall t hm)⟩)
    (by kernel_rfl)
#print axioms coreSameUpto_card_holds
end Go.Proofs.YteagbndjoklogaaDoor
