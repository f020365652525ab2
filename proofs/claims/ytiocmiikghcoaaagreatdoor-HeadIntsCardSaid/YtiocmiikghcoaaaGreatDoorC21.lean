/-
  As C19, what the row asks alone: SuRows ShelfB Bld Fixed RowsUp.
-/
import Derived.Test.YtiocmiikghcoaaaGreatDoorC12
import Derived.Test.YtiocmiikghcoaaaGreatDoorRows
import Derived.Test.YtiocmiikghcoaaaGreatDoorProg
import Derived.Test.YtiocmiikghcoaaaGreatDoorC2
import Derived.Test.YtiocmiikghcoaaaGreatDoorC1
import Derived.Test.YtiocmiikghcoaaaGreatDoorC3
import Derived.Test.YtiocmiikghcoaaaGreatDoorTie
import Derived.Test.YtiocmiikghcoaaaGreatDoorCards
import Derived.ProofKit
import Derived.OpenShut
import Derived.ChangeArms
import Derived.Carry
import Derived.WideKeyArgs
import Derived.SizedLaws
import Derived.LaidMore
import Derived.Stop.Joined
import Derived.SevenTiedAt
namespace Go.Proofs.YtiocmiikghcoaaaGreatDoor
open Go.ChangeShapes Go.WideShapes Go.ChangeAt Go.RowKit
namespace Lx
set_option maxRecDepth 100000
section
variable {H : Type} {enc : TypeId × Value → H}
theorem wf6S {n : Int} (h : (Lit.int .i64 n).wf = true) : -9223372036854775808 ≤ n ∧ n ≤ 9223372036854775807 := by
 simp [Lit.wf, IntKind.min, IntKind.max, IntKind.signed, IntKind.bits] at h
 omega
end
theorem own_ : ownKnob Tryz.prog.godebug = none := by kernel_rfl
theorem gSigns : Tryz.prog.globalNamed "gossamer/lex.signs" = some 0 := by kernel_rfl
theorem tSigns : (Tryz.prog.globals[0]?).map (·.type) = some 136 := by kernel_rfl
abbrev laidL : List (String × DataW Unit) := [("gossamer/lex.signs", Rows.laid_gossamer_lex_signs)]

theorem door_met (os : Os) (args : Array Value) : laidMetH Tryz.prog laidL ((World.doorLaid Tryz.prog 400 os).forCall (fun _ _ => 0) ⟨#[], args, []⟩).memory :=
 laidMetH_of_parts3 (fuel := 20) (laidMet_of_run' 20 (by kernel_rfl) (by kernel_rfl)) (by kernel_rfl) (by kernel_rfl)

theorem signs_of_laid {W : World} (h : laidMetH Tryz.prog laidL W) : Signs W := by
 rw [MakeChecks.laidMetH_plain _ _ _ (by kernel_rfl)] at h
 obtain ⟨ps, ⟨g0, t0, cs0, f0, p0, q0, hg0, ht0, hv0, hd0, _, _⟩, _, _⟩ := h
 obtain rfl := Option.some.inj (gSigns.symm.trans hg0)
 obtain rfl := Option.some.inj (tSigns.symm.trans ht0)
 obtain ⟨xs, m, rfl, hx, hlen, hn, hel⟩ := DataW.trod_array Tryz.underlying136 hd0
 have c9 : Tryz.prog.cellsOf 9 = 1 := by kernel_rfl
 have c61 : Tryz.prog.cellsOf 136 = 15 := by kernel_rfl
 rw [c61] at hlen
 simp only [Prod.mk.injEq] at hx
 have hl : xs.map (·.1) = signsS.map (fun g => DataW.lit (.string g)) := by
  have h1 := hx.1
  have h2 : (Rows.laid_gossamer_lex_signs : DataW Unit) = .agg (signsS.map (fun g => DataW.lit (.string g))) := rfl
  rw [h2] at h1
  injection h1 with h1
  exact h1.symm
 have hcs : cs0.toList = signsS.map (fun g => Value.string ⟨g.toArray⟩) := by
  apply List.ext_getElem?
  intro i
  by_cases hi : i < 15
  ·have he := hel i hi
   rw [c9, Nat.mul_one] at he
   have hxl : i < xs.length := by omega
   rw [List.getElem?_eq_getElem hxl] at he
   obtain ⟨s, e1, e2, _⟩ := DataW.trod_string Tryz.underlying9 he
   have hm : (xs.map (·.1))[i]? = some (xs[i]'hxl).1 := by rw [List.getElem?_map, List.getElem?_eq_getElem hxl]; rfl
   rw [hl, e2, List.getElem?_map] at hm
   have hc : cs0.toList[i]? = some (.string s) := by
    have := congrArg (fun l : List Value => l[0]?) e1
    simpa using this
   rw [hc, List.getElem?_map]
   cases hq : signsS[i]? with
   | none => rw [hq] at hm; cases hm
   | some g =>
    rw [hq] at hm
    simp only [Option.map_some, Option.some.injEq, DataW.lit.injEq, Lit.string.injEq] at hm
    simp only [Option.map_some]
    rw [hm, toBytes]
  ·rw [List.getElem?_eq_none (by omega), List.getElem?_eq_none (by have h15 : (signsS.map (fun g => Value.string ⟨g.toArray⟩)).length = 15 := rfl; omega)]
 have hcs2 : cs0 = signCells := by
  apply Array.ext'
  rw [hcs]
  rfl
 simp only [World.var?, gSigns, Option.bind_some] at hv0
 split at hv0
 ·rename_i cs t fr hh
  obtain rfl := Option.some.inj hv0
  rw [hcs2] at hh
  exact ⟨t, fr, hh⟩
 ·cases hv0

section
variable {H : Type} {enc : TypeId × Value → H} {P : Program}
theorem post_plain {f : Func} {s : ChangeSpec} {apart fresh handsOn again : Bool} {W W' : World} {args : Array Value} {v : Value} {ds gs : List (DataW H)}
  (hW : DataW.Whole enc P f.params.toList s.vars apart W args.toList ds gs [])
  (hres : ∀ (b : Nat) (sp : Nat → Bool) (hd : Bool), DataW.TrodAll enc P W' b sp hd f.resultTypes.toList (v.resultList f.resultTypes.size) (s.fn H (ds ++ gs)).results [])
  (hargs : ∀ sp : Nat → Bool, DataW.TrodAll enc P W' 0 sp true f.params.toList args.toList (s.fn H (ds ++ gs)).args [])
  (hvars : ∀ sp : Nat → Bool, DataW.TrodVars enc P W' sp s.vars (s.fn H (ds ++ gs)).vars [])
  (hb : Below W.heap.size W W')
  (hok : ∀ (j : Nat) (t : TypeId) (r : Value), f.resultTypes[j]? = some t → (v.resultList f.resultTypes.size)[j]? = some r → Value.okWide P W' .any 0 t r) :
  s.post enc P f apart fresh handsOn again W args v W' := by
 refine ⟨ds, gs, [], [], [], [], hW, hres _ _ _, hargs _, hvars _, World.keptBut_mono (fun p hp => absurd hp (by simp)) (hb.frame (· ∈ ([] : List MemPlace))), fun _ => ?_⟩
 exact ⟨hok, _, _, ([] ++ []) ++ [], ⟨[] ++ [], [], trodAll_append (hargs _) (hres _ _ _), hvars _, rfl, fun b off hp => by simp at hp, fun _ => by simp⟩, fun p hp => by simp at hp⟩
end
end Lx
end Go.Proofs.YtiocmiikghcoaaaGreatDoor

