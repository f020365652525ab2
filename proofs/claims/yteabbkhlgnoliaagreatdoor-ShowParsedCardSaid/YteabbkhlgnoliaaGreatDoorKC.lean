/-
  Texts that lie one behind the other: RowsUp4.
-/
import Derived.Test.YteabbkhlgnoliaaGreatDoorK7
import Derived.Test.YteabbkhlgnoliaaGreatDoorKB
import Derived.LaidSub
import Derived.Lib.LaidTab
namespace Go.Proofs.YteabbkhlgnoliaaGreatDoor
open Go.ChangeShapes Go.WideShapes Go.ChangeAt Go.RowKit
namespace Lx
set_option maxRecDepth 100000
abbrev laidL4 : List (String × DataW Unit) := [("math/bits.deBruijn32tab", Rows.laid_math_bits_deBruijn32tab), ("math/bits.deBruijn64tab", Rows.laid_math_bits_deBruijn64tab), ("internal/strconv.uint64pow10", Rows.laid_internal_strconv_uint64pow10), ("gossamer/lex.signs", Rows.laid_gossamer_lex_signs)]
theorem gPow : Tryz.prog.globalNamed "internal/strconv.uint64pow10" = some 1 := by kernel_rfl
theorem tPow : (Tryz.prog.globals[1]?).map (·.type) = some 190 := by kernel_rfl
theorem uPow : Tryz.prog.underlying 190 = some (.array 20 160) := by kernel_rfl
theorem uU64 : Tryz.prog.underlying 160 = some (.int .u64) := by kernel_rfl
theorem cU64 : Tryz.prog.cellsOf 160 = 1 := by kernel_rfl
theorem cPow : Tryz.prog.cellsOf 190 = 20 := by kernel_rfl
theorem dPow : (Rows.laid_internal_strconv_uint64pow10 : DataW Unit) = Lib.tabData .u64 Lib.pow10Tab := by kernel_rfl
theorem door_met4 (os : Os) (args : Array Value) : laidMetH Tryz.prog laidL4 ((World.doorLaid Tryz.prog 400 os).forCall (fun _ _ => 0) ⟨#[], args, []⟩).memory :=
  laidMetH_of_parts3 (fuel := 20) (laidMet_of_run' 20 (by kernel_rfl) (by kernel_rfl)) (by kernel_rfl) (by kernel_rfl)
theorem tabs_of_laid {W : World} (h : laidMetH Tryz.prog laidL4 W) : Tabs W := by
  have h1 : laidMetH Tryz.prog laidL W := h.filter fun x => x.1 == "gossamer/lex.signs"
  have h2 : laidMetH Tryz.prog [("internal/strconv.uint64pow10", (Rows.laid_internal_strconv_uint64pow10 : DataW Unit))] W := h.filter fun x => x.1 == "internal/strconv.uint64pow10"
  rw [MakeChecks.laidMetH_plain _ _ _ (by kernel_rfl), dPow] at h2
  exact ⟨signs_of_laid h1, Lib.tabIs_of_head gPow tPow uPow uU64 cU64 cPow h2⟩
end Lx
end Go.Proofs.YteabbkhlgnoliaaGreatDoor
