/-
  NARROWER THAN 'FOR EVERY INPUT', by the rows' own cells (each row's printed sentence says how): HeadTells: loops, laid · HeadRuns: loops, laid · HeadFuel: loops, laid · HeadLazy: loops, laid · HeadApps: loops, laid · HeadInts: laid.
  DERIVED. THE GIVEN ROWS OF THIS SEAT. 6 by the template 'for every input the law returns true; each argument reads behind the call as it read before'; 0 by the template 'total and deterministic' (their statements: YtiocmiikghcoaaaGreatDoorTotals.lean).
  GIVEN WITH THE SEED: the statements are not yours to turn. If you find one false, say at which input.
  Laid BY PROGRAM, IN A SANDBOX (cutbox-rows.mjs): the forced cells as the released guide's own fill.sh prints them over the translation 3b1512a4854cbef4… (all of the seat's roots in one cut). By AI agents, Wed Nov 11 2026. No macro, syntax, notation, axiom, sorry.
-/
import Derived.Test.YtiocmiikghcoaaaGreatDoorChecked
import GoSem.Claim
import GoSem.ClaimJoined
import GoSem.ClaimMapViews
import Derived.JoinedTies
import Derived.KernelRfl
namespace Go.Proofs.YtiocmiikghcoaaaGreatDoor
/- THE CELL 'sum', in the pinned program and in every row, IS THE sha256 OF THE DUMP (.gsa) THAT YtiocmiikghcoaaaGreatDoorProg.lean LOADS. Nothing in Lean hashes anything: it is a label: what it is worth is what the hold of that sum in a sandbox is worth. -/
noncomputable def Tryz.pinned : Pinned := { name := "ytiocmiikghcoaaagreatdoor", sum := "3b1512a4854cbef44047f1e3cf46fbcb90f2369238cb013215ce1af31069f99b", checked := Tryz.checked }
namespace Rows
def none {H : Type} : Left H := { results := [], args := [] }

/- WHAT THE LISTED PACKAGE-LEVEL VARIABLES READ AS WHEN THE CALL BEGINS. Each datum BY PROGRAM (the guide's laid-datum.mjs) off the statement by which the dump's own 'gosem.cut.vars' lays the variable. In a bare row this is a premise. The card (YtiocmiikghcoaaaGreatDoorCards.lean) ties it to the program's text. -/
def laid_gossamer_lex_signs {H : Type} : DataW H := .agg [.lit (.string [45, 62]), .lit (.string [61, 61]), .lit (.string [92]), .lit (.string [46]), .lit (.string [40]), .lit (.string [41]), .lit (.string [61]), .lit (.string [123]), .lit (.string [125]), .lit (.string [124]), .lit (.string [43]), .lit (.string [45]), .lit (.string [42]), .lit (.string [47]), .lit (.string [60])]

/-- 'gossamerlaw09.HeadTells': WHATEVER THE INPUT: true; the input reads as it did. -/
def headTellsSpec : ChangeSpec := { name := "headTells", fn := fun _ => fun
  | [d1, d2] => { results := [.lit (.bool true)], args := [d1, d2] }
  | _ => none }
def headTellsRow : OpenClaim := { program := "ytiocmiikghcoaaagreatdoor", sum := "3b1512a4854cbef44047f1e3cf46fbcb90f2369238cb013215ce1af31069f99b", func := "gossamer/gossamerlaw09.HeadTells", spec := "headTells", unfollowed := true, recurses := true, named := ["gossamer/lex.signs"], loops := true, apart := false, laid := [("gossamer/lex.signs", laid_gossamer_lex_signs)] }
def HeadTellsSaid : Prop := headTellsRow.holds Tryz.pinned (OpenSpec.ofChange headTellsSpec)

/-- ITS FALSE NEIGHBOUR: 'it returns false'. Refute it at one input. -/
def headTellsWrong : ChangeSpec := { name := "headTells", fn := fun _ => fun
  | [d1, d2] => { results := [.lit (.bool false)], args := [d1, d2] }
  | _ => none }
def HeadTellsWrongFalsely : Prop := headTellsRow.holds Tryz.pinned (OpenSpec.ofChange headTellsWrong)

/-- 'gossamerlaw09.HeadRuns': WHATEVER THE INPUT: true; the input reads as it did. -/
def headRunsSpec : ChangeSpec := { name := "headRuns", fn := fun _ => fun
  | [d1, d2] => { results := [.lit (.bool true)], args := [d1, d2] }
  | _ => none }
def headRunsRow : OpenClaim := { program := "ytiocmiikghcoaaagreatdoor", sum := "3b1512a4854cbef44047f1e3cf46fbcb90f2369238cb013215ce1af31069f99b", func := "gossamer/gossamerlaw09.HeadRuns", spec := "headRuns", unfollowed := true, recurses := true, named := ["gossamer/lex.signs"], loops := true, apart := false, laid := [("gossamer/lex.signs", laid_gossamer_lex_signs)] }
def HeadRunsSaid : Prop := headRunsRow.holds Tryz.pinned (OpenSpec.ofChange headRunsSpec)

/-- ITS FALSE NEIGHBOUR: 'it returns false'. Refute it at one input. -/
def headRunsWrong : ChangeSpec := { name := "headRuns", fn := fun _ => fun
  | [d1, d2] => { results := [.lit (.bool false)], args := [d1, d2] }
  | _ => none }
def HeadRunsWrongFalsely : Prop := headRunsRow.holds Tryz.pinned (OpenSpec.ofChange headRunsWrong)

/-- 'gossamerlaw09.HeadFuel': WHATEVER THE INPUT: true; the input reads as it did. -/
def headFuelSpec : ChangeSpec := { name := "headFuel", fn := fun _ => fun
  | [d1, d2] => { results := [.lit (.bool true)], args := [d1, d2] }
  | _ => none }
def headFuelRow : OpenClaim := { program := "ytiocmiikghcoaaagreatdoor", sum := "3b1512a4854cbef44047f1e3cf46fbcb90f2369238cb013215ce1af31069f99b", func := "gossamer/gossamerlaw09.HeadFuel", spec := "headFuel", unfollowed := true, recurses := true, named := ["gossamer/lex.signs"], loops := true, apart := false, laid := [("gossamer/lex.signs", laid_gossamer_lex_signs)] }
def HeadFuelSaid : Prop := headFuelRow.holds Tryz.pinned (OpenSpec.ofChange headFuelSpec)

/-- ITS FALSE NEIGHBOUR: 'it returns false'. Refute it at one input. -/
def headFuelWrong : ChangeSpec := { name := "headFuel", fn := fun _ => fun
  | [d1, d2] => { results := [.lit (.bool false)], args := [d1, d2] }
  | _ => none }
def HeadFuelWrongFalsely : Prop := headFuelRow.holds Tryz.pinned (OpenSpec.ofChange headFuelWrong)

/-- 'gossamerlaw09.HeadLazy': WHATEVER THE INPUT: true; the input reads as it did. -/
def headLazySpec : ChangeSpec := { name := "headLazy", fn := fun _ => fun
  | [d1, d2] => { results := [.lit (.bool true)], args := [d1, d2] }
  | _ => none }
def headLazyRow : OpenClaim := { program := "ytiocmiikghcoaaagreatdoor", sum := "3b1512a4854cbef44047f1e3cf46fbcb90f2369238cb013215ce1af31069f99b", func := "gossamer/gossamerlaw09.HeadLazy", spec := "headLazy", unfollowed := true, recurses := true, named := ["gossamer/lex.signs"], loops := true, apart := false, laid := [("gossamer/lex.signs", laid_gossamer_lex_signs)] }
def HeadLazySaid : Prop := headLazyRow.holds Tryz.pinned (OpenSpec.ofChange headLazySpec)

/-- ITS FALSE NEIGHBOUR: 'it returns false'. Refute it at one input. -/
def headLazyWrong : ChangeSpec := { name := "headLazy", fn := fun _ => fun
  | [d1, d2] => { results := [.lit (.bool false)], args := [d1, d2] }
  | _ => none }
def HeadLazyWrongFalsely : Prop := headLazyRow.holds Tryz.pinned (OpenSpec.ofChange headLazyWrong)

/-- 'gossamerlaw09.HeadApps': WHATEVER THE INPUT: true; the input reads as it did. -/
def headAppsSpec : ChangeSpec := { name := "headApps", fn := fun _ => fun
  | [d1, d2] => { results := [.lit (.bool true)], args := [d1, d2] }
  | _ => none }
def headAppsRow : OpenClaim := { program := "ytiocmiikghcoaaagreatdoor", sum := "3b1512a4854cbef44047f1e3cf46fbcb90f2369238cb013215ce1af31069f99b", func := "gossamer/gossamerlaw09.HeadApps", spec := "headApps", unfollowed := true, recurses := true, named := ["gossamer/lex.signs"], loops := true, apart := false, laid := [("gossamer/lex.signs", laid_gossamer_lex_signs)] }
def HeadAppsSaid : Prop := headAppsRow.holds Tryz.pinned (OpenSpec.ofChange headAppsSpec)

/-- ITS FALSE NEIGHBOUR: 'it returns false'. Refute it at one input. -/
def headAppsWrong : ChangeSpec := { name := "headApps", fn := fun _ => fun
  | [d1, d2] => { results := [.lit (.bool false)], args := [d1, d2] }
  | _ => none }
def HeadAppsWrongFalsely : Prop := headAppsRow.holds Tryz.pinned (OpenSpec.ofChange headAppsWrong)

/-- 'gossamerlaw09.HeadInts': WHATEVER THE INPUT: true; the input reads as it did. -/
def headIntsSpec : ChangeSpec := { name := "headInts", fn := fun _ => fun
  | [d1, d2] => { results := [.lit (.bool true)], args := [d1, d2] }
  | _ => none }
def headIntsRow : OpenClaim := { program := "ytiocmiikghcoaaagreatdoor", sum := "3b1512a4854cbef44047f1e3cf46fbcb90f2369238cb013215ce1af31069f99b", func := "gossamer/gossamerlaw09.HeadInts", spec := "headInts", unfollowed := true, recurses := true, named := ["gossamer/lex.signs"], apart := false, laid := [("gossamer/lex.signs", laid_gossamer_lex_signs)] }
def HeadIntsSaid : Prop := headIntsRow.holds Tryz.pinned (OpenSpec.ofChange headIntsSpec)

/-- ITS FALSE NEIGHBOUR: 'it returns false'. Refute it at one input. -/
def headIntsWrong : ChangeSpec := { name := "headInts", fn := fun _ => fun
  | [d1, d2] => { results := [.lit (.bool false)], args := [d1, d2] }
  | _ => none }
def HeadIntsWrongFalsely : Prop := headIntsRow.holds Tryz.pinned (OpenSpec.ofChange headIntsWrong)

/- THE SECOND FORM. 'bulk': how many values and letters a reading holds, each counted each time it is reached (what is shared counts as often as it is met; a slice's spare places count too). A statement '..UptoSaid' is the law's where the arguments, and the package variables that the reading takes, are together of bulk at most 1048576: NARROWER than '..Said'. Prove '..Said' where nothing that the law and all that it calls make is longer than what came in: it says more and counts as full. Else prove '..UptoSaid'. A law counts once. -/
mutual
def uptoBulk {H : Type} : DataW H → Nat
  | .lit (.string bytes) => bytes.length + 1
  | .lit _ => 1
  | .nil => 1
  | .ptr d => uptoBulk d + 1
  | .slice elems spare => uptoBulkAll elems + uptoBulkAll spare + 1
  | .agg parts => uptoBulkAll parts + 1
  | .iface _ d => uptoBulk d + 1
  | .map entries => uptoBulkEntries entries + 1
  | .held _ => 1
def uptoBulkAll {H : Type} : List (DataW H) → Nat
  | [] => 0
  | d :: r => uptoBulk d + uptoBulkAll r
def uptoBulkEntries {H : Type} : List (Lit × DataW H) → Nat
  | [] => 0
  | x :: r => uptoBulkEntry x + uptoBulkEntries r
def uptoBulkEntry {H : Type} : Lit × DataW H → Nat
  | (.string bytes, d) => bytes.length + uptoBulk d + 1
  | (_, d) => uptoBulk d + 1
 end
def uptoSmall : (H : Type) → List (DataW H) → Bool := fun _ ds => decide (uptoBulkAll ds ≤ 1048576)
def OpenSpec.upto (s : _root_.Go.ChangeSpec) : _root_.Go.OpenSpec := { _root_.Go.OpenSpec.ofChange s with cond := some uptoSmall }

/-- 'gossamerlaw09.HeadTells', WHERE WHAT IT READS IS OF BULK AT MOST 1048576: true; the input reads as it did. -/
def headTellsUptoRow : OpenClaim := { program := "ytiocmiikghcoaaagreatdoor", sum := "3b1512a4854cbef44047f1e3cf46fbcb90f2369238cb013215ce1af31069f99b", func := "gossamer/gossamerlaw09.HeadTells", spec := "headTells", unfollowed := true, recurses := true, named := ["gossamer/lex.signs"], loops := true, apart := false, laid := [("gossamer/lex.signs", laid_gossamer_lex_signs)], narrowed := true }
def HeadTellsUptoSaid : Prop := headTellsUptoRow.holds Tryz.pinned (OpenSpec.upto headTellsSpec)

/-- 'gossamerlaw09.HeadRuns', WHERE WHAT IT READS IS OF BULK AT MOST 1048576: true; the input reads as it did. -/
def headRunsUptoRow : OpenClaim := { program := "ytiocmiikghcoaaagreatdoor", sum := "3b1512a4854cbef44047f1e3cf46fbcb90f2369238cb013215ce1af31069f99b", func := "gossamer/gossamerlaw09.HeadRuns", spec := "headRuns", unfollowed := true, recurses := true, named := ["gossamer/lex.signs"], loops := true, apart := false, laid := [("gossamer/lex.signs", laid_gossamer_lex_signs)], narrowed := true }
def HeadRunsUptoSaid : Prop := headRunsUptoRow.holds Tryz.pinned (OpenSpec.upto headRunsSpec)

/-- 'gossamerlaw09.HeadFuel', WHERE WHAT IT READS IS OF BULK AT MOST 1048576: true; the input reads as it did. -/
def headFuelUptoRow : OpenClaim := { program := "ytiocmiikghcoaaagreatdoor", sum := "3b1512a4854cbef44047f1e3cf46fbcb90f2369238cb013215ce1af31069f99b", func := "gossamer/gossamerlaw09.HeadFuel", spec := "headFuel", unfollowed := true, recurses := true, named := ["gossamer/lex.signs"], loops := true, apart := false, laid := [("gossamer/lex.signs", laid_gossamer_lex_signs)], narrowed := true }
def HeadFuelUptoSaid : Prop := headFuelUptoRow.holds Tryz.pinned (OpenSpec.upto headFuelSpec)

/-- 'gossamerlaw09.HeadLazy', WHERE WHAT IT READS IS OF BULK AT MOST 1048576: true; the input reads as it did. -/
def headLazyUptoRow : OpenClaim := { program := "ytiocmiikghcoaaagreatdoor", sum := "3b1512a4854cbef44047f1e3cf46fbcb90f2369238cb013215ce1af31069f99b", func := "gossamer/gossamerlaw09.HeadLazy", spec := "headLazy", unfollowed := true, recurses := true, named := ["gossamer/lex.signs"], loops := true, apart := false, laid := [("gossamer/lex.signs", laid_gossamer_lex_signs)], narrowed := true }
def HeadLazyUptoSaid : Prop := headLazyUptoRow.holds Tryz.pinned (OpenSpec.upto headLazySpec)

/-- 'gossamerlaw09.HeadApps', WHERE WHAT IT READS IS OF BULK AT MOST 1048576: true; the input reads as it did. -/
def headAppsUptoRow : OpenClaim := { program := "ytiocmiikghcoaaagreatdoor", sum := "3b1512a4854cbef44047f1e3cf46fbcb90f2369238cb013215ce1af31069f99b", func := "gossamer/gossamerlaw09.HeadApps", spec := "headApps", unfollowed := true, recurses := true, named := ["gossamer/lex.signs"], loops := true, apart := false, laid := [("gossamer/lex.signs", laid_gossamer_lex_signs)], narrowed := true }
def HeadAppsUptoSaid : Prop := headAppsUptoRow.holds Tryz.pinned (OpenSpec.upto headAppsSpec)

/-- 'gossamerlaw09.HeadInts', WHERE WHAT IT READS IS OF BULK AT MOST 1048576: true; the input reads as it did. -/
def headIntsUptoRow : OpenClaim := { program := "ytiocmiikghcoaaagreatdoor", sum := "3b1512a4854cbef44047f1e3cf46fbcb90f2369238cb013215ce1af31069f99b", func := "gossamer/gossamerlaw09.HeadInts", spec := "headInts", unfollowed := true, recurses := true, named := ["gossamer/lex.signs"], apart := false, laid := [("gossamer/lex.signs", laid_gossamer_lex_signs)], narrowed := true }
def HeadIntsUptoSaid : Prop := headIntsUptoRow.holds Tryz.pinned (OpenSpec.upto headIntsSpec)

end Rows
end Go.Proofs.YtiocmiikghcoaaaGreatDoor
