/-
  NARROWER THAN 'FOR EVERY INPUT', by the rows' own cells (each row's printed sentence says how): LexTells: laid · LexAgain: laid · LexStands: laid · LexBoth: laid · LexSpaces: laid · LexKinds: laid.
  DERIVED. THE GIVEN ROWS OF THIS SEAT. 6 by the template 'for every input the law returns true; each argument reads behind the call as it read before'; 0 by the template 'total and deterministic' (their statements: YthfchcnmedklbaaDoorTotals.lean).
  GIVEN WITH THE SEED: the statements are not yours to turn. If you find one false, say at which input.
  Laid BY PROGRAM, IN A SANDBOX (cutbox-rows.mjs): the forced cells as the released guide's own fill.sh prints them over the translation fde8eeebf12ce5ea… (all of the seat's roots in one cut). By AI agents, Wed Nov 11 2026. No macro, syntax, notation, axiom, sorry.
-/
import Derived.Test.YthfchcnmedklbaaDoorChecked
import GoSem.Claim
import GoSem.ClaimJoined
import GoSem.ClaimMapViews
import Derived.JoinedTies
import Derived.KernelRfl
namespace Go.Proofs.YthfchcnmedklbaaDoor
/- THE CELL 'sum', in the pinned program and in every row, IS THE sha256 OF THE DUMP (.gsa) THAT YthfchcnmedklbaaDoorProg.lean LOADS. Nothing in Lean hashes anything: it is a label: what it is worth is what the hold of that sum in a sandbox is worth. -/
noncomputable def Tryd.pinned : Pinned := { name := "ythfchcnmedklbaadoor", sum := "fde8eeebf12ce5ea63cd407e3e1683754e9fe14e3b53b06ce6934b1efa830cf3", checked := Tryd.checked }
namespace Rows
def none {H : Type} : Left H := { results := [], args := [] }

/- WHAT THE LISTED PACKAGE-LEVEL VARIABLES READ AS WHEN THE CALL BEGINS. Each datum BY PROGRAM (the guide's laid-datum.mjs) off the statement by which the dump's own 'gosem.cut.vars' lays the variable. In a bare row this is a premise. The card (YthfchcnmedklbaaDoorCards.lean) ties it to the program's text. -/
def laid_gossamer_lex_signs {H : Type} : DataW H := .agg [.lit (.string [45, 62]), .lit (.string [61, 61]), .lit (.string [92]), .lit (.string [46]), .lit (.string [40]), .lit (.string [41]), .lit (.string [61]), .lit (.string [123]), .lit (.string [125]), .lit (.string [124]), .lit (.string [43]), .lit (.string [45]), .lit (.string [42]), .lit (.string [47]), .lit (.string [60])]

/-- 'gossamerlaw01.LexTells': WHATEVER THE INPUT: true; the input reads as it did. -/
def lexTellsSpec : ChangeSpec := { name := "lexTells", fn := fun _ => fun
  | [d1, d2] => { results := [.lit (.bool true)], args := [d1, d2] }
  | _ => none }
def lexTellsRow : OpenClaim := { program := "ythfchcnmedklbaadoor", sum := "fde8eeebf12ce5ea63cd407e3e1683754e9fe14e3b53b06ce6934b1efa830cf3", func := "gossamer/gossamerlaw01.LexTells", spec := "lexTells", inPlace := ["internal/abi.NoEscape"], unfollowed := true, recurses := true, named := ["gossamer/lex.signs"], apart := false, laid := [("gossamer/lex.signs", laid_gossamer_lex_signs)] }
def LexTellsSaid : Prop := lexTellsRow.holds Tryd.pinned (OpenSpec.ofChange lexTellsSpec)

/-- ITS FALSE NEIGHBOUR: 'it returns false'. Refute it at one input. -/
def lexTellsWrong : ChangeSpec := { name := "lexTells", fn := fun _ => fun
  | [d1, d2] => { results := [.lit (.bool false)], args := [d1, d2] }
  | _ => none }
def LexTellsWrongFalsely : Prop := lexTellsRow.holds Tryd.pinned (OpenSpec.ofChange lexTellsWrong)

/-- 'gossamerlaw01.LexAgain': WHATEVER THE INPUT: true; the input reads as it did. -/
def lexAgainSpec : ChangeSpec := { name := "lexAgain", fn := fun _ => fun
  | [d] => { results := [.lit (.bool true)], args := [d] }
  | _ => none }
def lexAgainRow : OpenClaim := { program := "ythfchcnmedklbaadoor", sum := "fde8eeebf12ce5ea63cd407e3e1683754e9fe14e3b53b06ce6934b1efa830cf3", func := "gossamer/gossamerlaw01.LexAgain", spec := "lexAgain", inPlace := ["internal/abi.NoEscape"], unfollowed := true, recurses := true, named := ["gossamer/lex.signs"], apart := false, laid := [("gossamer/lex.signs", laid_gossamer_lex_signs)] }
def LexAgainSaid : Prop := lexAgainRow.holds Tryd.pinned (OpenSpec.ofChange lexAgainSpec)

/-- ITS FALSE NEIGHBOUR: 'it returns false'. Refute it at one input. -/
def lexAgainWrong : ChangeSpec := { name := "lexAgain", fn := fun _ => fun
  | [d] => { results := [.lit (.bool false)], args := [d] }
  | _ => none }
def LexAgainWrongFalsely : Prop := lexAgainRow.holds Tryd.pinned (OpenSpec.ofChange lexAgainWrong)

/-- 'gossamerlaw01.LexStands': WHATEVER THE INPUT: true; the input reads as it did. -/
def lexStandsSpec : ChangeSpec := { name := "lexStands", fn := fun _ => fun
  | [d] => { results := [.lit (.bool true)], args := [d] }
  | _ => none }
def lexStandsRow : OpenClaim := { program := "ythfchcnmedklbaadoor", sum := "fde8eeebf12ce5ea63cd407e3e1683754e9fe14e3b53b06ce6934b1efa830cf3", func := "gossamer/gossamerlaw01.LexStands", spec := "lexStands", inPlace := ["internal/abi.NoEscape"], unfollowed := true, recurses := true, named := ["gossamer/lex.signs"], apart := false, laid := [("gossamer/lex.signs", laid_gossamer_lex_signs)] }
def LexStandsSaid : Prop := lexStandsRow.holds Tryd.pinned (OpenSpec.ofChange lexStandsSpec)

/-- ITS FALSE NEIGHBOUR: 'it returns false'. Refute it at one input. -/
def lexStandsWrong : ChangeSpec := { name := "lexStands", fn := fun _ => fun
  | [d] => { results := [.lit (.bool false)], args := [d] }
  | _ => none }
def LexStandsWrongFalsely : Prop := lexStandsRow.holds Tryd.pinned (OpenSpec.ofChange lexStandsWrong)

/-- 'gossamerlaw01.LexBoth': WHATEVER THE INPUT: true; the input reads as it did. -/
def lexBothSpec : ChangeSpec := { name := "lexBoth", fn := fun _ => fun
  | [d1, d2] => { results := [.lit (.bool true)], args := [d1, d2] }
  | _ => none }
def lexBothRow : OpenClaim := { program := "ythfchcnmedklbaadoor", sum := "fde8eeebf12ce5ea63cd407e3e1683754e9fe14e3b53b06ce6934b1efa830cf3", func := "gossamer/gossamerlaw01.LexBoth", spec := "lexBoth", inPlace := ["internal/abi.NoEscape"], unfollowed := true, recurses := true, named := ["gossamer/lex.signs"], apart := false, laid := [("gossamer/lex.signs", laid_gossamer_lex_signs)] }
def LexBothSaid : Prop := lexBothRow.holds Tryd.pinned (OpenSpec.ofChange lexBothSpec)

/-- ITS FALSE NEIGHBOUR: 'it returns false'. Refute it at one input. -/
def lexBothWrong : ChangeSpec := { name := "lexBoth", fn := fun _ => fun
  | [d1, d2] => { results := [.lit (.bool false)], args := [d1, d2] }
  | _ => none }
def LexBothWrongFalsely : Prop := lexBothRow.holds Tryd.pinned (OpenSpec.ofChange lexBothWrong)

/-- 'gossamerlaw01.LexSpaces': WHATEVER THE INPUT: true; the input reads as it did. -/
def lexSpacesSpec : ChangeSpec := { name := "lexSpaces", fn := fun _ => fun
  | [d1, d2] => { results := [.lit (.bool true)], args := [d1, d2] }
  | _ => none }
def lexSpacesRow : OpenClaim := { program := "ythfchcnmedklbaadoor", sum := "fde8eeebf12ce5ea63cd407e3e1683754e9fe14e3b53b06ce6934b1efa830cf3", func := "gossamer/gossamerlaw01.LexSpaces", spec := "lexSpaces", inPlace := ["internal/abi.NoEscape"], unfollowed := true, recurses := true, named := ["gossamer/lex.signs"], apart := false, laid := [("gossamer/lex.signs", laid_gossamer_lex_signs)] }
def LexSpacesSaid : Prop := lexSpacesRow.holds Tryd.pinned (OpenSpec.ofChange lexSpacesSpec)

/-- ITS FALSE NEIGHBOUR: 'it returns false'. Refute it at one input. -/
def lexSpacesWrong : ChangeSpec := { name := "lexSpaces", fn := fun _ => fun
  | [d1, d2] => { results := [.lit (.bool false)], args := [d1, d2] }
  | _ => none }
def LexSpacesWrongFalsely : Prop := lexSpacesRow.holds Tryd.pinned (OpenSpec.ofChange lexSpacesWrong)

/-- 'gossamerlaw01.LexKinds': WHATEVER THE INPUT: true; the input reads as it did. -/
def lexKindsSpec : ChangeSpec := { name := "lexKinds", fn := fun _ => fun
  | [d] => { results := [.lit (.bool true)], args := [d] }
  | _ => none }
def lexKindsRow : OpenClaim := { program := "ythfchcnmedklbaadoor", sum := "fde8eeebf12ce5ea63cd407e3e1683754e9fe14e3b53b06ce6934b1efa830cf3", func := "gossamer/gossamerlaw01.LexKinds", spec := "lexKinds", inPlace := ["internal/abi.NoEscape"], unfollowed := true, recurses := true, named := ["gossamer/lex.signs"], apart := false, laid := [("gossamer/lex.signs", laid_gossamer_lex_signs)] }
def LexKindsSaid : Prop := lexKindsRow.holds Tryd.pinned (OpenSpec.ofChange lexKindsSpec)

/-- ITS FALSE NEIGHBOUR: 'it returns false'. Refute it at one input. -/
def lexKindsWrong : ChangeSpec := { name := "lexKinds", fn := fun _ => fun
  | [d] => { results := [.lit (.bool false)], args := [d] }
  | _ => none }
def LexKindsWrongFalsely : Prop := lexKindsRow.holds Tryd.pinned (OpenSpec.ofChange lexKindsWrong)

/- THE SECOND FORM. 'bulk': how many values and letters a reading holds, each counted each time it is reached (what is shared counts as often as it is met; a slice's spare places count too). A statement '..UptoSaid' is the law's where the arguments, and the package variables that the reading takes, are together of bulk at most 1048576: NARROWER than '..Said'. Prove '..Said' where nothing that the law and all that it calls make is longer than what came in: it says more and counts as full. Else prove '..UptoSaid'. A law counts once. -/
mutual
def uptoBulk {H : Type} : DataW H → Nat
  | .lit (.string bytes) => bytes.length + 1
  | .lit _ => 1
  | .nil => 1
  | .ptr d => uptoBulk d + 1
  | .slice elems spare => uptoBulkAll elems + uptoBulkAll spare + 1
  | .agg parts => uptoBulkAll parts + 1
  | .iface _ d => uptoBulk d + 1
  | .map entries => uptoBulkEntries entries + 1
  | .held _ => 1
def uptoBulkAll {H : Type} : List (DataW H) → Nat
  | [] => 0
  | d :: r => uptoBulk d + uptoBulkAll r
def uptoBulkEntries {H : Type} : List (Lit × DataW H) → Nat
  | [] => 0
  | x :: r => uptoBulkEntry x + uptoBulkEntries r
def uptoBulkEntry {H : Type} : Lit × DataW H → Nat
  | (.string bytes, d) => bytes.length + uptoBulk d + 1
  | (_, d) => uptoBulk d + 1
 end
def uptoSmall : (H : Type) → List (DataW H) → Bool := fun _ ds => decide (uptoBulkAll ds ≤ 1048576)
def OpenSpec.upto (s : _root_.Go.ChangeSpec) : _root_.Go.OpenSpec := { _root_.Go.OpenSpec.ofChange s with cond := some uptoSmall }

/-- 'gossamerlaw01.LexTells', WHERE WHAT IT READS IS OF BULK AT MOST 1048576: true; the input reads as it did. -/
def lexTellsUptoRow : OpenClaim := { program := "ythfchcnmedklbaadoor", sum := "fde8eeebf12ce5ea63cd407e3e1683754e9fe14e3b53b06ce6934b1efa830cf3", func := "gossamer/gossamerlaw01.LexTells", spec := "lexTells", inPlace := ["internal/abi.NoEscape"], unfollowed := true, recurses := true, named := ["gossamer/lex.signs"], apart := false, laid := [("gossamer/lex.signs", laid_gossamer_lex_signs)], narrowed := true }
def LexTellsUptoSaid : Prop := lexTellsUptoRow.holds Tryd.pinned (OpenSpec.upto lexTellsSpec)

/-- 'gossamerlaw01.LexAgain', WHERE WHAT IT READS IS OF BULK AT MOST 1048576: true; the input reads as it did. -/
def lexAgainUptoRow : OpenClaim := { program := "ythfchcnmedklbaadoor", sum := "fde8eeebf12ce5ea63cd407e3e1683754e9fe14e3b53b06ce6934b1efa830cf3", func := "gossamer/gossamerlaw01.LexAgain", spec := "lexAgain", inPlace := ["internal/abi.NoEscape"], unfollowed := true, recurses := true, named := ["gossamer/lex.signs"], apart := false, laid := [("gossamer/lex.signs", laid_gossamer_lex_signs)], narrowed := true }
def LexAgainUptoSaid : Prop := lexAgainUptoRow.holds Tryd.pinned (OpenSpec.upto lexAgainSpec)

/-- 'gossamerlaw01.LexStands', WHERE WHAT IT READS IS OF BULK AT MOST 1048576: true; the input reads as it did. -/
def lexStandsUptoRow : OpenClaim := { program := "ythfchcnmedklbaadoor", sum := "fde8eeebf12ce5ea63cd407e3e1683754e9fe14e3b53b06ce6934b1efa830cf3", func := "gossamer/gossamerlaw01.LexStands", spec := "lexStands", inPlace := ["internal/abi.NoEscape"], unfollowed := true, recurses := true, named := ["gossamer/lex.signs"], apart := false, laid := [("gossamer/lex.signs", laid_gossamer_lex_signs)], narrowed := true }
def LexStandsUptoSaid : Prop := lexStandsUptoRow.holds Tryd.pinned (OpenSpec.upto lexStandsSpec)

/-- 'gossamerlaw01.LexBoth', WHERE WHAT IT READS IS OF BULK AT MOST 1048576: true; the input reads as it did. -/
def lexBothUptoRow : OpenClaim := { program := "ythfchcnmedklbaadoor", sum := "fde8eeebf12ce5ea63cd407e3e1683754e9fe14e3b53b06ce6934b1efa830cf3", func := "gossamer/gossamerlaw01.LexBoth", spec := "lexBoth", inPlace := ["internal/abi.NoEscape"], unfollowed := true, recurses := true, named := ["gossamer/lex.signs"], apart := false, laid := [("gossamer/lex.signs", laid_gossamer_lex_signs)], narrowed := true }
def LexBothUptoSaid : Prop := lexBothUptoRow.holds Tryd.pinned (OpenSpec.upto lexBothSpec)

/-- 'gossamerlaw01.LexSpaces', WHERE WHAT IT READS IS OF BULK AT MOST 1048576: true; the input reads as it did. -/
def lexSpacesUptoRow : OpenClaim := { program := "ythfchcnmedklbaadoor", sum := "fde8eeebf12ce5ea63cd407e3e1683754e9fe14e3b53b06ce6934b1efa830cf3", func := "gossamer/gossamerlaw01.LexSpaces", spec := "lexSpaces", inPlace := ["internal/abi.NoEscape"], unfollowed := true, recurses := true, named := ["gossamer/lex.signs"], apart := false, laid := [("gossamer/lex.signs", laid_gossamer_lex_signs)], narrowed := true }
def LexSpacesUptoSaid : Prop := lexSpacesUptoRow.holds Tryd.pinned (OpenSpec.upto lexSpacesSpec)

/-- 'gossamerlaw01.LexKinds', WHERE WHAT IT READS IS OF BULK AT MOST 1048576: true; the input reads as it did. -/
def lexKindsUptoRow : OpenClaim := { program := "ythfchcnmedklbaadoor", sum := "fde8eeebf12ce5ea63cd407e3e1683754e9fe14e3b53b06ce6934b1efa830cf3", func := "gossamer/gossamerlaw01.LexKinds", spec := "lexKinds", inPlace := ["internal/abi.NoEscape"], unfollowed := true, recurses := true, named := ["gossamer/lex.signs"], apart := false, laid := [("gossamer/lex.signs", laid_gossamer_lex_signs)], narrowed := true }
def LexKindsUptoSaid : Prop := lexKindsUptoRow.holds Tryd.pinned (OpenSpec.upto lexKindsSpec)

end Rows
end Go.Proofs.YthfchcnmedklbaaDoor
