/-
  NARROWER THAN 'FOR EVERY INPUT', by the rows' own cells (each row's printed sentence says how): LexTells: laid · TreeTells: loops, laid · TreeSame: loops, laid · TreeParts: loops, laid · TreeBuilt: loops, laid · TreeNames: laid · TreeAlts: loops, laid.
  DERIVED. THE GIVEN ROWS OF THIS SEAT. 7 by the template 'for every input the law returns true; each argument reads behind the call as it read before'; 0 by the template 'total and deterministic' (their statements: YtakijagieladcaaDoorTotals.lean).
  GIVEN WITH THE SEED: the statements are not yours to turn. If you find one false, say at which input.
  Laid BY PROGRAM, IN A SANDBOX (cutbox-rows.mjs): the forced cells as the released guide's own fill.sh prints them over the translation c6c74f364aca62ef… (all of the seat's roots in one cut). By AI agents, Wed Nov 11 2026. No macro, syntax, notation, axiom, sorry.
-/
import Derived.Test.YtakijagieladcaaDoorChecked
import GoSem.Claim
import GoSem.ClaimJoined
import GoSem.ClaimMapViews
import Derived.JoinedTies
import Derived.KernelRfl
namespace Go.Proofs.YtakijagieladcaaDoor
/- THE CELL 'sum', in the pinned program and in every row, IS THE sha256 OF THE DUMP (.gsa) THAT YtakijagieladcaaDoorProg.lean LOADS. Nothing in Lean hashes anything: it is a label: what it is worth is what the hold of that sum in a sandbox is worth. -/
noncomputable def Tryd.pinned : Pinned := { name := "ytakijagieladcaadoor", sum := "c6c74f364aca62effec304c8b94360bb7300b3b4b60c27ade0449393bb8e4f68", checked := Tryd.checked }
namespace Rows
def none {H : Type} : Left H := { results := [], args := [] }

/- WHAT THE LISTED PACKAGE-LEVEL VARIABLES READ AS WHEN THE CALL BEGINS. Each datum BY PROGRAM (the guide's laid-datum.mjs) off the statement by which the dump's own 'gosem.cut.vars' lays the variable. In a bare row this is a premise. The card (YtakijagieladcaaDoorCards.lean) ties it to the program's text. -/
def laid_gossamer_lex_signs {H : Type} : DataW H := .agg [.lit (.string [45, 62]), .lit (.string [61, 61]), .lit (.string [92]), .lit (.string [46]), .lit (.string [40]), .lit (.string [41]), .lit (.string [61]), .lit (.string [123]), .lit (.string [125]), .lit (.string [124]), .lit (.string [43]), .lit (.string [45]), .lit (.string [42]), .lit (.string [47]), .lit (.string [60])]

/-- 'gossamerlaw01.LexTells': WHATEVER THE INPUT: true; the input reads as it did. -/
def lexTellsSpec : ChangeSpec := { name := "lexTells", fn := fun _ => fun
  | [d1, d2] => { results := [.lit (.bool true)], args := [d1, d2] }
  | _ => none }
def lexTellsRow : OpenClaim := { program := "ytakijagieladcaadoor", sum := "c6c74f364aca62effec304c8b94360bb7300b3b4b60c27ade0449393bb8e4f68", func := "gossamer/gossamerlaw01.LexTells", spec := "lexTells", inPlace := ["internal/abi.NoEscape"], unfollowed := true, recurses := true, named := ["gossamer/lex.signs"], apart := false, laid := [("gossamer/lex.signs", laid_gossamer_lex_signs)] }
def LexTellsSaid : Prop := lexTellsRow.holds Tryd.pinned (OpenSpec.ofChange lexTellsSpec)

/-- ITS FALSE NEIGHBOUR: 'it returns false'. Refute it at one input. -/
def lexTellsWrong : ChangeSpec := { name := "lexTells", fn := fun _ => fun
  | [d1, d2] => { results := [.lit (.bool false)], args := [d1, d2] }
  | _ => none }
def LexTellsWrongFalsely : Prop := lexTellsRow.holds Tryd.pinned (OpenSpec.ofChange lexTellsWrong)

/-- 'gossamerlaw02.TreeTells': WHATEVER THE INPUT: true; the input reads as it did. -/
def treeTellsSpec : ChangeSpec := { name := "treeTells", fn := fun _ => fun
  | [d] => { results := [.lit (.bool true)], args := [d] }
  | _ => none }
def treeTellsRow : OpenClaim := { program := "ytakijagieladcaadoor", sum := "c6c74f364aca62effec304c8b94360bb7300b3b4b60c27ade0449393bb8e4f68", func := "gossamer/gossamerlaw02.TreeTells", spec := "treeTells", unfollowed := true, recurses := true, named := ["gossamer/lex.signs"], loops := true, apart := false, laid := [("gossamer/lex.signs", laid_gossamer_lex_signs)] }
def TreeTellsSaid : Prop := treeTellsRow.holds Tryd.pinned (OpenSpec.ofChange treeTellsSpec)

/-- ITS FALSE NEIGHBOUR: 'it returns false'. Refute it at one input. -/
def treeTellsWrong : ChangeSpec := { name := "treeTells", fn := fun _ => fun
  | [d] => { results := [.lit (.bool false)], args := [d] }
  | _ => none }
def TreeTellsWrongFalsely : Prop := treeTellsRow.holds Tryd.pinned (OpenSpec.ofChange treeTellsWrong)

/-- 'gossamerlaw02.TreeSame': WHATEVER THE INPUT: true; the input reads as it did. -/
def treeSameSpec : ChangeSpec := { name := "treeSame", fn := fun _ => fun
  | [d1, d2] => { results := [.lit (.bool true)], args := [d1, d2] }
  | _ => none }
def treeSameRow : OpenClaim := { program := "ytakijagieladcaadoor", sum := "c6c74f364aca62effec304c8b94360bb7300b3b4b60c27ade0449393bb8e4f68", func := "gossamer/gossamerlaw02.TreeSame", spec := "treeSame", unfollowed := true, recurses := true, named := ["gossamer/lex.signs"], loops := true, apart := false, laid := [("gossamer/lex.signs", laid_gossamer_lex_signs)] }
def TreeSameSaid : Prop := treeSameRow.holds Tryd.pinned (OpenSpec.ofChange treeSameSpec)

/-- ITS FALSE NEIGHBOUR: 'it returns false'. Refute it at one input. -/
def treeSameWrong : ChangeSpec := { name := "treeSame", fn := fun _ => fun
  | [d1, d2] => { results := [.lit (.bool false)], args := [d1, d2] }
  | _ => none }
def TreeSameWrongFalsely : Prop := treeSameRow.holds Tryd.pinned (OpenSpec.ofChange treeSameWrong)

/-- 'gossamerlaw02.TreeParts': WHATEVER THE INPUT: true; the input reads as it did. -/
def treePartsSpec : ChangeSpec := { name := "treeParts", fn := fun _ => fun
  | [d] => { results := [.lit (.bool true)], args := [d] }
  | _ => none }
def treePartsRow : OpenClaim := { program := "ytakijagieladcaadoor", sum := "c6c74f364aca62effec304c8b94360bb7300b3b4b60c27ade0449393bb8e4f68", func := "gossamer/gossamerlaw02.TreeParts", spec := "treeParts", unfollowed := true, recurses := true, named := ["gossamer/lex.signs"], loops := true, apart := false, laid := [("gossamer/lex.signs", laid_gossamer_lex_signs)] }
def TreePartsSaid : Prop := treePartsRow.holds Tryd.pinned (OpenSpec.ofChange treePartsSpec)

/-- ITS FALSE NEIGHBOUR: 'it returns false'. Refute it at one input. -/
def treePartsWrong : ChangeSpec := { name := "treeParts", fn := fun _ => fun
  | [d] => { results := [.lit (.bool false)], args := [d] }
  | _ => none }
def TreePartsWrongFalsely : Prop := treePartsRow.holds Tryd.pinned (OpenSpec.ofChange treePartsWrong)

/-- 'gossamerlaw02.TreeBuilt': WHATEVER THE INPUT: true; the input reads as it did. -/
def treeBuiltSpec : ChangeSpec := { name := "treeBuilt", fn := fun _ => fun
  | [d1, d2, d3] => { results := [.lit (.bool true)], args := [d1, d2, d3] }
  | _ => none }
def treeBuiltRow : OpenClaim := { program := "ytakijagieladcaadoor", sum := "c6c74f364aca62effec304c8b94360bb7300b3b4b60c27ade0449393bb8e4f68", func := "gossamer/gossamerlaw02.TreeBuilt", spec := "treeBuilt", unfollowed := true, recurses := true, named := ["gossamer/lex.signs"], loops := true, apart := false, laid := [("gossamer/lex.signs", laid_gossamer_lex_signs)] }
def TreeBuiltSaid : Prop := treeBuiltRow.holds Tryd.pinned (OpenSpec.ofChange treeBuiltSpec)

/-- ITS FALSE NEIGHBOUR: 'it returns false'. Refute it at one input. -/
def treeBuiltWrong : ChangeSpec := { name := "treeBuilt", fn := fun _ => fun
  | [d1, d2, d3] => { results := [.lit (.bool false)], args := [d1, d2, d3] }
  | _ => none }
def TreeBuiltWrongFalsely : Prop := treeBuiltRow.holds Tryd.pinned (OpenSpec.ofChange treeBuiltWrong)

/-- 'gossamerlaw02.TreeNames': WHATEVER THE INPUT: true; the input reads as it did. -/
def treeNamesSpec : ChangeSpec := { name := "treeNames", fn := fun _ => fun
  | [d] => { results := [.lit (.bool true)], args := [d] }
  | _ => none }
def treeNamesRow : OpenClaim := { program := "ytakijagieladcaadoor", sum := "c6c74f364aca62effec304c8b94360bb7300b3b4b60c27ade0449393bb8e4f68", func := "gossamer/gossamerlaw02.TreeNames", spec := "treeNames", unfollowed := true, recurses := true, named := ["gossamer/lex.signs"], apart := false, laid := [("gossamer/lex.signs", laid_gossamer_lex_signs)] }
def TreeNamesSaid : Prop := treeNamesRow.holds Tryd.pinned (OpenSpec.ofChange treeNamesSpec)

/-- ITS FALSE NEIGHBOUR: 'it returns false'. Refute it at one input. -/
def treeNamesWrong : ChangeSpec := { name := "treeNames", fn := fun _ => fun
  | [d] => { results := [.lit (.bool false)], args := [d] }
  | _ => none }
def TreeNamesWrongFalsely : Prop := treeNamesRow.holds Tryd.pinned (OpenSpec.ofChange treeNamesWrong)

/-- 'gossamerlaw02.TreeAlts': WHATEVER THE INPUT: true; the input reads as it did. -/
def treeAltsSpec : ChangeSpec := { name := "treeAlts", fn := fun _ => fun
  | [d1, d2, d3] => { results := [.lit (.bool true)], args := [d1, d2, d3] }
  | _ => none }
def treeAltsRow : OpenClaim := { program := "ytakijagieladcaadoor", sum := "c6c74f364aca62effec304c8b94360bb7300b3b4b60c27ade0449393bb8e4f68", func := "gossamer/gossamerlaw02.TreeAlts", spec := "treeAlts", unfollowed := true, recurses := true, named := ["gossamer/lex.signs"], loops := true, apart := false, laid := [("gossamer/lex.signs", laid_gossamer_lex_signs)] }
def TreeAltsSaid : Prop := treeAltsRow.holds Tryd.pinned (OpenSpec.ofChange treeAltsSpec)

/-- ITS FALSE NEIGHBOUR: 'it returns false'. Refute it at one input. -/
def treeAltsWrong : ChangeSpec := { name := "treeAlts", fn := fun _ => fun
  | [d1, d2, d3] => { results := [.lit (.bool false)], args := [d1, d2, d3] }
  | _ => none }
def TreeAltsWrongFalsely : Prop := treeAltsRow.holds Tryd.pinned (OpenSpec.ofChange treeAltsWrong)

/- THE SECOND FORM. 'bulk': how many values and letters a reading holds, each counted each time it is reached (what is shared counts as often as it is met; a slice's spare places count too). A statement '..UptoSaid' is the law's where the arguments, and the package variables that the reading takes, are together of bulk at most 1048576: NARROWER than '..Said'. Prove '..Said' where nothing that the law and all that it calls make is longer than what came in: it says more and counts as full. Else prove '..UptoSaid'. A law counts once. -/
mutual
def uptoBulk {H : Type} : DataW H → Nat
  | .lit (.string bytes) => bytes.length + 1
  | .lit _ => 1
  | .nil => 1
  | .ptr d => uptoBulk d + 1
  | .slice elems spare => uptoBulkAll elems + uptoBulkAll spare + 1
  | .agg parts => uptoBulkAll parts + 1
  | .iface _ d => uptoBulk d + 1
  | .map entries => uptoBulkEntries entries + 1
  | .held _ => 1
def uptoBulkAll {H : Type} : List (DataW H) → Nat
  | [] => 0
  | d :: r => uptoBulk d + uptoBulkAll r
def uptoBulkEntries {H : Type} : List (Lit × DataW H) → Nat
  | [] => 0
  | x :: r => uptoBulkEntry x + uptoBulkEntries r
def uptoBulkEntry {H : Type} : Lit × DataW H → Nat
  | (.string bytes, d) => bytes.length + uptoBulk d + 1
  | (_, d) => uptoBulk d + 1
 end
def uptoSmall : (H : Type) → List (DataW H) → Bool := fun _ ds => decide (uptoBulkAll ds ≤ 1048576)
def OpenSpec.upto (s : _root_.Go.ChangeSpec) : _root_.Go.OpenSpec := { _root_.Go.OpenSpec.ofChange s with cond := some uptoSmall }

/-- 'gossamerlaw01.LexTells', WHERE WHAT IT READS IS OF BULK AT MOST 1048576: true; the input reads as it did. -/
def lexTellsUptoRow : OpenClaim := { program := "ytakijagieladcaadoor", sum := "c6c74f364aca62effec304c8b94360bb7300b3b4b60c27ade0449393bb8e4f68", func := "gossamer/gossamerlaw01.LexTells", spec := "lexTells", inPlace := ["internal/abi.NoEscape"], unfollowed := true, recurses := true, named := ["gossamer/lex.signs"], apart := false, laid := [("gossamer/lex.signs", laid_gossamer_lex_signs)], narrowed := true }
def LexTellsUptoSaid : Prop := lexTellsUptoRow.holds Tryd.pinned (OpenSpec.upto lexTellsSpec)

/-- 'gossamerlaw02.TreeTells', WHERE WHAT IT READS IS OF BULK AT MOST 1048576: true; the input reads as it did. -/
def treeTellsUptoRow : OpenClaim := { program := "ytakijagieladcaadoor", sum := "c6c74f364aca62effec304c8b94360bb7300b3b4b60c27ade0449393bb8e4f68", func := "gossamer/gossamerlaw02.TreeTells", spec := "treeTells", unfollowed := true, recurses := true, named := ["gossamer/lex.signs"], loops := true, apart := false, laid := [("gossamer/lex.signs", laid_gossamer_lex_signs)], narrowed := true }
def TreeTellsUptoSaid : Prop := treeTellsUptoRow.holds Tryd.pinned (OpenSpec.upto treeTellsSpec)

/-- 'gossamerlaw02.TreeSame', WHERE WHAT IT READS IS OF BULK AT MOST 1048576: true; the input reads as it did. -/
def treeSameUptoRow : OpenClaim := { program := "ytakijagieladcaadoor", sum := "c6c74f364aca62effec304c8b94360bb7300b3b4b60c27ade0449393bb8e4f68", func := "gossamer/gossamerlaw02.TreeSame", spec := "treeSame", unfollowed := true, recurses := true, named := ["gossamer/lex.signs"], loops := true, apart := false, laid := [("gossamer/lex.signs", laid_gossamer_lex_signs)], narrowed := true }
def TreeSameUptoSaid : Prop := treeSameUptoRow.holds Tryd.pinned (OpenSpec.upto treeSameSpec)

/-- 'gossamerlaw02.TreeParts', WHERE WHAT IT READS IS OF BULK AT MOST 1048576: true; the input reads as it did. -/
def treePartsUptoRow : OpenClaim := { program := "ytakijagieladcaadoor", sum := "c6c74f364aca62effec304c8b94360bb7300b3b4b60c27ade0449393bb8e4f68", func := "gossamer/gossamerlaw02.TreeParts", spec := "treeParts", unfollowed := true, recurses := true, named := ["gossamer/lex.signs"], loops := true, apart := false, laid := [("gossamer/lex.signs", laid_gossamer_lex_signs)], narrowed := true }
def TreePartsUptoSaid : Prop := treePartsUptoRow.holds Tryd.pinned (OpenSpec.upto treePartsSpec)

/-- 'gossamerlaw02.TreeBuilt', WHERE WHAT IT READS IS OF BULK AT MOST 1048576: true; the input reads as it did. -/
def treeBuiltUptoRow : OpenClaim := { program := "ytakijagieladcaadoor", sum := "c6c74f364aca62effec304c8b94360bb7300b3b4b60c27ade0449393bb8e4f68", func := "gossamer/gossamerlaw02.TreeBuilt", spec := "treeBuilt", unfollowed := true, recurses := true, named := ["gossamer/lex.signs"], loops := true, apart := false, laid := [("gossamer/lex.signs", laid_gossamer_lex_signs)], narrowed := true }
def TreeBuiltUptoSaid : Prop := treeBuiltUptoRow.holds Tryd.pinned (OpenSpec.upto treeBuiltSpec)

/-- 'gossamerlaw02.TreeNames', WHERE WHAT IT READS IS OF BULK AT MOST 1048576: true; the input reads as it did. -/
def treeNamesUptoRow : OpenClaim := { program := "ytakijagieladcaadoor", sum := "c6c74f364aca62effec304c8b94360bb7300b3b4b60c27ade0449393bb8e4f68", func := "gossamer/gossamerlaw02.TreeNames", spec := "treeNames", unfollowed := true, recurses := true, named := ["gossamer/lex.signs"], apart := false, laid := [("gossamer/lex.signs", laid_gossamer_lex_signs)], narrowed := true }
def TreeNamesUptoSaid : Prop := treeNamesUptoRow.holds Tryd.pinned (OpenSpec.upto treeNamesSpec)

/-- 'gossamerlaw02.TreeAlts', WHERE WHAT IT READS IS OF BULK AT MOST 1048576: true; the input reads as it did. -/
def treeAltsUptoRow : OpenClaim := { program := "ytakijagieladcaadoor", sum := "c6c74f364aca62effec304c8b94360bb7300b3b4b60c27ade0449393bb8e4f68", func := "gossamer/gossamerlaw02.TreeAlts", spec := "treeAlts", unfollowed := true, recurses := true, named := ["gossamer/lex.signs"], loops := true, apart := false, laid := [("gossamer/lex.signs", laid_gossamer_lex_signs)], narrowed := true }
def TreeAltsUptoSaid : Prop := treeAltsUptoRow.holds Tryd.pinned (OpenSpec.upto treeAltsSpec)

end Rows
end Go.Proofs.YtakijagieladcaaDoor
