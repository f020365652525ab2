/-
  NARROWER THAN 'FOR EVERY INPUT', by the rows' own cells (each row's printed sentence says how): LexTells: laid · TreeSame: loops, laid · TreeBuilt: loops, laid · TreeAlts: loops, laid · ParseFits: laid · ParseRound: laid · ParsePrefix: laid · ParseLayout: laid.
  DERIVED. THE GIVEN ROWS OF THIS SEAT. 8 by the template 'for every input the law returns true; each argument reads behind the call as it read before'; 0 by the template 'total and deterministic' (their statements: YtnljlocogfacfaaDoorTotals.lean).
  GIVEN WITH THE SEED: the statements are not yours to turn. If you find one false, say at which input.
  Laid BY PROGRAM, IN A SANDBOX (cutbox-rows.mjs): the forced cells as the released guide's own fill.sh prints them over the translation dc8f7415557a4076… (all of the seat's roots in one cut). By AI agents, Wed Nov 11 2026. No macro, syntax, notation, axiom, sorry.
-/
import Derived.Test.YtnljlocogfacfaaDoorChecked
import GoSem.Claim
import GoSem.ClaimJoined
import GoSem.ClaimMapViews
import Derived.JoinedTies
import Derived.KernelRfl
namespace Go.Proofs.YtnljlocogfacfaaDoor
/- THE CELL 'sum', in the pinned program and in every row, IS THE sha256 OF THE DUMP (.gsa) THAT YtnljlocogfacfaaDoorProg.lean LOADS. Nothing in Lean hashes anything: it is a label: what it is worth is what the hold of that sum in a sandbox is worth. -/
noncomputable def Tryd.pinned : Pinned := { name := "ytnljlocogfacfaadoor", sum := "dc8f7415557a4076b16a71c91a230facebaf7fd3c86de081daed8bf323739706", checked := Tryd.checked }
namespace Rows
def none {H : Type} : Left H := { results := [], args := [] }

/- WHAT THE LISTED PACKAGE-LEVEL VARIABLES READ AS WHEN THE CALL BEGINS. Each datum BY PROGRAM (the guide's laid-datum.mjs) off the statement by which the dump's own 'gosem.cut.vars' lays the variable. In a bare row this is a premise. The card (YtnljlocogfacfaaDoorCards.lean) ties it to the program's text. -/
def laid_gossamer_lex_signs {H : Type} : DataW H := .agg [.lit (.string [45, 62]), .lit (.string [61, 61]), .lit (.string [92]), .lit (.string [46]), .lit (.string [40]), .lit (.string [41]), .lit (.string [61]), .lit (.string [123]), .lit (.string [125]), .lit (.string [124]), .lit (.string [43]), .lit (.string [45]), .lit (.string [42]), .lit (.string [47]), .lit (.string [60])]

/-- 'gossamerlaw01.LexTells': WHATEVER THE INPUT: true; the input reads as it did. -/
def lexTellsSpec : ChangeSpec := { name := "lexTells", fn := fun _ => fun
  | [d1, d2] => { results := [.lit (.bool true)], args := [d1, d2] }
  | _ => none }
def lexTellsRow : OpenClaim := { program := "ytnljlocogfacfaadoor", sum := "dc8f7415557a4076b16a71c91a230facebaf7fd3c86de081daed8bf323739706", func := "gossamer/gossamerlaw01.LexTells", spec := "lexTells", inPlace := ["internal/abi.NoEscape"], unfollowed := true, recurses := true, named := ["gossamer/lex.signs"], apart := false, laid := [("gossamer/lex.signs", laid_gossamer_lex_signs)] }
def LexTellsSaid : Prop := lexTellsRow.holds Tryd.pinned (OpenSpec.ofChange lexTellsSpec)

/-- ITS FALSE NEIGHBOUR: 'it returns false'. Refute it at one input. -/
def lexTellsWrong : ChangeSpec := { name := "lexTells", fn := fun _ => fun
  | [d1, d2] => { results := [.lit (.bool false)], args := [d1, d2] }
  | _ => none }
def LexTellsWrongFalsely : Prop := lexTellsRow.holds Tryd.pinned (OpenSpec.ofChange lexTellsWrong)

/-- 'gossamerlaw02.TreeSame': WHATEVER THE INPUT: true; the input reads as it did. -/
def treeSameSpec : ChangeSpec := { name := "treeSame", fn := fun _ => fun
  | [d1, d2] => { results := [.lit (.bool true)], args := [d1, d2] }
  | _ => none }
def treeSameRow : OpenClaim := { program := "ytnljlocogfacfaadoor", sum := "dc8f7415557a4076b16a71c91a230facebaf7fd3c86de081daed8bf323739706", func := "gossamer/gossamerlaw02.TreeSame", spec := "treeSame", unfollowed := true, recurses := true, named := ["gossamer/lex.signs"], loops := true, apart := false, laid := [("gossamer/lex.signs", laid_gossamer_lex_signs)] }
def TreeSameSaid : Prop := treeSameRow.holds Tryd.pinned (OpenSpec.ofChange treeSameSpec)

/-- ITS FALSE NEIGHBOUR: 'it returns false'. Refute it at one input. -/
def treeSameWrong : ChangeSpec := { name := "treeSame", fn := fun _ => fun
  | [d1, d2] => { results := [.lit (.bool false)], args := [d1, d2] }
  | _ => none }
def TreeSameWrongFalsely : Prop := treeSameRow.holds Tryd.pinned (OpenSpec.ofChange treeSameWrong)

/-- 'gossamerlaw02.TreeBuilt': WHATEVER THE INPUT: true; the input reads as it did. -/
def treeBuiltSpec : ChangeSpec := { name := "treeBuilt", fn := fun _ => fun
  | [d1, d2, d3] => { results := [.lit (.bool true)], args := [d1, d2, d3] }
  | _ => none }
def treeBuiltRow : OpenClaim := { program := "ytnljlocogfacfaadoor", sum := "dc8f7415557a4076b16a71c91a230facebaf7fd3c86de081daed8bf323739706", func := "gossamer/gossamerlaw02.TreeBuilt", spec := "treeBuilt", unfollowed := true, recurses := true, named := ["gossamer/lex.signs"], loops := true, apart := false, laid := [("gossamer/lex.signs", laid_gossamer_lex_signs)] }
def TreeBuiltSaid : Prop := treeBuiltRow.holds Tryd.pinned (OpenSpec.ofChange treeBuiltSpec)

/-- ITS FALSE NEIGHBOUR: 'it returns false'. Refute it at one input. -/
def treeBuiltWrong : ChangeSpec := { name := "treeBuilt", fn := fun _ => fun
  | [d1, d2, d3] => { results := [.lit (.bool false)], args := [d1, d2, d3] }
  | _ => none }
def TreeBuiltWrongFalsely : Prop := treeBuiltRow.holds Tryd.pinned (OpenSpec.ofChange treeBuiltWrong)

/-- 'gossamerlaw02.TreeAlts': WHATEVER THE INPUT: true; the input reads as it did. -/
def treeAltsSpec : ChangeSpec := { name := "treeAlts", fn := fun _ => fun
  | [d1, d2, d3] => { results := [.lit (.bool true)], args := [d1, d2, d3] }
  | _ => none }
def treeAltsRow : OpenClaim := { program := "ytnljlocogfacfaadoor", sum := "dc8f7415557a4076b16a71c91a230facebaf7fd3c86de081daed8bf323739706", func := "gossamer/gossamerlaw02.TreeAlts", spec := "treeAlts", unfollowed := true, recurses := true, named := ["gossamer/lex.signs"], loops := true, apart := false, laid := [("gossamer/lex.signs", laid_gossamer_lex_signs)] }
def TreeAltsSaid : Prop := treeAltsRow.holds Tryd.pinned (OpenSpec.ofChange treeAltsSpec)

/-- ITS FALSE NEIGHBOUR: 'it returns false'. Refute it at one input. -/
def treeAltsWrong : ChangeSpec := { name := "treeAlts", fn := fun _ => fun
  | [d1, d2, d3] => { results := [.lit (.bool false)], args := [d1, d2, d3] }
  | _ => none }
def TreeAltsWrongFalsely : Prop := treeAltsRow.holds Tryd.pinned (OpenSpec.ofChange treeAltsWrong)

/-- 'gossamerlaw03.ParseFits': WHATEVER THE INPUT: true; the input reads as it did. -/
def parseFitsSpec : ChangeSpec := { name := "parseFits", fn := fun _ => fun
  | [d1, d2] => { results := [.lit (.bool true)], args := [d1, d2] }
  | _ => none }
def parseFitsRow : OpenClaim := { program := "ytnljlocogfacfaadoor", sum := "dc8f7415557a4076b16a71c91a230facebaf7fd3c86de081daed8bf323739706", func := "gossamer/gossamerlaw03.ParseFits", spec := "parseFits", unfollowed := true, recurses := true, named := ["gossamer/lex.signs"], apart := false, laid := [("gossamer/lex.signs", laid_gossamer_lex_signs)] }
def ParseFitsSaid : Prop := parseFitsRow.holds Tryd.pinned (OpenSpec.ofChange parseFitsSpec)

/-- ITS FALSE NEIGHBOUR: 'it returns false'. Refute it at one input. -/
def parseFitsWrong : ChangeSpec := { name := "parseFits", fn := fun _ => fun
  | [d1, d2] => { results := [.lit (.bool false)], args := [d1, d2] }
  | _ => none }
def ParseFitsWrongFalsely : Prop := parseFitsRow.holds Tryd.pinned (OpenSpec.ofChange parseFitsWrong)

/-- 'gossamerlaw03.ParseRound': WHATEVER THE INPUT: true; the input reads as it did. -/
def parseRoundSpec : ChangeSpec := { name := "parseRound", fn := fun _ => fun
  | [d] => { results := [.lit (.bool true)], args := [d] }
  | _ => none }
def parseRoundRow : OpenClaim := { program := "ytnljlocogfacfaadoor", sum := "dc8f7415557a4076b16a71c91a230facebaf7fd3c86de081daed8bf323739706", func := "gossamer/gossamerlaw03.ParseRound", spec := "parseRound", unfollowed := true, recurses := true, named := ["gossamer/lex.signs"], apart := false, laid := [("gossamer/lex.signs", laid_gossamer_lex_signs)] }
def ParseRoundSaid : Prop := parseRoundRow.holds Tryd.pinned (OpenSpec.ofChange parseRoundSpec)

/-- ITS FALSE NEIGHBOUR: 'it returns false'. Refute it at one input. -/
def parseRoundWrong : ChangeSpec := { name := "parseRound", fn := fun _ => fun
  | [d] => { results := [.lit (.bool false)], args := [d] }
  | _ => none }
def ParseRoundWrongFalsely : Prop := parseRoundRow.holds Tryd.pinned (OpenSpec.ofChange parseRoundWrong)

/-- 'gossamerlaw03.ParsePrefix': WHATEVER THE INPUT: true; the input reads as it did. -/
def parsePrefixSpec : ChangeSpec := { name := "parsePrefix", fn := fun _ => fun
  | [d1, d2] => { results := [.lit (.bool true)], args := [d1, d2] }
  | _ => none }
def parsePrefixRow : OpenClaim := { program := "ytnljlocogfacfaadoor", sum := "dc8f7415557a4076b16a71c91a230facebaf7fd3c86de081daed8bf323739706", func := "gossamer/gossamerlaw03.ParsePrefix", spec := "parsePrefix", unfollowed := true, recurses := true, named := ["gossamer/lex.signs"], apart := false, laid := [("gossamer/lex.signs", laid_gossamer_lex_signs)] }
def ParsePrefixSaid : Prop := parsePrefixRow.holds Tryd.pinned (OpenSpec.ofChange parsePrefixSpec)

/-- ITS FALSE NEIGHBOUR: 'it returns false'. Refute it at one input. -/
def parsePrefixWrong : ChangeSpec := { name := "parsePrefix", fn := fun _ => fun
  | [d1, d2] => { results := [.lit (.bool false)], args := [d1, d2] }
  | _ => none }
def ParsePrefixWrongFalsely : Prop := parsePrefixRow.holds Tryd.pinned (OpenSpec.ofChange parsePrefixWrong)

/-- 'gossamerlaw03.ParseLayout': WHATEVER THE INPUT: true; the input reads as it did. -/
def parseLayoutSpec : ChangeSpec := { name := "parseLayout", fn := fun _ => fun
  | [d] => { results := [.lit (.bool true)], args := [d] }
  | _ => none }
def parseLayoutRow : OpenClaim := { program := "ytnljlocogfacfaadoor", sum := "dc8f7415557a4076b16a71c91a230facebaf7fd3c86de081daed8bf323739706", func := "gossamer/gossamerlaw03.ParseLayout", spec := "parseLayout", unfollowed := true, recurses := true, named := ["gossamer/lex.signs"], apart := false, laid := [("gossamer/lex.signs", laid_gossamer_lex_signs)] }
def ParseLayoutSaid : Prop := parseLayoutRow.holds Tryd.pinned (OpenSpec.ofChange parseLayoutSpec)

/-- ITS FALSE NEIGHBOUR: 'it returns false'. Refute it at one input. -/
def parseLayoutWrong : ChangeSpec := { name := "parseLayout", fn := fun _ => fun
  | [d] => { results := [.lit (.bool false)], args := [d] }
  | _ => none }
def ParseLayoutWrongFalsely : Prop := parseLayoutRow.holds Tryd.pinned (OpenSpec.ofChange parseLayoutWrong)

/- THE SECOND FORM. 'bulk': how many values and letters a reading holds, each counted each time it is reached (what is shared counts as often as it is met; a slice's spare places count too). A statement '..UptoSaid' is the law's where the arguments, and the package variables that the reading takes, are together of bulk at most 1048576: NARROWER than '..Said'. Prove '..Said' where nothing that the law and all that it calls make is longer than what came in: it says more and counts as full. Else prove '..UptoSaid'. A law counts once. -/
mutual
def uptoBulk {H : Type} : DataW H → Nat
  | .lit (.string bytes) => bytes.length + 1
  | .lit _ => 1
  | .nil => 1
  | .ptr d => uptoBulk d + 1
  | .slice elems spare => uptoBulkAll elems + uptoBulkAll spare + 1
  | .agg parts => uptoBulkAll parts + 1
  | .iface _ d => uptoBulk d + 1
  | .map entries => uptoBulkEntries entries + 1
  | .held _ => 1
def uptoBulkAll {H : Type} : List (DataW H) → Nat
  | [] => 0
  | d :: r => uptoBulk d + uptoBulkAll r
def uptoBulkEntries {H : Type} : List (Lit × DataW H) → Nat
  | [] => 0
  | x :: r => uptoBulkEntry x + uptoBulkEntries r
def uptoBulkEntry {H : Type} : Lit × DataW H → Nat
  | (.string bytes, d) => bytes.length + uptoBulk d + 1
  | (_, d) => uptoBulk d + 1
 end
def uptoSmall : (H : Type) → List (DataW H) → Bool := fun _ ds => decide (uptoBulkAll ds ≤ 1048576)
def OpenSpec.upto (s : _root_.Go.ChangeSpec) : _root_.Go.OpenSpec := { _root_.Go.OpenSpec.ofChange s with cond := some uptoSmall }

/-- 'gossamerlaw01.LexTells', WHERE WHAT IT READS IS OF BULK AT MOST 1048576: true; the input reads as it did. -/
def lexTellsUptoRow : OpenClaim := { program := "ytnljlocogfacfaadoor", sum := "dc8f7415557a4076b16a71c91a230facebaf7fd3c86de081daed8bf323739706", func := "gossamer/gossamerlaw01.LexTells", spec := "lexTells", inPlace := ["internal/abi.NoEscape"], unfollowed := true, recurses := true, named := ["gossamer/lex.signs"], apart := false, laid := [("gossamer/lex.signs", laid_gossamer_lex_signs)], narrowed := true }
def LexTellsUptoSaid : Prop := lexTellsUptoRow.holds Tryd.pinned (OpenSpec.upto lexTellsSpec)

/-- 'gossamerlaw02.TreeSame', WHERE WHAT IT READS IS OF BULK AT MOST 1048576: true; the input reads as it did. -/
def treeSameUptoRow : OpenClaim := { program := "ytnljlocogfacfaadoor", sum := "dc8f7415557a4076b16a71c91a230facebaf7fd3c86de081daed8bf323739706", func := "gossamer/gossamerlaw02.TreeSame", spec := "treeSame", unfollowed := true, recurses := true, named := ["gossamer/lex.signs"], loops := true, apart := false, laid := [("gossamer/lex.signs", laid_gossamer_lex_signs)], narrowed := true }
def TreeSameUptoSaid : Prop := treeSameUptoRow.holds Tryd.pinned (OpenSpec.upto treeSameSpec)

/-- 'gossamerlaw02.TreeBuilt', WHERE WHAT IT READS IS OF BULK AT MOST 1048576: true; the input reads as it did. -/
def treeBuiltUptoRow : OpenClaim := { program := "ytnljlocogfacfaadoor", sum := "dc8f7415557a4076b16a71c91a230facebaf7fd3c86de081daed8bf323739706", func := "gossamer/gossamerlaw02.TreeBuilt", spec := "treeBuilt", unfollowed := true, recurses := true, named := ["gossamer/lex.signs"], loops := true, apart := false, laid := [("gossamer/lex.signs", laid_gossamer_lex_signs)], narrowed := true }
def TreeBuiltUptoSaid : Prop := treeBuiltUptoRow.holds Tryd.pinned (OpenSpec.upto treeBuiltSpec)

/-- 'gossamerlaw02.TreeAlts', WHERE WHAT IT READS IS OF BULK AT MOST 1048576: true; the input reads as it did. -/
def treeAltsUptoRow : OpenClaim := { program := "ytnljlocogfacfaadoor", sum := "dc8f7415557a4076b16a71c91a230facebaf7fd3c86de081daed8bf323739706", func := "gossamer/gossamerlaw02.TreeAlts", spec := "treeAlts", unfollowed := true, recurses := true, named := ["gossamer/lex.signs"], loops := true, apart := false, laid := [("gossamer/lex.signs", laid_gossamer_lex_signs)], narrowed := true }
def TreeAltsUptoSaid : Prop := treeAltsUptoRow.holds Tryd.pinned (OpenSpec.upto treeAltsSpec)

/-- 'gossamerlaw03.ParseFits', WHERE WHAT IT READS IS OF BULK AT MOST 1048576: true; the input reads as it did. -/
def parseFitsUptoRow : OpenClaim := { program := "ytnljlocogfacfaadoor", sum := "dc8f7415557a4076b16a71c91a230facebaf7fd3c86de081daed8bf323739706", func := "gossamer/gossamerlaw03.ParseFits", spec := "parseFits", unfollowed := true, recurses := true, named := ["gossamer/lex.signs"], apart := false, laid := [("gossamer/lex.signs", laid_gossamer_lex_signs)], narrowed := true }
def ParseFitsUptoSaid : Prop := parseFitsUptoRow.holds Tryd.pinned (OpenSpec.upto parseFitsSpec)

/-- 'gossamerlaw03.ParseRound', WHERE WHAT IT READS IS OF BULK AT MOST 1048576: true; the input reads as it did. -/
def parseRoundUptoRow : OpenClaim := { program := "ytnljlocogfacfaadoor", sum := "dc8f7415557a4076b16a71c91a230facebaf7fd3c86de081daed8bf323739706", func := "gossamer/gossamerlaw03.ParseRound", spec := "parseRound", unfollowed := true, recurses := true, named := ["gossamer/lex.signs"], apart := false, laid := [("gossamer/lex.signs", laid_gossamer_lex_signs)], narrowed := true }
def ParseRoundUptoSaid : Prop := parseRoundUptoRow.holds Tryd.pinned (OpenSpec.upto parseRoundSpec)

/-- 'gossamerlaw03.ParsePrefix', WHERE WHAT IT READS IS OF BULK AT MOST 1048576: true; the input reads as it did. -/
def parsePrefixUptoRow : OpenClaim := { program := "ytnljlocogfacfaadoor", sum := "dc8f7415557a4076b16a71c91a230facebaf7fd3c86de081daed8bf323739706", func := "gossamer/gossamerlaw03.ParsePrefix", spec := "parsePrefix", unfollowed := true, recurses := true, named := ["gossamer/lex.signs"], apart := false, laid := [("gossamer/lex.signs", laid_gossamer_lex_signs)], narrowed := true }
def ParsePrefixUptoSaid : Prop := parsePrefixUptoRow.holds Tryd.pinned (OpenSpec.upto parsePrefixSpec)

/-- 'gossamerlaw03.ParseLayout', WHERE WHAT IT READS IS OF BULK AT MOST 1048576: true; the input reads as it did. -/
def parseLayoutUptoRow : OpenClaim := { program := "ytnljlocogfacfaadoor", sum := "dc8f7415557a4076b16a71c91a230facebaf7fd3c86de081daed8bf323739706", func := "gossamer/gossamerlaw03.ParseLayout", spec := "parseLayout", unfollowed := true, recurses := true, named := ["gossamer/lex.signs"], apart := false, laid := [("gossamer/lex.signs", laid_gossamer_lex_signs)], narrowed := true }
def ParseLayoutUptoSaid : Prop := parseLayoutUptoRow.holds Tryd.pinned (OpenSpec.upto parseLayoutSpec)

end Rows
end Go.Proofs.YtnljlocogfacfaaDoor
