/-
  NARROWER THAN 'FOR EVERY INPUT', by the rows' own cells (each row's printed sentence says how): ScopePlaces: loops, laid · ScopeLets: loops, laid.
  DERIVED. THE GIVEN ROWS OF THIS SEAT. 2 by the template 'for every input the law returns true; each argument reads behind the call as it read before'; 0 by the template 'total and deterministic' (their statements: YtobdoahdjbmflaaDoorTotals.lean).
  GIVEN WITH THE SEED: the statements are not yours to turn. If you find one false, say at which input.
  Laid BY PROGRAM, IN A SANDBOX (cutbox-rows.mjs): the forced cells as the released guide's own fill.sh prints them over the translation 9c9fcb50ff9d2b8f… (all of the seat's roots in one cut). By AI agents, Wed Nov 11 2026. No macro, syntax, notation, axiom, sorry.
-/
import Derived.Test.YtobdoahdjbmflaaDoorChecked
import GoSem.Claim
import GoSem.ClaimJoined
import GoSem.ClaimMapViews
import Derived.JoinedTies
import Derived.KernelRfl
namespace Go.Proofs.YtobdoahdjbmflaaDoor
/- THE CELL 'sum', in the pinned program and in every row, IS THE sha256 OF THE DUMP (.gsa) THAT YtobdoahdjbmflaaDoorProg.lean LOADS. Nothing in Lean hashes anything: it is a label: what it is worth is what the hold of that sum in a sandbox is worth. -/
noncomputable def Tryd.pinned : Pinned := { name := "ytobdoahdjbmflaadoor", sum := "9c9fcb50ff9d2b8faeaeeca4a87f227f86c97fd13ef3992ac530bd5325978583", checked := Tryd.checked }
namespace Rows
def none {H : Type} : Left H := { results := [], args := [] }

/- WHAT THE LISTED PACKAGE-LEVEL VARIABLES READ AS WHEN THE CALL BEGINS. Each datum BY PROGRAM (the guide's laid-datum.mjs) off the statement by which the dump's own 'gosem.cut.vars' lays the variable. In a bare row this is a premise. The card (YtobdoahdjbmflaaDoorCards.lean) ties it to the program's text. -/
def laid_gossamer_lex_signs {H : Type} : DataW H := .agg [.lit (.string [45, 62]), .lit (.string [61, 61]), .lit (.string [92]), .lit (.string [46]), .lit (.string [40]), .lit (.string [41]), .lit (.string [61]), .lit (.string [123]), .lit (.string [125]), .lit (.string [124]), .lit (.string [43]), .lit (.string [45]), .lit (.string [42]), .lit (.string [47]), .lit (.string [60])]

/-- 'gossamerlaw05.ScopePlaces': WHATEVER THE INPUT: true; the input reads as it did. -/
def scopePlacesSpec : ChangeSpec := { name := "scopePlaces", fn := fun _ => fun
  | [d] => { results := [.lit (.bool true)], args := [d] }
  | _ => none }
def scopePlacesRow : OpenClaim := { program := "ytobdoahdjbmflaadoor", sum := "9c9fcb50ff9d2b8faeaeeca4a87f227f86c97fd13ef3992ac530bd5325978583", func := "gossamer/gossamerlaw05.ScopePlaces", spec := "scopePlaces", unfollowed := true, recurses := true, named := ["gossamer/lex.signs"], loops := true, apart := false, laid := [("gossamer/lex.signs", laid_gossamer_lex_signs)] }
def ScopePlacesSaid : Prop := scopePlacesRow.holds Tryd.pinned (OpenSpec.ofChange scopePlacesSpec)

/-- ITS FALSE NEIGHBOUR: 'it returns false'. Refute it at one input. -/
def scopePlacesWrong : ChangeSpec := { name := "scopePlaces", fn := fun _ => fun
  | [d] => { results := [.lit (.bool false)], args := [d] }
  | _ => none }
def ScopePlacesWrongFalsely : Prop := scopePlacesRow.holds Tryd.pinned (OpenSpec.ofChange scopePlacesWrong)

/-- 'gossamerlaw05.ScopeLets': WHATEVER THE INPUT: true; the input reads as it did. -/
def scopeLetsSpec : ChangeSpec := { name := "scopeLets", fn := fun _ => fun
  | [d1, d2, d3] => { results := [.lit (.bool true)], args := [d1, d2, d3] }
  | _ => none }
def scopeLetsRow : OpenClaim := { program := "ytobdoahdjbmflaadoor", sum := "9c9fcb50ff9d2b8faeaeeca4a87f227f86c97fd13ef3992ac530bd5325978583", func := "gossamer/gossamerlaw05.ScopeLets", spec := "scopeLets", unfollowed := true, recurses := true, named := ["gossamer/lex.signs"], loops := true, apart := false, laid := [("gossamer/lex.signs", laid_gossamer_lex_signs)] }
def ScopeLetsSaid : Prop := scopeLetsRow.holds Tryd.pinned (OpenSpec.ofChange scopeLetsSpec)

/-- ITS FALSE NEIGHBOUR: 'it returns false'. Refute it at one input. -/
def scopeLetsWrong : ChangeSpec := { name := "scopeLets", fn := fun _ => fun
  | [d1, d2, d3] => { results := [.lit (.bool false)], args := [d1, d2, d3] }
  | _ => none }
def ScopeLetsWrongFalsely : Prop := scopeLetsRow.holds Tryd.pinned (OpenSpec.ofChange scopeLetsWrong)

/- THE SECOND FORM. 'bulk': how many values and letters a reading holds, each counted each time it is reached (what is shared counts as often as it is met; a slice's spare places count too). A statement '..UptoSaid' is the law's where the arguments, and the package variables that the reading takes, are together of bulk at most 1048576: NARROWER than '..Said'. Prove '..Said' where nothing that the law and all that it calls make is longer than what came in: it says more and counts as full. Else prove '..UptoSaid'. A law counts once. -/
mutual
def uptoBulk {H : Type} : DataW H → Nat
  | .lit (.string bytes) => bytes.length + 1
  | .lit _ => 1
  | .nil => 1
  | .ptr d => uptoBulk d + 1
  | .slice elems spare => uptoBulkAll elems + uptoBulkAll spare + 1
  | .agg parts => uptoBulkAll parts + 1
  | .iface _ d => uptoBulk d + 1
  | .map entries => uptoBulkEntries entries + 1
  | .held _ => 1
def uptoBulkAll {H : Type} : List (DataW H) → Nat
  | [] => 0
  | d :: r => uptoBulk d + uptoBulkAll r
def uptoBulkEntries {H : Type} : List (Lit × DataW H) → Nat
  | [] => 0
  | x :: r => uptoBulkEntry x + uptoBulkEntries r
def uptoBulkEntry {H : Type} : Lit × DataW H → Nat
  | (.string bytes, d) => bytes.length + uptoBulk d + 1
  | (_, d) => uptoBulk d + 1
 end
def uptoSmall : (H : Type) → List (DataW H) → Bool := fun _ ds => decide (uptoBulkAll ds ≤ 1048576)
def OpenSpec.upto (s : _root_.Go.ChangeSpec) : _root_.Go.OpenSpec := { _root_.Go.OpenSpec.ofChange s with cond := some uptoSmall }

/-- 'gossamerlaw05.ScopePlaces', WHERE WHAT IT READS IS OF BULK AT MOST 1048576: true; the input reads as it did. -/
def scopePlacesUptoRow : OpenClaim := { program := "ytobdoahdjbmflaadoor", sum := "9c9fcb50ff9d2b8faeaeeca4a87f227f86c97fd13ef3992ac530bd5325978583", func := "gossamer/gossamerlaw05.ScopePlaces", spec := "scopePlaces", unfollowed := true, recurses := true, named := ["gossamer/lex.signs"], loops := true, apart := false, laid := [("gossamer/lex.signs", laid_gossamer_lex_signs)], narrowed := true }
def ScopePlacesUptoSaid : Prop := scopePlacesUptoRow.holds Tryd.pinned (OpenSpec.upto scopePlacesSpec)

/-- 'gossamerlaw05.ScopeLets', WHERE WHAT IT READS IS OF BULK AT MOST 1048576: true; the input reads as it did. -/
def scopeLetsUptoRow : OpenClaim := { program := "ytobdoahdjbmflaadoor", sum := "9c9fcb50ff9d2b8faeaeeca4a87f227f86c97fd13ef3992ac530bd5325978583", func := "gossamer/gossamerlaw05.ScopeLets", spec := "scopeLets", unfollowed := true, recurses := true, named := ["gossamer/lex.signs"], loops := true, apart := false, laid := [("gossamer/lex.signs", laid_gossamer_lex_signs)], narrowed := true }
def ScopeLetsUptoSaid : Prop := scopeLetsUptoRow.holds Tryd.pinned (OpenSpec.upto scopeLetsSpec)

end Rows
end Go.Proofs.YtobdoahdjbmflaaDoor
