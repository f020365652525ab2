/-
  NARROWER THAN 'FOR EVERY INPUT', by the rows' own cells (each row's printed sentence says how): ScopeTells: loops, laid · ScopeCloses: loops, laid · ScopeMoved: loops, laid · ScopeCons: loops, laid.
  DERIVED. THE GIVEN ROWS OF THIS SEAT. 4 by the template 'for every input the law returns true; each argument reads behind the call as it read before'; 0 by the template 'total and deterministic' (their statements: YtobdoahdjbmflaaGreatDoorTotals.lean).
  GIVEN WITH THE SEED: the statements are not yours to turn. If you find one false, say at which input.
  Laid BY PROGRAM, IN A SANDBOX (cutbox-rows.mjs): the forced cells as the released guide's own fill.sh prints them over the translation 66b14ee86a6147a2… (all of the seat's roots in one cut). By AI agents, Wed Nov 11 2026. No macro, syntax, notation, axiom, sorry.
-/
import Derived.Test.YtobdoahdjbmflaaGreatDoorChecked
import GoSem.Claim
import GoSem.ClaimJoined
import GoSem.ClaimMapViews
import Derived.JoinedTies
import Derived.KernelRfl
namespace Go.Proofs.YtobdoahdjbmflaaGreatDoor
/- THE CELL 'sum', in the pinned program and in every row, IS THE sha256 OF THE DUMP (.gsa) THAT YtobdoahdjbmflaaGreatDoorProg.lean LOADS. Nothing in Lean hashes anything: it is a label: what it is worth is what the hold of that sum in a sandbox is worth. -/
noncomputable def Tryz.pinned : Pinned := { name := "ytobdoahdjbmflaagreatdoor", sum := "66b14ee86a6147a28e006ef55d9c7e3bc41366e6c854f5ad1e77eb2d06d2f133", checked := Tryz.checked }
namespace Rows
def none {H : Type} : Left H := { results := [], args := [] }

/- WHAT THE LISTED PACKAGE-LEVEL VARIABLES READ AS WHEN THE CALL BEGINS. Each datum BY PROGRAM (the guide's laid-datum.mjs) off the statement by which the dump's own 'gosem.cut.vars' lays the variable. In a bare row this is a premise. The card (YtobdoahdjbmflaaGreatDoorCards.lean) ties it to the program's text. -/
def laid_gossamer_lex_signs {H : Type} : DataW H := .agg [.lit (.string [45, 62]), .lit (.string [61, 61]), .lit (.string [92]), .lit (.string [46]), .lit (.string [40]), .lit (.string [41]), .lit (.string [61]), .lit (.string [123]), .lit (.string [125]), .lit (.string [124]), .lit (.string [43]), .lit (.string [45]), .lit (.string [42]), .lit (.string [47]), .lit (.string [60])]

/-- 'gossamerlaw05.ScopeTells': WHATEVER THE INPUT: true; the input reads as it did. -/
def scopeTellsSpec : ChangeSpec := { name := "scopeTells", fn := fun _ => fun
  | [d] => { results := [.lit (.bool true)], args := [d] }
  | _ => none }
def scopeTellsRow : OpenClaim := { program := "ytobdoahdjbmflaagreatdoor", sum := "66b14ee86a6147a28e006ef55d9c7e3bc41366e6c854f5ad1e77eb2d06d2f133", func := "gossamer/gossamerlaw05.ScopeTells", spec := "scopeTells", unfollowed := true, recurses := true, named := ["gossamer/lex.signs"], loops := true, apart := false, laid := [("gossamer/lex.signs", laid_gossamer_lex_signs)] }
def ScopeTellsSaid : Prop := scopeTellsRow.holds Tryz.pinned (OpenSpec.ofChange scopeTellsSpec)

/-- ITS FALSE NEIGHBOUR: 'it returns false'. Refute it at one input. -/
def scopeTellsWrong : ChangeSpec := { name := "scopeTells", fn := fun _ => fun
  | [d] => { results := [.lit (.bool false)], args := [d] }
  | _ => none }
def ScopeTellsWrongFalsely : Prop := scopeTellsRow.holds Tryz.pinned (OpenSpec.ofChange scopeTellsWrong)

/-- 'gossamerlaw05.ScopeCloses': WHATEVER THE INPUT: true; the input reads as it did. -/
def scopeClosesSpec : ChangeSpec := { name := "scopeCloses", fn := fun _ => fun
  | [d1, d2] => { results := [.lit (.bool true)], args := [d1, d2] }
  | _ => none }
def scopeClosesRow : OpenClaim := { program := "ytobdoahdjbmflaagreatdoor", sum := "66b14ee86a6147a28e006ef55d9c7e3bc41366e6c854f5ad1e77eb2d06d2f133", func := "gossamer/gossamerlaw05.ScopeCloses", spec := "scopeCloses", unfollowed := true, recurses := true, named := ["gossamer/lex.signs"], loops := true, apart := false, laid := [("gossamer/lex.signs", laid_gossamer_lex_signs)] }
def ScopeClosesSaid : Prop := scopeClosesRow.holds Tryz.pinned (OpenSpec.ofChange scopeClosesSpec)

/-- ITS FALSE NEIGHBOUR: 'it returns false'. Refute it at one input. -/
def scopeClosesWrong : ChangeSpec := { name := "scopeCloses", fn := fun _ => fun
  | [d1, d2] => { results := [.lit (.bool false)], args := [d1, d2] }
  | _ => none }
def ScopeClosesWrongFalsely : Prop := scopeClosesRow.holds Tryz.pinned (OpenSpec.ofChange scopeClosesWrong)

/-- 'gossamerlaw05.ScopeMoved': WHATEVER THE INPUT: true; the input reads as it did. -/
def scopeMovedSpec : ChangeSpec := { name := "scopeMoved", fn := fun _ => fun
  | [d] => { results := [.lit (.bool true)], args := [d] }
  | _ => none }
def scopeMovedRow : OpenClaim := { program := "ytobdoahdjbmflaagreatdoor", sum := "66b14ee86a6147a28e006ef55d9c7e3bc41366e6c854f5ad1e77eb2d06d2f133", func := "gossamer/gossamerlaw05.ScopeMoved", spec := "scopeMoved", unfollowed := true, recurses := true, named := ["gossamer/lex.signs"], loops := true, apart := false, laid := [("gossamer/lex.signs", laid_gossamer_lex_signs)] }
def ScopeMovedSaid : Prop := scopeMovedRow.holds Tryz.pinned (OpenSpec.ofChange scopeMovedSpec)

/-- ITS FALSE NEIGHBOUR: 'it returns false'. Refute it at one input. -/
def scopeMovedWrong : ChangeSpec := { name := "scopeMoved", fn := fun _ => fun
  | [d] => { results := [.lit (.bool false)], args := [d] }
  | _ => none }
def ScopeMovedWrongFalsely : Prop := scopeMovedRow.holds Tryz.pinned (OpenSpec.ofChange scopeMovedWrong)

/-- 'gossamerlaw05.ScopeCons': WHATEVER THE INPUT: true; the input reads as it did. -/
def scopeConsSpec : ChangeSpec := { name := "scopeCons", fn := fun _ => fun
  | [d1, d2] => { results := [.lit (.bool true)], args := [d1, d2] }
  | _ => none }
def scopeConsRow : OpenClaim := { program := "ytobdoahdjbmflaagreatdoor", sum := "66b14ee86a6147a28e006ef55d9c7e3bc41366e6c854f5ad1e77eb2d06d2f133", func := "gossamer/gossamerlaw05.ScopeCons", spec := "scopeCons", unfollowed := true, recurses := true, named := ["gossamer/lex.signs"], loops := true, apart := false, laid := [("gossamer/lex.signs", laid_gossamer_lex_signs)] }
def ScopeConsSaid : Prop := scopeConsRow.holds Tryz.pinned (OpenSpec.ofChange scopeConsSpec)

/-- ITS FALSE NEIGHBOUR: 'it returns false'. Refute it at one input. -/
def scopeConsWrong : ChangeSpec := { name := "scopeCons", fn := fun _ => fun
  | [d1, d2] => { results := [.lit (.bool false)], args := [d1, d2] }
  | _ => none }
def ScopeConsWrongFalsely : Prop := scopeConsRow.holds Tryz.pinned (OpenSpec.ofChange scopeConsWrong)

/- THE SECOND FORM. 'bulk': how many values and letters a reading holds, each counted each time it is reached (what is shared counts as often as it is met; a slice's spare places count too). A statement '..UptoSaid' is the law's where the arguments, and the package variables that the reading takes, are together of bulk at most 1048576: NARROWER than '..Said'. Prove '..Said' where nothing that the law and all that it calls make is longer than what came in: it says more and counts as full. Else prove '..UptoSaid'. A law counts once. -/
mutual
def uptoBulk {H : Type} : DataW H → Nat
  | .lit (.string bytes) => bytes.length + 1
  | .lit _ => 1
  | .nil => 1
  | .ptr d => uptoBulk d + 1
  | .slice elems spare => uptoBulkAll elems + uptoBulkAll spare + 1
  | .agg parts => uptoBulkAll parts + 1
  | .iface _ d => uptoBulk d + 1
  | .map entries => uptoBulkEntries entries + 1
  | .held _ => 1
def uptoBulkAll {H : Type} : List (DataW H) → Nat
  | [] => 0
  | d :: r => uptoBulk d + uptoBulkAll r
def uptoBulkEntries {H : Type} : List (Lit × DataW H) → Nat
  | [] => 0
  | x :: r => uptoBulkEntry x + uptoBulkEntries r
def uptoBulkEntry {H : Type} : Lit × DataW H → Nat
  | (.string bytes, d) => bytes.length + uptoBulk d + 1
  | (_, d) => uptoBulk d + 1
 end
def uptoSmall : (H : Type) → List (DataW H) → Bool := fun _ ds => decide (uptoBulkAll ds ≤ 1048576)
def OpenSpec.upto (s : _root_.Go.ChangeSpec) : _root_.Go.OpenSpec := { _root_.Go.OpenSpec.ofChange s with cond := some uptoSmall }

/-- 'gossamerlaw05.ScopeTells', WHERE WHAT IT READS IS OF BULK AT MOST 1048576: true; the input reads as it did. -/
def scopeTellsUptoRow : OpenClaim := { program := "ytobdoahdjbmflaagreatdoor", sum := "66b14ee86a6147a28e006ef55d9c7e3bc41366e6c854f5ad1e77eb2d06d2f133", func := "gossamer/gossamerlaw05.ScopeTells", spec := "scopeTells", unfollowed := true, recurses := true, named := ["gossamer/lex.signs"], loops := true, apart := false, laid := [("gossamer/lex.signs", laid_gossamer_lex_signs)], narrowed := true }
def ScopeTellsUptoSaid : Prop := scopeTellsUptoRow.holds Tryz.pinned (OpenSpec.upto scopeTellsSpec)

/-- 'gossamerlaw05.ScopeCloses', WHERE WHAT IT READS IS OF BULK AT MOST 1048576: true; the input reads as it did. -/
def scopeClosesUptoRow : OpenClaim := { program := "ytobdoahdjbmflaagreatdoor", sum := "66b14ee86a6147a28e006ef55d9c7e3bc41366e6c854f5ad1e77eb2d06d2f133", func := "gossamer/gossamerlaw05.ScopeCloses", spec := "scopeCloses", unfollowed := true, recurses := true, named := ["gossamer/lex.signs"], loops := true, apart := false, laid := [("gossamer/lex.signs", laid_gossamer_lex_signs)], narrowed := true }
def ScopeClosesUptoSaid : Prop := scopeClosesUptoRow.holds Tryz.pinned (OpenSpec.upto scopeClosesSpec)

/-- 'gossamerlaw05.ScopeMoved', WHERE WHAT IT READS IS OF BULK AT MOST 1048576: true; the input reads as it did. -/
def scopeMovedUptoRow : OpenClaim := { program := "ytobdoahdjbmflaagreatdoor", sum := "66b14ee86a6147a28e006ef55d9c7e3bc41366e6c854f5ad1e77eb2d06d2f133", func := "gossamer/gossamerlaw05.ScopeMoved", spec := "scopeMoved", unfollowed := true, recurses := true, named := ["gossamer/lex.signs"], loops := true, apart := false, laid := [("gossamer/lex.signs", laid_gossamer_lex_signs)], narrowed := true }
def ScopeMovedUptoSaid : Prop := scopeMovedUptoRow.holds Tryz.pinned (OpenSpec.upto scopeMovedSpec)

/-- 'gossamerlaw05.ScopeCons', WHERE WHAT IT READS IS OF BULK AT MOST 1048576: true; the input reads as it did. -/
def scopeConsUptoRow : OpenClaim := { program := "ytobdoahdjbmflaagreatdoor", sum := "66b14ee86a6147a28e006ef55d9c7e3bc41366e6c854f5ad1e77eb2d06d2f133", func := "gossamer/gossamerlaw05.ScopeCons", spec := "scopeCons", unfollowed := true, recurses := true, named := ["gossamer/lex.signs"], loops := true, apart := false, laid := [("gossamer/lex.signs", laid_gossamer_lex_signs)], narrowed := true }
def ScopeConsUptoSaid : Prop := scopeConsUptoRow.holds Tryz.pinned (OpenSpec.upto scopeConsSpec)

end Rows
end Go.Proofs.YtobdoahdjbmflaaGreatDoor
