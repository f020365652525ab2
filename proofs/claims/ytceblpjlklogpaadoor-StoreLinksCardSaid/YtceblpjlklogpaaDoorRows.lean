/-
  NARROWER THAN 'FOR EVERY INPUT', by the rows' own cells (each row's printed sentence says how): StoreBack: laid · StoreParts: laid · StoreFills: laid · StoreLinks: laid · StorePorts: laid.
  DERIVED. THE GIVEN ROWS OF THIS SEAT. 5 by the template 'for every input the law returns true; each argument reads behind the call as it read before'; 0 by the template 'total and deterministic' (their statements: YtceblpjlklogpaaDoorTotals.lean).
  GIVEN WITH THE SEED: the statements are not yours to turn. If you find one false, say at which input.
  Laid BY PROGRAM, IN A SANDBOX (cutbox-rows.mjs): the forced cells as the released guide's own fill.sh prints them over the translation 172384d36c53650a… (all of the seat's roots in one cut). By AI agents, Wed Nov 11 2026. No macro, syntax, notation, axiom, sorry.
-/
import Derived.Test.YtceblpjlklogpaaDoorChecked
import GoSem.Claim
import GoSem.ClaimJoined
import GoSem.ClaimMapViews
import Derived.JoinedTies
import Derived.KernelRfl
namespace Go.Proofs.YtceblpjlklogpaaDoor
/- THE CELL 'sum', in the pinned program and in every row, IS THE sha256 OF THE DUMP (.gsa) THAT YtceblpjlklogpaaDoorProg.lean LOADS. Nothing in Lean hashes anything: it is a label: what it is worth is what the hold of that sum in a sandbox is worth. -/
noncomputable def Tryd.pinned : Pinned := { name := "ytceblpjlklogpaadoor", sum := "172384d36c53650af2a617abec3252f2186038e64753595702c51ad0d348a073", checked := Tryd.checked }
namespace Rows
def none {H : Type} : Left H := { results := [], args := [] }

/- WHAT THE LISTED PACKAGE-LEVEL VARIABLES READ AS WHEN THE CALL BEGINS. Each datum BY PROGRAM (the guide's laid-datum.mjs) off the statement by which the dump's own 'gosem.cut.vars' lays the variable. In a bare row this is a premise. The card (YtceblpjlklogpaaDoorCards.lean) ties it to the program's text. -/
def laid_gossamer_store_ports {H : Type} : DataW H := .agg [.lit (.int .i64 0), .lit (.int .i64 1), .lit (.int .i64 3), .lit (.int .i64 3), .lit (.int .i64 3), .lit (.int .i64 2), .lit (.int .i64 2), .lit (.int .i64 1), .lit (.int .i64 0), .lit (.int .i64 2), .lit (.int .i64 1), .lit (.int .i64 3), .lit (.int .i64 2), .lit (.int .i64 1)]

/-- 'gossamerlaw12.StoreBack': WHATEVER THE INPUT: true; the input reads as it did. -/
def storeBackSpec : ChangeSpec := { name := "storeBack", fn := fun _ => fun
  | [d1, d2] => { results := [.lit (.bool true)], args := [d1, d2] }
  | _ => none }
def storeBackRow : OpenClaim := { program := "ytceblpjlklogpaadoor", sum := "172384d36c53650af2a617abec3252f2186038e64753595702c51ad0d348a073", func := "gossamer/gossamerlaw12.StoreBack", spec := "storeBack", unfollowed := true, recurses := true, named := ["gossamer/store.ports"], apart := false, laid := [("gossamer/store.ports", laid_gossamer_store_ports)] }
def StoreBackSaid : Prop := storeBackRow.holds Tryd.pinned (OpenSpec.ofChange storeBackSpec)

/-- ITS FALSE NEIGHBOUR: 'it returns false'. Refute it at one input. -/
def storeBackWrong : ChangeSpec := { name := "storeBack", fn := fun _ => fun
  | [d1, d2] => { results := [.lit (.bool false)], args := [d1, d2] }
  | _ => none }
def StoreBackWrongFalsely : Prop := storeBackRow.holds Tryd.pinned (OpenSpec.ofChange storeBackWrong)

/-- 'gossamerlaw12.StoreParts': WHATEVER THE INPUT: true; the input reads as it did. -/
def storePartsSpec : ChangeSpec := { name := "storeParts", fn := fun _ => fun
  | [d1, d2] => { results := [.lit (.bool true)], args := [d1, d2] }
  | _ => none }
def storePartsRow : OpenClaim := { program := "ytceblpjlklogpaadoor", sum := "172384d36c53650af2a617abec3252f2186038e64753595702c51ad0d348a073", func := "gossamer/gossamerlaw12.StoreParts", spec := "storeParts", unfollowed := true, recurses := true, named := ["gossamer/store.ports"], apart := false, laid := [("gossamer/store.ports", laid_gossamer_store_ports)] }
def StorePartsSaid : Prop := storePartsRow.holds Tryd.pinned (OpenSpec.ofChange storePartsSpec)

/-- ITS FALSE NEIGHBOUR: 'it returns false'. Refute it at one input. -/
def storePartsWrong : ChangeSpec := { name := "storeParts", fn := fun _ => fun
  | [d1, d2] => { results := [.lit (.bool false)], args := [d1, d2] }
  | _ => none }
def StorePartsWrongFalsely : Prop := storePartsRow.holds Tryd.pinned (OpenSpec.ofChange storePartsWrong)

/-- 'gossamerlaw12.StoreFills': WHATEVER THE INPUT: true; the input reads as it did. -/
def storeFillsSpec : ChangeSpec := { name := "storeFills", fn := fun _ => fun
  | [d1, d2] => { results := [.lit (.bool true)], args := [d1, d2] }
  | _ => none }
def storeFillsRow : OpenClaim := { program := "ytceblpjlklogpaadoor", sum := "172384d36c53650af2a617abec3252f2186038e64753595702c51ad0d348a073", func := "gossamer/gossamerlaw12.StoreFills", spec := "storeFills", unfollowed := true, recurses := true, named := ["gossamer/store.ports"], apart := false, laid := [("gossamer/store.ports", laid_gossamer_store_ports)] }
def StoreFillsSaid : Prop := storeFillsRow.holds Tryd.pinned (OpenSpec.ofChange storeFillsSpec)

/-- ITS FALSE NEIGHBOUR: 'it returns false'. Refute it at one input. -/
def storeFillsWrong : ChangeSpec := { name := "storeFills", fn := fun _ => fun
  | [d1, d2] => { results := [.lit (.bool false)], args := [d1, d2] }
  | _ => none }
def StoreFillsWrongFalsely : Prop := storeFillsRow.holds Tryd.pinned (OpenSpec.ofChange storeFillsWrong)

/-- 'gossamerlaw12.StoreLinks': WHATEVER THE INPUT: true; the input reads as it did. -/
def storeLinksSpec : ChangeSpec := { name := "storeLinks", fn := fun _ => fun
  | [d1, d2, d3] => { results := [.lit (.bool true)], args := [d1, d2, d3] }
  | _ => none }
def storeLinksRow : OpenClaim := { program := "ytceblpjlklogpaadoor", sum := "172384d36c53650af2a617abec3252f2186038e64753595702c51ad0d348a073", func := "gossamer/gossamerlaw12.StoreLinks", spec := "storeLinks", unfollowed := true, recurses := true, named := ["gossamer/store.ports"], apart := false, laid := [("gossamer/store.ports", laid_gossamer_store_ports)] }
def StoreLinksSaid : Prop := storeLinksRow.holds Tryd.pinned (OpenSpec.ofChange storeLinksSpec)

/-- ITS FALSE NEIGHBOUR: 'it returns false'. Refute it at one input. -/
def storeLinksWrong : ChangeSpec := { name := "storeLinks", fn := fun _ => fun
  | [d1, d2, d3] => { results := [.lit (.bool false)], args := [d1, d2, d3] }
  | _ => none }
def StoreLinksWrongFalsely : Prop := storeLinksRow.holds Tryd.pinned (OpenSpec.ofChange storeLinksWrong)

/-- 'gossamerlaw12.StorePorts': WHATEVER THE INPUT: true; the input reads as it did. -/
def storePortsSpec : ChangeSpec := { name := "storePorts", fn := fun _ => fun
  | [d] => { results := [.lit (.bool true)], args := [d] }
  | _ => none }
def storePortsRow : OpenClaim := { program := "ytceblpjlklogpaadoor", sum := "172384d36c53650af2a617abec3252f2186038e64753595702c51ad0d348a073", func := "gossamer/gossamerlaw12.StorePorts", spec := "storePorts", unfollowed := true, recurses := true, named := ["gossamer/store.ports"], apart := false, laid := [("gossamer/store.ports", laid_gossamer_store_ports)] }
def StorePortsSaid : Prop := storePortsRow.holds Tryd.pinned (OpenSpec.ofChange storePortsSpec)

/-- ITS FALSE NEIGHBOUR: 'it returns false'. Refute it at one input. -/
def storePortsWrong : ChangeSpec := { name := "storePorts", fn := fun _ => fun
  | [d] => { results := [.lit (.bool false)], args := [d] }
  | _ => none }
def StorePortsWrongFalsely : Prop := storePortsRow.holds Tryd.pinned (OpenSpec.ofChange storePortsWrong)

/- THE SECOND FORM. 'bulk': how many values and letters a reading holds, each counted each time it is reached (what is shared counts as often as it is met; a slice's spare places count too). A statement '..UptoSaid' is the law's where the arguments, and the package variables that the reading takes, are together of bulk at most 1048576: NARROWER than '..Said'. Prove '..Said' where nothing that the law and all that it calls make is longer than what came in: it says more and counts as full. Else prove '..UptoSaid'. A law counts once. -/
mutual
def uptoBulk {H : Type} : DataW H → Nat
  | .lit (.string bytes) => bytes.length + 1
  | .lit _ => 1
  | .nil => 1
  | .ptr d => uptoBulk d + 1
  | .slice elems spare => uptoBulkAll elems + uptoBulkAll spare + 1
  | .agg parts => uptoBulkAll parts + 1
  | .iface _ d => uptoBulk d + 1
  | .map entries => uptoBulkEntries entries + 1
  | .held _ => 1
def uptoBulkAll {H : Type} : List (DataW H) → Nat
  | [] => 0
  | d :: r => uptoBulk d + uptoBulkAll r
def uptoBulkEntries {H : Type} : List (Lit × DataW H) → Nat
  | [] => 0
  | x :: r => uptoBulkEntry x + uptoBulkEntries r
def uptoBulkEntry {H : Type} : Lit × DataW H → Nat
  | (.string bytes, d) => bytes.length + uptoBulk d + 1
  | (_, d) => uptoBulk d + 1
 end
def uptoSmall : (H : Type) → List (DataW H) → Bool := fun _ ds => decide (uptoBulkAll ds ≤ 1048576)
def OpenSpec.upto (s : _root_.Go.ChangeSpec) : _root_.Go.OpenSpec := { _root_.Go.OpenSpec.ofChange s with cond := some uptoSmall }

/-- 'gossamerlaw12.StoreBack', WHERE WHAT IT READS IS OF BULK AT MOST 1048576: true; the input reads as it did. -/
def storeBackUptoRow : OpenClaim := { program := "ytceblpjlklogpaadoor", sum := "172384d36c53650af2a617abec3252f2186038e64753595702c51ad0d348a073", func := "gossamer/gossamerlaw12.StoreBack", spec := "storeBack", unfollowed := true, recurses := true, named := ["gossamer/store.ports"], apart := false, laid := [("gossamer/store.ports", laid_gossamer_store_ports)], narrowed := true }
def StoreBackUptoSaid : Prop := storeBackUptoRow.holds Tryd.pinned (OpenSpec.upto storeBackSpec)

/-- 'gossamerlaw12.StoreParts', WHERE WHAT IT READS IS OF BULK AT MOST 1048576: true; the input reads as it did. -/
def storePartsUptoRow : OpenClaim := { program := "ytceblpjlklogpaadoor", sum := "172384d36c53650af2a617abec3252f2186038e64753595702c51ad0d348a073", func := "gossamer/gossamerlaw12.StoreParts", spec := "storeParts", unfollowed := true, recurses := true, named := ["gossamer/store.ports"], apart := false, laid := [("gossamer/store.ports", laid_gossamer_store_ports)], narrowed := true }
def StorePartsUptoSaid : Prop := storePartsUptoRow.holds Tryd.pinned (OpenSpec.upto storePartsSpec)

/-- 'gossamerlaw12.StoreFills', WHERE WHAT IT READS IS OF BULK AT MOST 1048576: true; the input reads as it did. -/
def storeFillsUptoRow : OpenClaim := { program := "ytceblpjlklogpaadoor", sum := "172384d36c53650af2a617abec3252f2186038e64753595702c51ad0d348a073", func := "gossamer/gossamerlaw12.StoreFills", spec := "storeFills", unfollowed := true, recurses := true, named := ["gossamer/store.ports"], apart := false, laid := [("gossamer/store.ports", laid_gossamer_store_ports)], narrowed := true }
def StoreFillsUptoSaid : Prop := storeFillsUptoRow.holds Tryd.pinned (OpenSpec.upto storeFillsSpec)

/-- 'gossamerlaw12.StoreLinks', WHERE WHAT IT READS IS OF BULK AT MOST 1048576: true; the input reads as it did. -/
def storeLinksUptoRow : OpenClaim := { program := "ytceblpjlklogpaadoor", sum := "172384d36c53650af2a617abec3252f2186038e64753595702c51ad0d348a073", func := "gossamer/gossamerlaw12.StoreLinks", spec := "storeLinks", unfollowed := true, recurses := true, named := ["gossamer/store.ports"], apart := false, laid := [("gossamer/store.ports", laid_gossamer_store_ports)], narrowed := true }
def StoreLinksUptoSaid : Prop := storeLinksUptoRow.holds Tryd.pinned (OpenSpec.upto storeLinksSpec)

/-- 'gossamerlaw12.StorePorts', WHERE WHAT IT READS IS OF BULK AT MOST 1048576: true; the input reads as it did. -/
def storePortsUptoRow : OpenClaim := { program := "ytceblpjlklogpaadoor", sum := "172384d36c53650af2a617abec3252f2186038e64753595702c51ad0d348a073", func := "gossamer/gossamerlaw12.StorePorts", spec := "storePorts", unfollowed := true, recurses := true, named := ["gossamer/store.ports"], apart := false, laid := [("gossamer/store.ports", laid_gossamer_store_ports)], narrowed := true }
def StorePortsUptoSaid : Prop := storePortsUptoRow.holds Tryd.pinned (OpenSpec.upto storePortsSpec)

end Rows
end Go.Proofs.YtceblpjlklogpaaDoor
