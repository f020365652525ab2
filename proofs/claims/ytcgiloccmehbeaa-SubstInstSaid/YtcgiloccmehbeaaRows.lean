/-
  NARROWER THAN 'FOR EVERY INPUT', by the rows' own cells (each row's printed sentence says how): SubstTells: loops · SubstInst: loops · SubstSwaps: loops · SubstUses: loops · SubstUps: loops · SubstBinds: loops.
  DERIVED. THE GIVEN ROWS OF THIS SEAT. 6 by the template 'for every input the law returns true; each argument reads behind the call as it read before'; 0 by the template 'total and deterministic' (their statements: YtcgiloccmehbeaaTotals.lean).
  GIVEN WITH THE SEED: the statements are not yours to turn. If you find one false, say at which input.
  Laid BY PROGRAM, IN A SANDBOX (cutbox-rows.mjs): the forced cells as the released guide's own fill.sh prints them over the translation db05675bf10e5c29… (all of the seat's roots in one cut). By AI agents, Wed Nov 11 2026. No macro, syntax, notation, axiom, sorry.
-/
import Derived.Test.YtcgiloccmehbeaaChecked
import GoSem.Claim
import GoSem.ClaimJoined
import GoSem.ClaimMapViews
import Derived.JoinedTies
import Derived.KernelRfl
namespace Go.Proofs.Ytcgiloccmehbeaa
/- THE CELL 'sum', in the pinned program and in every row, IS THE sha256 OF THE DUMP (.gsa) THAT YtcgiloccmehbeaaProg.lean LOADS. Nothing in Lean hashes anything: it is a label: what it is worth is what the hold of that sum in a sandbox is worth. -/
noncomputable def Try.pinned : Pinned := { name := "ytcgiloccmehbeaa", sum := "db05675bf10e5c29624690b0a0af37f7674bd6c536102afa7eaf571d6c7d6218", checked := Try.checked }
namespace Rows
def none {H : Type} : Left H := { results := [], args := [] }

/-- 'gossamerlaw08.SubstTells': WHATEVER THE INPUT: true; the input reads as it did. -/
def substTellsSpec : ChangeSpec := { name := "substTells", fn := fun _ => fun
  | [d1, d2, d3] => { results := [.lit (.bool true)], args := [d1, d2, d3] }
  | _ => none }
def substTellsRow : OpenClaim := { program := "ytcgiloccmehbeaa", sum := "db05675bf10e5c29624690b0a0af37f7674bd6c536102afa7eaf571d6c7d6218", func := "gossamer/gossamerlaw08.SubstTells", spec := "substTells", unfollowed := true, recurses := true, loops := true, apart := false }
def SubstTellsSaid : Prop := substTellsRow.holds Try.pinned (OpenSpec.ofChange substTellsSpec)

/-- ITS FALSE NEIGHBOUR: 'it returns false'. Refute it at one input. -/
def substTellsWrong : ChangeSpec := { name := "substTells", fn := fun _ => fun
  | [d1, d2, d3] => { results := [.lit (.bool false)], args := [d1, d2, d3] }
  | _ => none }
def SubstTellsWrongFalsely : Prop := substTellsRow.holds Try.pinned (OpenSpec.ofChange substTellsWrong)

/-- 'gossamerlaw08.SubstInst': WHATEVER THE INPUT: true; the input reads as it did. -/
def substInstSpec : ChangeSpec := { name := "substInst", fn := fun _ => fun
  | [d1, d2] => { results := [.lit (.bool true)], args := [d1, d2] }
  | _ => none }
def substInstRow : OpenClaim := { program := "ytcgiloccmehbeaa", sum := "db05675bf10e5c29624690b0a0af37f7674bd6c536102afa7eaf571d6c7d6218", func := "gossamer/gossamerlaw08.SubstInst", spec := "substInst", unfollowed := true, recurses := true, loops := true, apart := false }
def SubstInstSaid : Prop := substInstRow.holds Try.pinned (OpenSpec.ofChange substInstSpec)

/-- ITS FALSE NEIGHBOUR: 'it returns false'. Refute it at one input. -/
def substInstWrong : ChangeSpec := { name := "substInst", fn := fun _ => fun
  | [d1, d2] => { results := [.lit (.bool false)], args := [d1, d2] }
  | _ => none }
def SubstInstWrongFalsely : Prop := substInstRow.holds Try.pinned (OpenSpec.ofChange substInstWrong)

/-- 'gossamerlaw08.SubstSwaps': WHATEVER THE INPUT: true; the input reads as it did. -/
def substSwapsSpec : ChangeSpec := { name := "substSwaps", fn := fun _ => fun
  | [d1, d2, d3] => { results := [.lit (.bool true)], args := [d1, d2, d3] }
  | _ => none }
def substSwapsRow : OpenClaim := { program := "ytcgiloccmehbeaa", sum := "db05675bf10e5c29624690b0a0af37f7674bd6c536102afa7eaf571d6c7d6218", func := "gossamer/gossamerlaw08.SubstSwaps", spec := "substSwaps", unfollowed := true, recurses := true, loops := true, apart := false }
def SubstSwapsSaid : Prop := substSwapsRow.holds Try.pinned (OpenSpec.ofChange substSwapsSpec)

/-- ITS FALSE NEIGHBOUR: 'it returns false'. Refute it at one input. -/
def substSwapsWrong : ChangeSpec := { name := "substSwaps", fn := fun _ => fun
  | [d1, d2, d3] => { results := [.lit (.bool false)], args := [d1, d2, d3] }
  | _ => none }
def SubstSwapsWrongFalsely : Prop := substSwapsRow.holds Try.pinned (OpenSpec.ofChange substSwapsWrong)

/-- 'gossamerlaw08.SubstUses': WHATEVER THE INPUT: true; the input reads as it did. -/
def substUsesSpec : ChangeSpec := { name := "substUses", fn := fun _ => fun
  | [d1, d2, d3] => { results := [.lit (.bool true)], args := [d1, d2, d3] }
  | _ => none }
def substUsesRow : OpenClaim := { program := "ytcgiloccmehbeaa", sum := "db05675bf10e5c29624690b0a0af37f7674bd6c536102afa7eaf571d6c7d6218", func := "gossamer/gossamerlaw08.SubstUses", spec := "substUses", unfollowed := true, recurses := true, loops := true, apart := false }
def SubstUsesSaid : Prop := substUsesRow.holds Try.pinned (OpenSpec.ofChange substUsesSpec)

/-- ITS FALSE NEIGHBOUR: 'it returns false'. Refute it at one input. -/
def substUsesWrong : ChangeSpec := { name := "substUses", fn := fun _ => fun
  | [d1, d2, d3] => { results := [.lit (.bool false)], args := [d1, d2, d3] }
  | _ => none }
def SubstUsesWrongFalsely : Prop := substUsesRow.holds Try.pinned (OpenSpec.ofChange substUsesWrong)

/-- 'gossamerlaw08.SubstUps': WHATEVER THE INPUT: true; the input reads as it did. -/
def substUpsSpec : ChangeSpec := { name := "substUps", fn := fun _ => fun
  | [d1, d2] => { results := [.lit (.bool true)], args := [d1, d2] }
  | _ => none }
def substUpsRow : OpenClaim := { program := "ytcgiloccmehbeaa", sum := "db05675bf10e5c29624690b0a0af37f7674bd6c536102afa7eaf571d6c7d6218", func := "gossamer/gossamerlaw08.SubstUps", spec := "substUps", unfollowed := true, recurses := true, loops := true, apart := false }
def SubstUpsSaid : Prop := substUpsRow.holds Try.pinned (OpenSpec.ofChange substUpsSpec)

/-- ITS FALSE NEIGHBOUR: 'it returns false'. Refute it at one input. -/
def substUpsWrong : ChangeSpec := { name := "substUps", fn := fun _ => fun
  | [d1, d2] => { results := [.lit (.bool false)], args := [d1, d2] }
  | _ => none }
def SubstUpsWrongFalsely : Prop := substUpsRow.holds Try.pinned (OpenSpec.ofChange substUpsWrong)

/-- 'gossamerlaw08.SubstBinds': WHATEVER THE INPUT: true; the input reads as it did. -/
def substBindsSpec : ChangeSpec := { name := "substBinds", fn := fun _ => fun
  | [d1, d2, d3] => { results := [.lit (.bool true)], args := [d1, d2, d3] }
  | _ => none }
def substBindsRow : OpenClaim := { program := "ytcgiloccmehbeaa", sum := "db05675bf10e5c29624690b0a0af37f7674bd6c536102afa7eaf571d6c7d6218", func := "gossamer/gossamerlaw08.SubstBinds", spec := "substBinds", unfollowed := true, recurses := true, loops := true, apart := false }
def SubstBindsSaid : Prop := substBindsRow.holds Try.pinned (OpenSpec.ofChange substBindsSpec)

/-- ITS FALSE NEIGHBOUR: 'it returns false'. Refute it at one input. -/
def substBindsWrong : ChangeSpec := { name := "substBinds", fn := fun _ => fun
  | [d1, d2, d3] => { results := [.lit (.bool false)], args := [d1, d2, d3] }
  | _ => none }
def SubstBindsWrongFalsely : Prop := substBindsRow.holds Try.pinned (OpenSpec.ofChange substBindsWrong)

/- THE SECOND FORM. 'bulk': how many values and letters a reading holds, each counted each time it is reached (what is shared counts as often as it is met; a slice's spare places count too). A statement '..UptoSaid' is the law's where the arguments, and the package variables that the reading takes, are together of bulk at most 1048576: NARROWER than '..Said'. Prove '..Said' where nothing that the law and all that it calls make is longer than what came in: it says more and counts as full. Else prove '..UptoSaid'. A law counts once. -/
mutual
def uptoBulk {H : Type} : DataW H → Nat
  | .lit (.string bytes) => bytes.length + 1
  | .lit _ => 1
  | .nil => 1
  | .ptr d => uptoBulk d + 1
  | .slice elems spare => uptoBulkAll elems + uptoBulkAll spare + 1
  | .agg parts => uptoBulkAll parts + 1
  | .iface _ d => uptoBulk d + 1
  | .map entries => uptoBulkEntries entries + 1
  | .held _ => 1
def uptoBulkAll {H : Type} : List (DataW H) → Nat
  | [] => 0
  | d :: r => uptoBulk d + uptoBulkAll r
def uptoBulkEntries {H : Type} : List (Lit × DataW H) → Nat
  | [] => 0
  | x :: r => uptoBulkEntry x + uptoBulkEntries r
def uptoBulkEntry {H : Type} : Lit × DataW H → Nat
  | (.string bytes, d) => bytes.length + uptoBulk d + 1
  | (_, d) => uptoBulk d + 1
 end
def uptoSmall : (H : Type) → List (DataW H) → Bool := fun _ ds => decide (uptoBulkAll ds ≤ 1048576)
def OpenSpec.upto (s : _root_.Go.ChangeSpec) : _root_.Go.OpenSpec := { _root_.Go.OpenSpec.ofChange s with cond := some uptoSmall }

/-- 'gossamerlaw08.SubstTells', WHERE WHAT IT READS IS OF BULK AT MOST 1048576: true; the input reads as it did. -/
def substTellsUptoRow : OpenClaim := { program := "ytcgiloccmehbeaa", sum := "db05675bf10e5c29624690b0a0af37f7674bd6c536102afa7eaf571d6c7d6218", func := "gossamer/gossamerlaw08.SubstTells", spec := "substTells", unfollowed := true, recurses := true, loops := true, apart := false, narrowed := true }
def SubstTellsUptoSaid : Prop := substTellsUptoRow.holds Try.pinned (OpenSpec.upto substTellsSpec)

/-- 'gossamerlaw08.SubstInst', WHERE WHAT IT READS IS OF BULK AT MOST 1048576: true; the input reads as it did. -/
def substInstUptoRow : OpenClaim := { program := "ytcgiloccmehbeaa", sum := "db05675bf10e5c29624690b0a0af37f7674bd6c536102afa7eaf571d6c7d6218", func := "gossamer/gossamerlaw08.SubstInst", spec := "substInst", unfollowed := true, recurses := true, loops := true, apart := false, narrowed := true }
def SubstInstUptoSaid : Prop := substInstUptoRow.holds Try.pinned (OpenSpec.upto substInstSpec)

/-- 'gossamerlaw08.SubstSwaps', WHERE WHAT IT READS IS OF BULK AT MOST 1048576: true; the input reads as it did. -/
def substSwapsUptoRow : OpenClaim := { program := "ytcgiloccmehbeaa", sum := "db05675bf10e5c29624690b0a0af37f7674bd6c536102afa7eaf571d6c7d6218", func := "gossamer/gossamerlaw08.SubstSwaps", spec := "substSwaps", unfollowed := true, recurses := true, loops := true, apart := false, narrowed := true }
def SubstSwapsUptoSaid : Prop := substSwapsUptoRow.holds Try.pinned (OpenSpec.upto substSwapsSpec)

/-- 'gossamerlaw08.SubstUses', WHERE WHAT IT READS IS OF BULK AT MOST 1048576: true; the input reads as it did. -/
def substUsesUptoRow : OpenClaim := { program := "ytcgiloccmehbeaa", sum := "db05675bf10e5c29624690b0a0af37f7674bd6c536102afa7eaf571d6c7d6218", func := "gossamer/gossamerlaw08.SubstUses", spec := "substUses", unfollowed := true, recurses := true, loops := true, apart := false, narrowed := true }
def SubstUsesUptoSaid : Prop := substUsesUptoRow.holds Try.pinned (OpenSpec.upto substUsesSpec)

/-- 'gossamerlaw08.SubstUps', WHERE WHAT IT READS IS OF BULK AT MOST 1048576: true; the input reads as it did. -/
def substUpsUptoRow : OpenClaim := { program := "ytcgiloccmehbeaa", sum := "db05675bf10e5c29624690b0a0af37f7674bd6c536102afa7eaf571d6c7d6218", func := "gossamer/gossamerlaw08.SubstUps", spec := "substUps", unfollowed := true, recurses := true, loops := true, apart := false, narrowed := true }
def SubstUpsUptoSaid : Prop := substUpsUptoRow.holds Try.pinned (OpenSpec.upto substUpsSpec)

/-- 'gossamerlaw08.SubstBinds', WHERE WHAT IT READS IS OF BULK AT MOST 1048576: true; the input reads as it did. -/
def substBindsUptoRow : OpenClaim := { program := "ytcgiloccmehbeaa", sum := "db05675bf10e5c29624690b0a0af37f7674bd6c536102afa7eaf571d6c7d6218", func := "gossamer/gossamerlaw08.SubstBinds", spec := "substBinds", unfollowed := true, recurses := true, loops := true, apart := false, narrowed := true }
def SubstBindsUptoSaid : Prop := substBindsUptoRow.holds Try.pinned (OpenSpec.upto substBindsSpec)

end Rows
end Go.Proofs.Ytcgiloccmehbeaa
