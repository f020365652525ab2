/-
  NARROWER THAN 'FOR EVERY INPUT', by the rows' own cells (each row's printed sentence says how): UseTells: loops · UseCounts: loops · UseLams: loops · UsePuts: loops · UseAffine: loops · UseSteps: loops.
  DERIVED. THE GIVEN ROWS OF THIS SEAT. 6 by the template 'for every input the law returns true; each argument reads behind the call as it read before'; 0 by the template 'total and deterministic' (their statements: YtcefopaphaeejaaTotals.lean).
  GIVEN WITH THE SEED: the statements are not yours to turn. If you find one false, say at which input.
  Laid BY PROGRAM, IN A SANDBOX (cutbox-rows.mjs): the forced cells as the released guide's own fill.sh prints them over the translation 78b3998601ca4b61… (all of the seat's roots in one cut). By AI agents, Wed Nov 11 2026. No macro, syntax, notation, axiom, sorry.
-/
import Derived.Test.YtcefopaphaeejaaChecked
import GoSem.Claim
import GoSem.ClaimJoined
import GoSem.ClaimMapViews
import Derived.JoinedTies
import Derived.KernelRfl
namespace Go.Proofs.Ytcefopaphaeejaa
/- THE CELL 'sum', in the pinned program and in every row, IS THE sha256 OF THE DUMP (.gsa) THAT YtcefopaphaeejaaProg.lean LOADS. Nothing in Lean hashes anything: it is a label: what it is worth is what the hold of that sum in a sandbox is worth. -/
noncomputable def Try.pinned : Pinned := { name := "ytcefopaphaeejaa", sum := "78b3998601ca4b61b29a967e250c9e61e3eda73e5c029bfe4d650ad16764994e", checked := Try.checked }
namespace Rows
def none {H : Type} : Left H := { results := [], args := [] }

/-- 'gossamerlaw11.UseTells': WHATEVER THE INPUT: true; the input reads as it did. -/
def useTellsSpec : ChangeSpec := { name := "useTells", fn := fun _ => fun
  | [d] => { results := [.lit (.bool true)], args := [d] }
  | _ => none }
def useTellsRow : OpenClaim := { program := "ytcefopaphaeejaa", sum := "78b3998601ca4b61b29a967e250c9e61e3eda73e5c029bfe4d650ad16764994e", func := "gossamer/gossamerlaw11.UseTells", spec := "useTells", unfollowed := true, recurses := true, loops := true, apart := false }
def UseTellsSaid : Prop := useTellsRow.holds Try.pinned (OpenSpec.ofChange useTellsSpec)

/-- ITS FALSE NEIGHBOUR: 'it returns false'. Refute it at one input. -/
def useTellsWrong : ChangeSpec := { name := "useTells", fn := fun _ => fun
  | [d] => { results := [.lit (.bool false)], args := [d] }
  | _ => none }
def UseTellsWrongFalsely : Prop := useTellsRow.holds Try.pinned (OpenSpec.ofChange useTellsWrong)

/-- 'gossamerlaw11.UseCounts': WHATEVER THE INPUT: true; the input reads as it did. -/
def useCountsSpec : ChangeSpec := { name := "useCounts", fn := fun _ => fun
  | [d] => { results := [.lit (.bool true)], args := [d] }
  | _ => none }
def useCountsRow : OpenClaim := { program := "ytcefopaphaeejaa", sum := "78b3998601ca4b61b29a967e250c9e61e3eda73e5c029bfe4d650ad16764994e", func := "gossamer/gossamerlaw11.UseCounts", spec := "useCounts", unfollowed := true, recurses := true, loops := true, apart := false }
def UseCountsSaid : Prop := useCountsRow.holds Try.pinned (OpenSpec.ofChange useCountsSpec)

/-- ITS FALSE NEIGHBOUR: 'it returns false'. Refute it at one input. -/
def useCountsWrong : ChangeSpec := { name := "useCounts", fn := fun _ => fun
  | [d] => { results := [.lit (.bool false)], args := [d] }
  | _ => none }
def UseCountsWrongFalsely : Prop := useCountsRow.holds Try.pinned (OpenSpec.ofChange useCountsWrong)

/-- 'gossamerlaw11.UseLams': WHATEVER THE INPUT: true; the input reads as it did. -/
def useLamsSpec : ChangeSpec := { name := "useLams", fn := fun _ => fun
  | [d1, d2] => { results := [.lit (.bool true)], args := [d1, d2] }
  | _ => none }
def useLamsRow : OpenClaim := { program := "ytcefopaphaeejaa", sum := "78b3998601ca4b61b29a967e250c9e61e3eda73e5c029bfe4d650ad16764994e", func := "gossamer/gossamerlaw11.UseLams", spec := "useLams", unfollowed := true, recurses := true, loops := true, apart := false }
def UseLamsSaid : Prop := useLamsRow.holds Try.pinned (OpenSpec.ofChange useLamsSpec)

/-- ITS FALSE NEIGHBOUR: 'it returns false'. Refute it at one input. -/
def useLamsWrong : ChangeSpec := { name := "useLams", fn := fun _ => fun
  | [d1, d2] => { results := [.lit (.bool false)], args := [d1, d2] }
  | _ => none }
def UseLamsWrongFalsely : Prop := useLamsRow.holds Try.pinned (OpenSpec.ofChange useLamsWrong)

/-- 'gossamerlaw11.UsePuts': WHATEVER THE INPUT: true; the input reads as it did. -/
def usePutsSpec : ChangeSpec := { name := "usePuts", fn := fun _ => fun
  | [d1, d2] => { results := [.lit (.bool true)], args := [d1, d2] }
  | _ => none }
def usePutsRow : OpenClaim := { program := "ytcefopaphaeejaa", sum := "78b3998601ca4b61b29a967e250c9e61e3eda73e5c029bfe4d650ad16764994e", func := "gossamer/gossamerlaw11.UsePuts", spec := "usePuts", unfollowed := true, recurses := true, loops := true, apart := false }
def UsePutsSaid : Prop := usePutsRow.holds Try.pinned (OpenSpec.ofChange usePutsSpec)

/-- ITS FALSE NEIGHBOUR: 'it returns false'. Refute it at one input. -/
def usePutsWrong : ChangeSpec := { name := "usePuts", fn := fun _ => fun
  | [d1, d2] => { results := [.lit (.bool false)], args := [d1, d2] }
  | _ => none }
def UsePutsWrongFalsely : Prop := usePutsRow.holds Try.pinned (OpenSpec.ofChange usePutsWrong)

/-- 'gossamerlaw11.UseAffine': WHATEVER THE INPUT: true; the input reads as it did. -/
def useAffineSpec : ChangeSpec := { name := "useAffine", fn := fun _ => fun
  | [d1, d2] => { results := [.lit (.bool true)], args := [d1, d2] }
  | _ => none }
def useAffineRow : OpenClaim := { program := "ytcefopaphaeejaa", sum := "78b3998601ca4b61b29a967e250c9e61e3eda73e5c029bfe4d650ad16764994e", func := "gossamer/gossamerlaw11.UseAffine", spec := "useAffine", unfollowed := true, recurses := true, loops := true, apart := false }
def UseAffineSaid : Prop := useAffineRow.holds Try.pinned (OpenSpec.ofChange useAffineSpec)

/-- ITS FALSE NEIGHBOUR: 'it returns false'. Refute it at one input. -/
def useAffineWrong : ChangeSpec := { name := "useAffine", fn := fun _ => fun
  | [d1, d2] => { results := [.lit (.bool false)], args := [d1, d2] }
  | _ => none }
def UseAffineWrongFalsely : Prop := useAffineRow.holds Try.pinned (OpenSpec.ofChange useAffineWrong)

/-- 'gossamerlaw11.UseSteps': WHATEVER THE INPUT: true; the input reads as it did. -/
def useStepsSpec : ChangeSpec := { name := "useSteps", fn := fun _ => fun
  | [d] => { results := [.lit (.bool true)], args := [d] }
  | _ => none }
def useStepsRow : OpenClaim := { program := "ytcefopaphaeejaa", sum := "78b3998601ca4b61b29a967e250c9e61e3eda73e5c029bfe4d650ad16764994e", func := "gossamer/gossamerlaw11.UseSteps", spec := "useSteps", unfollowed := true, recurses := true, loops := true, apart := false }
def UseStepsSaid : Prop := useStepsRow.holds Try.pinned (OpenSpec.ofChange useStepsSpec)

/-- ITS FALSE NEIGHBOUR: 'it returns false'. Refute it at one input. -/
def useStepsWrong : ChangeSpec := { name := "useSteps", fn := fun _ => fun
  | [d] => { results := [.lit (.bool false)], args := [d] }
  | _ => none }
def UseStepsWrongFalsely : Prop := useStepsRow.holds Try.pinned (OpenSpec.ofChange useStepsWrong)

/- THE SECOND FORM. 'bulk': how many values and letters a reading holds, each counted each time it is reached (what is shared counts as often as it is met; a slice's spare places count too). A statement '..UptoSaid' is the law's where the arguments, and the package variables that the reading takes, are together of bulk at most 1048576: NARROWER than '..Said'. Prove '..Said' where nothing that the law and all that it calls make is longer than what came in: it says more and counts as full. Else prove '..UptoSaid'. A law counts once. -/
mutual
def uptoBulk {H : Type} : DataW H → Nat
  | .lit (.string bytes) => bytes.length + 1
  | .lit _ => 1
  | .nil => 1
  | .ptr d => uptoBulk d + 1
  | .slice elems spare => uptoBulkAll elems + uptoBulkAll spare + 1
  | .agg parts => uptoBulkAll parts + 1
  | .iface _ d => uptoBulk d + 1
  | .map entries => uptoBulkEntries entries + 1
  | .held _ => 1
def uptoBulkAll {H : Type} : List (DataW H) → Nat
  | [] => 0
  | d :: r => uptoBulk d + uptoBulkAll r
def uptoBulkEntries {H : Type} : List (Lit × DataW H) → Nat
  | [] => 0
  | x :: r => uptoBulkEntry x + uptoBulkEntries r
def uptoBulkEntry {H : Type} : Lit × DataW H → Nat
  | (.string bytes, d) => bytes.length + uptoBulk d + 1
  | (_, d) => uptoBulk d + 1
 end
def uptoSmall : (H : Type) → List (DataW H) → Bool := fun _ ds => decide (uptoBulkAll ds ≤ 1048576)
def OpenSpec.upto (s : _root_.Go.ChangeSpec) : _root_.Go.OpenSpec := { _root_.Go.OpenSpec.ofChange s with cond := some uptoSmall }

/-- 'gossamerlaw11.UseTells', WHERE WHAT IT READS IS OF BULK AT MOST 1048576: true; the input reads as it did. -/
def useTellsUptoRow : OpenClaim := { program := "ytcefopaphaeejaa", sum := "78b3998601ca4b61b29a967e250c9e61e3eda73e5c029bfe4d650ad16764994e", func := "gossamer/gossamerlaw11.UseTells", spec := "useTells", unfollowed := true, recurses := true, loops := true, apart := false, narrowed := true }
def UseTellsUptoSaid : Prop := useTellsUptoRow.holds Try.pinned (OpenSpec.upto useTellsSpec)

/-- 'gossamerlaw11.UseCounts', WHERE WHAT IT READS IS OF BULK AT MOST 1048576: true; the input reads as it did. -/
def useCountsUptoRow : OpenClaim := { program := "ytcefopaphaeejaa", sum := "78b3998601ca4b61b29a967e250c9e61e3eda73e5c029bfe4d650ad16764994e", func := "gossamer/gossamerlaw11.UseCounts", spec := "useCounts", unfollowed := true, recurses := true, loops := true, apart := false, narrowed := true }
def UseCountsUptoSaid : Prop := useCountsUptoRow.holds Try.pinned (OpenSpec.upto useCountsSpec)

/-- 'gossamerlaw11.UseLams', WHERE WHAT IT READS IS OF BULK AT MOST 1048576: true; the input reads as it did. -/
def useLamsUptoRow : OpenClaim := { program := "ytcefopaphaeejaa", sum := "78b3998601ca4b61b29a967e250c9e61e3eda73e5c029bfe4d650ad16764994e", func := "gossamer/gossamerlaw11.UseLams", spec := "useLams", unfollowed := true, recurses := true, loops := true, apart := false, narrowed := true }
def UseLamsUptoSaid : Prop := useLamsUptoRow.holds Try.pinned (OpenSpec.upto useLamsSpec)

/-- 'gossamerlaw11.UsePuts', WHERE WHAT IT READS IS OF BULK AT MOST 1048576: true; the input reads as it did. -/
def usePutsUptoRow : OpenClaim := { program := "ytcefopaphaeejaa", sum := "78b3998601ca4b61b29a967e250c9e61e3eda73e5c029bfe4d650ad16764994e", func := "gossamer/gossamerlaw11.UsePuts", spec := "usePuts", unfollowed := true, recurses := true, loops := true, apart := false, narrowed := true }
def UsePutsUptoSaid : Prop := usePutsUptoRow.holds Try.pinned (OpenSpec.upto usePutsSpec)

/-- 'gossamerlaw11.UseAffine', WHERE WHAT IT READS IS OF BULK AT MOST 1048576: true; the input reads as it did. -/
def useAffineUptoRow : OpenClaim := { program := "ytcefopaphaeejaa", sum := "78b3998601ca4b61b29a967e250c9e61e3eda73e5c029bfe4d650ad16764994e", func := "gossamer/gossamerlaw11.UseAffine", spec := "useAffine", unfollowed := true, recurses := true, loops := true, apart := false, narrowed := true }
def UseAffineUptoSaid : Prop := useAffineUptoRow.holds Try.pinned (OpenSpec.upto useAffineSpec)

/-- 'gossamerlaw11.UseSteps', WHERE WHAT IT READS IS OF BULK AT MOST 1048576: true; the input reads as it did. -/
def useStepsUptoRow : OpenClaim := { program := "ytcefopaphaeejaa", sum := "78b3998601ca4b61b29a967e250c9e61e3eda73e5c029bfe4d650ad16764994e", func := "gossamer/gossamerlaw11.UseSteps", spec := "useSteps", unfollowed := true, recurses := true, loops := true, apart := false, narrowed := true }
def UseStepsUptoSaid : Prop := useStepsUptoRow.holds Try.pinned (OpenSpec.upto useStepsSpec)

end Rows
end Go.Proofs.Ytcefopaphaeejaa
