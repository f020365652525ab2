/-
  DERIVED. GIVEN WITH THE SEED: THE CARDS: each row of YtobdoahdjbmflaaGreatDoorRows.lean that lists a variable, with what it lists TIED to the program's text (the seventh form; the later family's looks); each row that meets fmt, with fmt's text TOLD by the authors' own Lean function (tested against real Go, not proved from fmt's source: count such statements apart). THE CARD IS WHAT COUNTS. Prove the row's statement (the work); the ties are given (YtobdoahdjbmflaaGreatDoorTie.lean); close each card by the builder's one call (the guide's Derived/Test/ToyasCard.lean, 'card_holds'). Laid BY PROGRAM, IN A SANDBOX (cutbox-door.mjs). By AI agents, Wed Nov 11 2026. No macro, syntax, notation, axiom, sorry.
-/
import Derived.Test.YtobdoahdjbmflaaGreatDoorRows
import GoSem.ClaimSeven
namespace Go.Proofs.YtobdoahdjbmflaaGreatDoor
namespace Rows

/-- THE TIED CARD OF 'gossamerlaw05.ScopeTells'. -/
def scopeTellsCard : Claim7 := { stood := { row := scopeTellsRow, standIns := [], harness := (true, "e191c1adae0475f78c8e42726a989747b288b368f2a9925031ee13e70a4e956f"), looks := true }, kinds := [], alts := [], laidByText := true, laidKinds := [.data], laidTests := true, laidLooks := .later }
def ScopeTellsCardSaid : Prop := Claim7.holds Tryz.pinned (.plain (OpenSpec.ofChange scopeTellsSpec)) scopeTellsCard

/-- THE TIED CARD OF 'gossamerlaw05.ScopeCloses'. -/
def scopeClosesCard : Claim7 := { stood := { row := scopeClosesRow, standIns := [], harness := (true, "e191c1adae0475f78c8e42726a989747b288b368f2a9925031ee13e70a4e956f"), looks := true }, kinds := [], alts := [], laidByText := true, laidKinds := [.data], laidTests := true, laidLooks := .later }
def ScopeClosesCardSaid : Prop := Claim7.holds Tryz.pinned (.plain (OpenSpec.ofChange scopeClosesSpec)) scopeClosesCard

/-- THE TIED CARD OF 'gossamerlaw05.ScopeMoved'. -/
def scopeMovedCard : Claim7 := { stood := { row := scopeMovedRow, standIns := [], harness := (true, "e191c1adae0475f78c8e42726a989747b288b368f2a9925031ee13e70a4e956f"), looks := true }, kinds := [], alts := [], laidByText := true, laidKinds := [.data], laidTests := true, laidLooks := .later }
def ScopeMovedCardSaid : Prop := Claim7.holds Tryz.pinned (.plain (OpenSpec.ofChange scopeMovedSpec)) scopeMovedCard

/-- THE TIED CARD OF 'gossamerlaw05.ScopeCons'. -/
def scopeConsCard : Claim7 := { stood := { row := scopeConsRow, standIns := [], harness := (true, "e191c1adae0475f78c8e42726a989747b288b368f2a9925031ee13e70a4e956f"), looks := true }, kinds := [], alts := [], laidByText := true, laidKinds := [.data], laidTests := true, laidLooks := .later }
def ScopeConsCardSaid : Prop := Claim7.holds Tryz.pinned (.plain (OpenSpec.ofChange scopeConsSpec)) scopeConsCard

/-- THE SECOND FORM's CARD OF 'gossamerlaw05.ScopeTells'. -/
def scopeTellsUptoCard : Claim7 := { stood := { row := scopeTellsUptoRow, standIns := [], harness := (true, "e191c1adae0475f78c8e42726a989747b288b368f2a9925031ee13e70a4e956f"), looks := true }, kinds := [], alts := [], laidByText := true, laidKinds := [.data], laidTests := true, laidLooks := .later }
def ScopeTellsUptoCardSaid : Prop := Claim7.holds Tryz.pinned (.plain (OpenSpec.upto scopeTellsSpec)) scopeTellsUptoCard

/-- THE SECOND FORM's CARD OF 'gossamerlaw05.ScopeCloses'. -/
def scopeClosesUptoCard : Claim7 := { stood := { row := scopeClosesUptoRow, standIns := [], harness := (true, "e191c1adae0475f78c8e42726a989747b288b368f2a9925031ee13e70a4e956f"), looks := true }, kinds := [], alts := [], laidByText := true, laidKinds := [.data], laidTests := true, laidLooks := .later }
def ScopeClosesUptoCardSaid : Prop := Claim7.holds Tryz.pinned (.plain (OpenSpec.upto scopeClosesSpec)) scopeClosesUptoCard

/-- THE SECOND FORM's CARD OF 'gossamerlaw05.ScopeMoved'. -/
def scopeMovedUptoCard : Claim7 := { stood := { row := scopeMovedUptoRow, standIns := [], harness := (true, "e191c1adae0475f78c8e42726a989747b288b368f2a9925031ee13e70a4e956f"), looks := true }, kinds := [], alts := [], laidByText := true, laidKinds := [.data], laidTests := true, laidLooks := .later }
def ScopeMovedUptoCardSaid : Prop := Claim7.holds Tryz.pinned (.plain (OpenSpec.upto scopeMovedSpec)) scopeMovedUptoCard

/-- THE SECOND FORM's CARD OF 'gossamerlaw05.ScopeCons'. -/
def scopeConsUptoCard : Claim7 := { stood := { row := scopeConsUptoRow, standIns := [], harness := (true, "e191c1adae0475f78c8e42726a989747b288b368f2a9925031ee13e70a4e956f"), looks := true }, kinds := [], alts := [], laidByText := true, laidKinds := [.data], laidTests := true, laidLooks := .later }
def ScopeConsUptoCardSaid : Prop := Claim7.holds Tryz.pinned (.plain (OpenSpec.upto scopeConsSpec)) scopeConsUptoCard
end Rows
end Go.Proofs.YtobdoahdjbmflaaGreatDoor
