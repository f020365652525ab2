/-
  DERIVED. GIVEN WITH THE SEED: THE CARDS: each row of YtobdoahdjbmflaaDoorRows.lean that lists a variable, with what it lists TIED to the program's text (the seventh form; the later family's looks); each row that meets fmt, with fmt's text TOLD by the authors' own Lean function (tested against real Go, not proved from fmt's source: count such statements apart). THE CARD IS WHAT COUNTS. Prove the row's statement (the work); the ties are given (YtobdoahdjbmflaaDoorTie.lean); close each card by the builder's one call (the guide's Derived/Test/ToyasCard.lean, 'card_holds'). Laid BY PROGRAM, IN A SANDBOX (cutbox-door.mjs). By AI agents, Wed Nov 11 2026. No macro, syntax, notation, axiom, sorry.
-/
import Derived.Test.YtobdoahdjbmflaaDoorRows
import GoSem.ClaimSeven
namespace Go.Proofs.YtobdoahdjbmflaaDoor
namespace Rows

/-- THE TIED CARD OF 'gossamerlaw05.ScopePlaces'. -/
def scopePlacesCard : Claim7 := { stood := { row := scopePlacesRow, standIns := [], harness := (true, "e8eefd6745b5c2469585e571dddaa42791840f83b08e12f281409167227b9797"), looks := true }, kinds := [], alts := [], laidByText := true, laidKinds := [.data], laidTests := true, laidLooks := .later }
def ScopePlacesCardSaid : Prop := Claim7.holds Tryd.pinned (.plain (OpenSpec.ofChange scopePlacesSpec)) scopePlacesCard

/-- THE TIED CARD OF 'gossamerlaw05.ScopeLets'. -/
def scopeLetsCard : Claim7 := { stood := { row := scopeLetsRow, standIns := [], harness := (true, "e8eefd6745b5c2469585e571dddaa42791840f83b08e12f281409167227b9797"), looks := true }, kinds := [], alts := [], laidByText := true, laidKinds := [.data], laidTests := true, laidLooks := .later }
def ScopeLetsCardSaid : Prop := Claim7.holds Tryd.pinned (.plain (OpenSpec.ofChange scopeLetsSpec)) scopeLetsCard

/-- THE SECOND FORM's CARD OF 'gossamerlaw05.ScopePlaces'. -/
def scopePlacesUptoCard : Claim7 := { stood := { row := scopePlacesUptoRow, standIns := [], harness := (true, "e8eefd6745b5c2469585e571dddaa42791840f83b08e12f281409167227b9797"), looks := true }, kinds := [], alts := [], laidByText := true, laidKinds := [.data], laidTests := true, laidLooks := .later }
def ScopePlacesUptoCardSaid : Prop := Claim7.holds Tryd.pinned (.plain (OpenSpec.upto scopePlacesSpec)) scopePlacesUptoCard

/-- THE SECOND FORM's CARD OF 'gossamerlaw05.ScopeLets'. -/
def scopeLetsUptoCard : Claim7 := { stood := { row := scopeLetsUptoRow, standIns := [], harness := (true, "e8eefd6745b5c2469585e571dddaa42791840f83b08e12f281409167227b9797"), looks := true }, kinds := [], alts := [], laidByText := true, laidKinds := [.data], laidTests := true, laidLooks := .later }
def ScopeLetsUptoCardSaid : Prop := Claim7.holds Tryd.pinned (.plain (OpenSpec.upto scopeLetsSpec)) scopeLetsUptoCard
end Rows
end Go.Proofs.YtobdoahdjbmflaaDoor
