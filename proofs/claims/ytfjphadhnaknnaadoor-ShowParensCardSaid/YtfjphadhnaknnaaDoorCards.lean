/-
  DERIVED. GIVEN WITH THE SEED: THE CARDS: each row of YtfjphadhnaknnaaDoorRows.lean that lists a variable, with what it lists TIED to the program's text (the seventh form; the later family's looks); each row that meets fmt, with fmt's text TOLD by the authors' own Lean function (tested against real Go, not proved from fmt's source: count such statements apart). THE CARD IS WHAT COUNTS. Prove the row's statement (the work); the ties are given (YtfjphadhnaknnaaDoorTie.lean); close each card by the builder's one call (the guide's Derived/Test/ToyasCard.lean, 'card_holds'). Laid BY PROGRAM, IN A SANDBOX (cutbox-door.mjs). By AI agents, Wed Nov 11 2026. No macro, syntax, notation, axiom, sorry.
-/
import Derived.Test.YtfjphadhnaknnaaDoorRows
import GoSem.ClaimSeven
namespace Go.Proofs.YtfjphadhnaknnaaDoor
namespace Rows

/-- THE TIED CARD OF 'gossamerlaw04.ShowParens'. -/
def showParensCard : Claim7 := { stood := { row := showParensRow, standIns := [], harness := (true, "b38ec0ce7dac86886ccc9f94b2cb5e7bf1388635740ebf0e1a7619ed5c106c3d"), looks := true }, kinds := [], alts := [], laidByText := true, laidKinds := [.data, .data, .data, .data], laidTests := true, laidLooks := .later }
def ShowParensCardSaid : Prop := Claim7.holds Tryd.pinned (.plain (OpenSpec.ofChange showParensSpec)) showParensCard

/-- THE TIED CARD OF 'gossamerlaw05.ScopePlaces'. -/
def scopePlacesCard : Claim7 := { stood := { row := scopePlacesRow, standIns := [], harness := (true, "b38ec0ce7dac86886ccc9f94b2cb5e7bf1388635740ebf0e1a7619ed5c106c3d"), looks := true }, kinds := [], alts := [], laidByText := true, laidKinds := [.data], laidTests := true, laidLooks := .later }
def ScopePlacesCardSaid : Prop := Claim7.holds Tryd.pinned (.plain (OpenSpec.ofChange scopePlacesSpec)) scopePlacesCard

/-- THE TIED CARD OF 'gossamerlaw05.ScopeLets'. -/
def scopeLetsCard : Claim7 := { stood := { row := scopeLetsRow, standIns := [], harness := (true, "b38ec0ce7dac86886ccc9f94b2cb5e7bf1388635740ebf0e1a7619ed5c106c3d"), looks := true }, kinds := [], alts := [], laidByText := true, laidKinds := [.data], laidTests := true, laidLooks := .later }
def ScopeLetsCardSaid : Prop := Claim7.holds Tryd.pinned (.plain (OpenSpec.ofChange scopeLetsSpec)) scopeLetsCard

/-- THE SECOND FORM's CARD OF 'gossamerlaw04.ShowParens'. -/
def showParensUptoCard : Claim7 := { stood := { row := showParensUptoRow, standIns := [], harness := (true, "b38ec0ce7dac86886ccc9f94b2cb5e7bf1388635740ebf0e1a7619ed5c106c3d"), looks := true }, kinds := [], alts := [], laidByText := true, laidKinds := [.data, .data, .data, .data], laidTests := true, laidLooks := .later }
def ShowParensUptoCardSaid : Prop := Claim7.holds Tryd.pinned (.plain (OpenSpec.upto showParensSpec)) showParensUptoCard

/-- THE SECOND FORM's CARD OF 'gossamerlaw05.ScopePlaces'. -/
def scopePlacesUptoCard : Claim7 := { stood := { row := scopePlacesUptoRow, standIns := [], harness := (true, "b38ec0ce7dac86886ccc9f94b2cb5e7bf1388635740ebf0e1a7619ed5c106c3d"), looks := true }, kinds := [], alts := [], laidByText := true, laidKinds := [.data], laidTests := true, laidLooks := .later }
def ScopePlacesUptoCardSaid : Prop := Claim7.holds Tryd.pinned (.plain (OpenSpec.upto scopePlacesSpec)) scopePlacesUptoCard

/-- THE SECOND FORM's CARD OF 'gossamerlaw05.ScopeLets'. -/
def scopeLetsUptoCard : Claim7 := { stood := { row := scopeLetsUptoRow, standIns := [], harness := (true, "b38ec0ce7dac86886ccc9f94b2cb5e7bf1388635740ebf0e1a7619ed5c106c3d"), looks := true }, kinds := [], alts := [], laidByText := true, laidKinds := [.data], laidTests := true, laidLooks := .later }
def ScopeLetsUptoCardSaid : Prop := Claim7.holds Tryd.pinned (.plain (OpenSpec.upto scopeLetsSpec)) scopeLetsUptoCard
end Rows
end Go.Proofs.YtfjphadhnaknnaaDoor
