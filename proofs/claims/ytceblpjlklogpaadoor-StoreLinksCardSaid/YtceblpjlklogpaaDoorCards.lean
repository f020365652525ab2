/-
  DERIVED. GIVEN WITH THE SEED: THE CARDS: each row of YtceblpjlklogpaaDoorRows.lean that lists a variable, with what it lists TIED to the program's text (the seventh form; the later family's looks); each row that meets fmt, with fmt's text TOLD by the authors' own Lean function (tested against real Go, not proved from fmt's source: count such statements apart). THE CARD IS WHAT COUNTS. Prove the row's statement (the work); the ties are given (YtceblpjlklogpaaDoorTie.lean); close each card by the builder's one call (the guide's Derived/Test/ToyasCard.lean, 'card_holds'). Laid BY PROGRAM, IN A SANDBOX (cutbox-door.mjs). By AI agents, Wed Nov 11 2026. No macro, syntax, notation, axiom, sorry.
-/
import Derived.Test.YtceblpjlklogpaaDoorRows
import GoSem.ClaimSeven
namespace Go.Proofs.YtceblpjlklogpaaDoor
namespace Rows

/-- THE TIED CARD OF 'gossamerlaw12.StoreBack'. -/
def storeBackCard : Claim7 := { stood := { row := storeBackRow, standIns := [], harness := (true, "30b2ecdb303c80c7cc1cb764c9603ee8672e9bd29a57e7fd45c0a83b683327ff"), looks := false }, kinds := [], alts := [], laidByText := true, laidKinds := [.data], laidTests := true, laidLooks := .later }
def StoreBackCardSaid : Prop := Claim7.holds Tryd.pinned (.plain (OpenSpec.ofChange storeBackSpec)) storeBackCard

/-- THE TIED CARD OF 'gossamerlaw12.StoreParts'. -/
def storePartsCard : Claim7 := { stood := { row := storePartsRow, standIns := [], harness := (true, "30b2ecdb303c80c7cc1cb764c9603ee8672e9bd29a57e7fd45c0a83b683327ff"), looks := false }, kinds := [], alts := [], laidByText := true, laidKinds := [.data], laidTests := true, laidLooks := .later }
def StorePartsCardSaid : Prop := Claim7.holds Tryd.pinned (.plain (OpenSpec.ofChange storePartsSpec)) storePartsCard

/-- THE TIED CARD OF 'gossamerlaw12.StoreFills'. -/
def storeFillsCard : Claim7 := { stood := { row := storeFillsRow, standIns := [], harness := (true, "30b2ecdb303c80c7cc1cb764c9603ee8672e9bd29a57e7fd45c0a83b683327ff"), looks := false }, kinds := [], alts := [], laidByText := true, laidKinds := [.data], laidTests := true, laidLooks := .later }
def StoreFillsCardSaid : Prop := Claim7.holds Tryd.pinned (.plain (OpenSpec.ofChange storeFillsSpec)) storeFillsCard

/-- THE TIED CARD OF 'gossamerlaw12.StoreLinks'. -/
def storeLinksCard : Claim7 := { stood := { row := storeLinksRow, standIns := [], harness := (true, "30b2ecdb303c80c7cc1cb764c9603ee8672e9bd29a57e7fd45c0a83b683327ff"), looks := false }, kinds := [], alts := [], laidByText := true, laidKinds := [.data], laidTests := true, laidLooks := .later }
def StoreLinksCardSaid : Prop := Claim7.holds Tryd.pinned (.plain (OpenSpec.ofChange storeLinksSpec)) storeLinksCard

/-- THE TIED CARD OF 'gossamerlaw12.StorePorts'. -/
def storePortsCard : Claim7 := { stood := { row := storePortsRow, standIns := [], harness := (true, "30b2ecdb303c80c7cc1cb764c9603ee8672e9bd29a57e7fd45c0a83b683327ff"), looks := false }, kinds := [], alts := [], laidByText := true, laidKinds := [.data], laidTests := true, laidLooks := .later }
def StorePortsCardSaid : Prop := Claim7.holds Tryd.pinned (.plain (OpenSpec.ofChange storePortsSpec)) storePortsCard

/-- THE SECOND FORM's CARD OF 'gossamerlaw12.StoreBack'. -/
def storeBackUptoCard : Claim7 := { stood := { row := storeBackUptoRow, standIns := [], harness := (true, "30b2ecdb303c80c7cc1cb764c9603ee8672e9bd29a57e7fd45c0a83b683327ff"), looks := false }, kinds := [], alts := [], laidByText := true, laidKinds := [.data], laidTests := true, laidLooks := .later }
def StoreBackUptoCardSaid : Prop := Claim7.holds Tryd.pinned (.plain (OpenSpec.upto storeBackSpec)) storeBackUptoCard

/-- THE SECOND FORM's CARD OF 'gossamerlaw12.StoreParts'. -/
def storePartsUptoCard : Claim7 := { stood := { row := storePartsUptoRow, standIns := [], harness := (true, "30b2ecdb303c80c7cc1cb764c9603ee8672e9bd29a57e7fd45c0a83b683327ff"), looks := false }, kinds := [], alts := [], laidByText := true, laidKinds := [.data], laidTests := true, laidLooks := .later }
def StorePartsUptoCardSaid : Prop := Claim7.holds Tryd.pinned (.plain (OpenSpec.upto storePartsSpec)) storePartsUptoCard

/-- THE SECOND FORM's CARD OF 'gossamerlaw12.StoreFills'. -/
def storeFillsUptoCard : Claim7 := { stood := { row := storeFillsUptoRow, standIns := [], harness := (true, "30b2ecdb303c80c7cc1cb764c9603ee8672e9bd29a57e7fd45c0a83b683327ff"), looks := false }, kinds := [], alts := [], laidByText := true, laidKinds := [.data], laidTests := true, laidLooks := .later }
def StoreFillsUptoCardSaid : Prop := Claim7.holds Tryd.pinned (.plain (OpenSpec.upto storeFillsSpec)) storeFillsUptoCard

/-- THE SECOND FORM's CARD OF 'gossamerlaw12.StoreLinks'. -/
def storeLinksUptoCard : Claim7 := { stood := { row := storeLinksUptoRow, standIns := [], harness := (true, "30b2ecdb303c80c7cc1cb764c9603ee8672e9bd29a57e7fd45c0a83b683327ff"), looks := false }, kinds := [], alts := [], laidByText := true, laidKinds := [.data], laidTests := true, laidLooks := .later }
def StoreLinksUptoCardSaid : Prop := Claim7.holds Tryd.pinned (.plain (OpenSpec.upto storeLinksSpec)) storeLinksUptoCard

/-- THE SECOND FORM's CARD OF 'gossamerlaw12.StorePorts'. -/
def storePortsUptoCard : Claim7 := { stood := { row := storePortsUptoRow, standIns := [], harness := (true, "30b2ecdb303c80c7cc1cb764c9603ee8672e9bd29a57e7fd45c0a83b683327ff"), looks := false }, kinds := [], alts := [], laidByText := true, laidKinds := [.data], laidTests := true, laidLooks := .later }
def StorePortsUptoCardSaid : Prop := Claim7.holds Tryd.pinned (.plain (OpenSpec.upto storePortsSpec)) storePortsUptoCard
end Rows
end Go.Proofs.YtceblpjlklogpaaDoor
