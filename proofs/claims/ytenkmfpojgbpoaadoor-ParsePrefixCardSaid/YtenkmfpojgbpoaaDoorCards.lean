/-
  DERIVED. GIVEN WITH THE SEED: THE CARDS: each row of YtenkmfpojgbpoaaDoorRows.lean that lists a variable, with what it lists TIED to the program's text (the seventh form; the later family's looks); each row that meets fmt, with fmt's text TOLD by the authors' own Lean function (tested against real Go, not proved from fmt's source: count such statements apart). THE CARD IS WHAT COUNTS. Prove the row's statement (the work); the ties are given (YtenkmfpojgbpoaaDoorTie.lean); close each card by the builder's one call (the guide's Derived/Test/ToyasCard.lean, 'card_holds'). Laid BY PROGRAM, IN A SANDBOX (cutbox-door.mjs). By AI agents, Wed Nov 11 2026. No macro, syntax, notation, axiom, sorry.
-/
import Derived.Test.YtenkmfpojgbpoaaDoorRows
import GoSem.ClaimSeven
namespace Go.Proofs.YtenkmfpojgbpoaaDoor
namespace Rows

/-- THE TIED CARD OF 'gossamerlaw03.ParseFits'. -/
def parseFitsCard : Claim7 := { stood := { row := parseFitsRow, standIns := [], harness := (true, "b2359e1ba23b29b8b263718fab8756fb81a9daa107d45942c4afdf0ad490394c"), looks := true }, kinds := [], alts := [], laidByText := true, laidKinds := [.data], laidTests := true, laidLooks := .later }
def ParseFitsCardSaid : Prop := Claim7.holds Tryd.pinned (.plain (OpenSpec.ofChange parseFitsSpec)) parseFitsCard

/-- THE TIED CARD OF 'gossamerlaw03.ParseRound'. -/
def parseRoundCard : Claim7 := { stood := { row := parseRoundRow, standIns := [], harness := (true, "b2359e1ba23b29b8b263718fab8756fb81a9daa107d45942c4afdf0ad490394c"), looks := true }, kinds := [], alts := [], laidByText := true, laidKinds := [.data], laidTests := true, laidLooks := .later }
def ParseRoundCardSaid : Prop := Claim7.holds Tryd.pinned (.plain (OpenSpec.ofChange parseRoundSpec)) parseRoundCard

/-- THE TIED CARD OF 'gossamerlaw03.ParsePrefix'. -/
def parsePrefixCard : Claim7 := { stood := { row := parsePrefixRow, standIns := [], harness := (true, "b2359e1ba23b29b8b263718fab8756fb81a9daa107d45942c4afdf0ad490394c"), looks := true }, kinds := [], alts := [], laidByText := true, laidKinds := [.data], laidTests := true, laidLooks := .later }
def ParsePrefixCardSaid : Prop := Claim7.holds Tryd.pinned (.plain (OpenSpec.ofChange parsePrefixSpec)) parsePrefixCard

/-- THE TIED CARD OF 'gossamerlaw03.ParseLayout'. -/
def parseLayoutCard : Claim7 := { stood := { row := parseLayoutRow, standIns := [], harness := (true, "b2359e1ba23b29b8b263718fab8756fb81a9daa107d45942c4afdf0ad490394c"), looks := true }, kinds := [], alts := [], laidByText := true, laidKinds := [.data], laidTests := true, laidLooks := .later }
def ParseLayoutCardSaid : Prop := Claim7.holds Tryd.pinned (.plain (OpenSpec.ofChange parseLayoutSpec)) parseLayoutCard

/-- THE TIED CARD OF 'gossamerlaw04.ShowParens'. -/
def showParensCard : Claim7 := { stood := { row := showParensRow, standIns := [], harness := (true, "b2359e1ba23b29b8b263718fab8756fb81a9daa107d45942c4afdf0ad490394c"), looks := true }, kinds := [], alts := [], laidByText := true, laidKinds := [.data, .data, .data, .data], laidTests := true, laidLooks := .later }
def ShowParensCardSaid : Prop := Claim7.holds Tryd.pinned (.plain (OpenSpec.ofChange showParensSpec)) showParensCard

/-- THE SECOND FORM's CARD OF 'gossamerlaw03.ParseFits'. -/
def parseFitsUptoCard : Claim7 := { stood := { row := parseFitsUptoRow, standIns := [], harness := (true, "b2359e1ba23b29b8b263718fab8756fb81a9daa107d45942c4afdf0ad490394c"), looks := true }, kinds := [], alts := [], laidByText := true, laidKinds := [.data], laidTests := true, laidLooks := .later }
def ParseFitsUptoCardSaid : Prop := Claim7.holds Tryd.pinned (.plain (OpenSpec.upto parseFitsSpec)) parseFitsUptoCard

/-- THE SECOND FORM's CARD OF 'gossamerlaw03.ParseRound'. -/
def parseRoundUptoCard : Claim7 := { stood := { row := parseRoundUptoRow, standIns := [], harness := (true, "b2359e1ba23b29b8b263718fab8756fb81a9daa107d45942c4afdf0ad490394c"), looks := true }, kinds := [], alts := [], laidByText := true, laidKinds := [.data], laidTests := true, laidLooks := .later }
def ParseRoundUptoCardSaid : Prop := Claim7.holds Tryd.pinned (.plain (OpenSpec.upto parseRoundSpec)) parseRoundUptoCard

/-- THE SECOND FORM's CARD OF 'gossamerlaw03.ParsePrefix'. -/
def parsePrefixUptoCard : Claim7 := { stood := { row := parsePrefixUptoRow, standIns := [], harness := (true, "b2359e1ba23b29b8b263718fab8756fb81a9daa107d45942c4afdf0ad490394c"), looks := true }, kinds := [], alts := [], laidByText := true, laidKinds := [.data], laidTests := true, laidLooks := .later }
def ParsePrefixUptoCardSaid : Prop := Claim7.holds Tryd.pinned (.plain (OpenSpec.upto parsePrefixSpec)) parsePrefixUptoCard

/-- THE SECOND FORM's CARD OF 'gossamerlaw03.ParseLayout'. -/
def parseLayoutUptoCard : Claim7 := { stood := { row := parseLayoutUptoRow, standIns := [], harness := (true, "b2359e1ba23b29b8b263718fab8756fb81a9daa107d45942c4afdf0ad490394c"), looks := true }, kinds := [], alts := [], laidByText := true, laidKinds := [.data], laidTests := true, laidLooks := .later }
def ParseLayoutUptoCardSaid : Prop := Claim7.holds Tryd.pinned (.plain (OpenSpec.upto parseLayoutSpec)) parseLayoutUptoCard

/-- THE SECOND FORM's CARD OF 'gossamerlaw04.ShowParens'. -/
def showParensUptoCard : Claim7 := { stood := { row := showParensUptoRow, standIns := [], harness := (true, "b2359e1ba23b29b8b263718fab8756fb81a9daa107d45942c4afdf0ad490394c"), looks := true }, kinds := [], alts := [], laidByText := true, laidKinds := [.data, .data, .data, .data], laidTests := true, laidLooks := .later }
def ShowParensUptoCardSaid : Prop := Claim7.holds Tryd.pinned (.plain (OpenSpec.upto showParensSpec)) showParensUptoCard
end Rows
end Go.Proofs.YtenkmfpojgbpoaaDoor
