/-
  DERIVED. GIVEN WITH THE SEED: THE CARDS: each row of YtlkidgilhlpjhaaDoorRows.lean that lists a variable, with what it lists TIED to the program's text (the seventh form; the later family's looks); each row that meets fmt, with fmt's text TOLD by the authors' own Lean function (tested against real Go, not proved from fmt's source: count such statements apart). THE CARD IS WHAT COUNTS. Prove the row's statement (the work); the ties are given (YtlkidgilhlpjhaaDoorTie.lean); close each card by the builder's one call (the guide's Derived/Test/ToyasCard.lean, 'card_holds'). Laid BY PROGRAM, IN A SANDBOX (cutbox-door.mjs). By AI agents, Wed Nov 11 2026. No macro, syntax, notation, axiom, sorry.
-/
import Derived.Test.YtlkidgilhlpjhaaDoorRows
import GoSem.ClaimSeven
namespace Go.Proofs.YtlkidgilhlpjhaaDoor
namespace Rows

/-- THE TIED CARD OF 'selvagelaw05.ParseBlanks'. -/
def parseBlanksCard : Claim7 := { stood := { row := parseBlanksRow, standIns := [], harness := (true, "aa90be4415b5f8c7f3a070d3ecfb3aa2f4caf4bdd105cdbc7858f304695331fb"), looks := true }, kinds := [], alts := [], laidByText := true, laidKinds := [.data, .data, .data, .sentinel, .sentinel], laidTests := true, laidLooks := .later }
def ParseBlanksCardSaid : Prop := Claim7.holds Tryd.pinned (.plain (OpenSpec.ofChange parseBlanksSpec)) parseBlanksCard

/-- THE TIED CARD OF 'selvagelaw05.ParseRound'. -/
def parseRoundCard : Claim7 := { stood := { row := parseRoundRow, standIns := [], harness := (true, "aa90be4415b5f8c7f3a070d3ecfb3aa2f4caf4bdd105cdbc7858f304695331fb"), looks := true }, kinds := [], alts := [], laidByText := true, laidKinds := [.data, .data, .data, .sentinel, .sentinel], laidTests := true, laidLooks := .later }
def ParseRoundCardSaid : Prop := Claim7.holds Tryd.pinned (.plain (OpenSpec.ofChange parseRoundSpec)) parseRoundCard

/-- THE TIED CARD OF 'selvagelaw05.ParseFault'. -/
def parseFaultCard : Claim7 := { stood := { row := parseFaultRow, standIns := [], harness := (true, "aa90be4415b5f8c7f3a070d3ecfb3aa2f4caf4bdd105cdbc7858f304695331fb"), looks := true }, kinds := [], alts := [], laidByText := true, laidKinds := [.data, .data, .data, .sentinel, .sentinel], laidTests := true, laidLooks := .later }
def ParseFaultCardSaid : Prop := Claim7.holds Tryd.pinned (.plain (OpenSpec.ofChange parseFaultSpec)) parseFaultCard

/-- THE SECOND FORM's CARD OF 'selvagelaw05.ParseBlanks'. -/
def parseBlanksUptoCard : Claim7 := { stood := { row := parseBlanksUptoRow, standIns := [], harness := (true, "aa90be4415b5f8c7f3a070d3ecfb3aa2f4caf4bdd105cdbc7858f304695331fb"), looks := true }, kinds := [], alts := [], laidByText := true, laidKinds := [.data, .data, .data, .sentinel, .sentinel], laidTests := true, laidLooks := .later }
def ParseBlanksUptoCardSaid : Prop := Claim7.holds Tryd.pinned (.plain (OpenSpec.upto parseBlanksSpec)) parseBlanksUptoCard

/-- THE SECOND FORM's CARD OF 'selvagelaw05.ParseRound'. -/
def parseRoundUptoCard : Claim7 := { stood := { row := parseRoundUptoRow, standIns := [], harness := (true, "aa90be4415b5f8c7f3a070d3ecfb3aa2f4caf4bdd105cdbc7858f304695331fb"), looks := true }, kinds := [], alts := [], laidByText := true, laidKinds := [.data, .data, .data, .sentinel, .sentinel], laidTests := true, laidLooks := .later }
def ParseRoundUptoCardSaid : Prop := Claim7.holds Tryd.pinned (.plain (OpenSpec.upto parseRoundSpec)) parseRoundUptoCard

/-- THE SECOND FORM's CARD OF 'selvagelaw05.ParseFault'. -/
def parseFaultUptoCard : Claim7 := { stood := { row := parseFaultUptoRow, standIns := [], harness := (true, "aa90be4415b5f8c7f3a070d3ecfb3aa2f4caf4bdd105cdbc7858f304695331fb"), looks := true }, kinds := [], alts := [], laidByText := true, laidKinds := [.data, .data, .data, .sentinel, .sentinel], laidTests := true, laidLooks := .later }
def ParseFaultUptoCardSaid : Prop := Claim7.holds Tryd.pinned (.plain (OpenSpec.upto parseFaultSpec)) parseFaultUptoCard
end Rows
end Go.Proofs.YtlkidgilhlpjhaaDoor
