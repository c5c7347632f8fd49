/-
  DERIVED. GIVEN WITH THE SEED: THE CARDS: each row of YtgamobjfeaeddaaDoorRows.lean that lists a variable, with what it lists TIED to the program's text (the seventh form; the later family's looks); each row that meets fmt, with fmt's text TOLD by the authors' own Lean function (tested against real Go, not proved from fmt's source: count such statements apart). THE CARD IS WHAT COUNTS. Prove the row's statement (the work); the ties are given (YtgamobjfeaeddaaDoorTie.lean); close each card by the builder's one call (the guide's Derived/Test/ToyasCard.lean, 'card_holds'). Laid BY PROGRAM, IN A SANDBOX (cutbox-door.mjs). By AI agents, Wed Nov 11 2026. No macro, syntax, notation, axiom, sorry.
-/
import Derived.Test.YtgamobjfeaeddaaDoorRows
import GoSem.ClaimSeven
namespace Go.Proofs.YtgamobjfeaeddaaDoor
namespace Rows

/-- THE TIED CARD OF 'caballaw13.JournalOpens'. -/
def journalOpensCard : Claim7 := { stood := { row := journalOpensRow, standIns := [], harness := (true, "596fcbfa1879b4d27d7b6164b6207705566ac477b01704b9ef33c8125ff2dda1"), looks := false }, kinds := [], alts := [], laidByText := true, laidKinds := [.data, .data], laidTests := true, laidLooks := .later }
def JournalOpensCardSaid : Prop := Claim7.holds Tryd.pinned (.plain (OpenSpec.ofChange journalOpensSpec)) journalOpensCard

/-- THE TIED CARD OF 'caballaw13.JournalKept'. -/
def journalKeptCard : Claim7 := { stood := { row := journalKeptRow, standIns := [], harness := (true, "596fcbfa1879b4d27d7b6164b6207705566ac477b01704b9ef33c8125ff2dda1"), looks := false }, kinds := [], alts := [], laidByText := true, laidKinds := [.data, .data], laidTests := true, laidLooks := .later }
def JournalKeptCardSaid : Prop := Claim7.holds Tryd.pinned (.plain (OpenSpec.ofChange journalKeptSpec)) journalKeptCard

/-- THE SECOND FORM's CARD OF 'caballaw13.JournalOpens'. -/
def journalOpensUptoCard : Claim7 := { stood := { row := journalOpensUptoRow, standIns := [], harness := (true, "596fcbfa1879b4d27d7b6164b6207705566ac477b01704b9ef33c8125ff2dda1"), looks := false }, kinds := [], alts := [], laidByText := true, laidKinds := [.data, .data], laidTests := true, laidLooks := .later }
def JournalOpensUptoCardSaid : Prop := Claim7.holds Tryd.pinned (.plain (OpenSpec.upto journalOpensSpec)) journalOpensUptoCard

/-- THE SECOND FORM's CARD OF 'caballaw13.JournalKept'. -/
def journalKeptUptoCard : Claim7 := { stood := { row := journalKeptUptoRow, standIns := [], harness := (true, "596fcbfa1879b4d27d7b6164b6207705566ac477b01704b9ef33c8125ff2dda1"), looks := false }, kinds := [], alts := [], laidByText := true, laidKinds := [.data, .data], laidTests := true, laidLooks := .later }
def JournalKeptUptoCardSaid : Prop := Claim7.holds Tryd.pinned (.plain (OpenSpec.upto journalKeptSpec)) journalKeptUptoCard
end Rows
end Go.Proofs.YtgamobjfeaeddaaDoor
