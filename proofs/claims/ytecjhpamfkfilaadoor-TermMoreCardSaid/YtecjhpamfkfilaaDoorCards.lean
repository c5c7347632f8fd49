/-
  DERIVED. GIVEN WITH THE SEED: THE CARDS: each row of YtecjhpamfkfilaaDoorRows.lean that lists a variable, with what it lists TIED to the program's text (the seventh form; the later family's looks); each row that meets fmt, with fmt's text TOLD by the authors' own Lean function (tested against real Go, not proved from fmt's source: count such statements apart). THE CARD IS WHAT COUNTS. Prove the row's statement (the work); the ties are given (YtecjhpamfkfilaaDoorTie.lean); close each card by the builder's one call (the guide's Derived/Test/ToyasCard.lean, 'card_holds'). Laid BY PROGRAM, IN A SANDBOX (cutbox-door.mjs). By AI agents, Wed Nov 11 2026. No macro, syntax, notation, axiom, sorry.
-/
import Derived.Test.YtecjhpamfkfilaaDoorRows
import GoSem.ClaimSeven
namespace Go.Proofs.YtecjhpamfkfilaaDoor
namespace Rows

/-- THE TIED CARD OF 'caballaw08.TermPlays'. -/
def termPlaysCard : Claim7 := { stood := { row := termPlaysRow, standIns := [], harness := (true, "c4e662e927adde013fa3f0e60a10ad334ae81a27ba123d626717cd70c3307c4e"), looks := false }, kinds := [], alts := [], laidByText := true, laidKinds := [.data, .data, .data], laidTests := true, laidLooks := .later }
def TermPlaysCardSaid : Prop := Claim7.holds Tryd.pinned (.plain (OpenSpec.ofChange termPlaysSpec)) termPlaysCard

/-- THE TIED CARD OF 'caballaw08.TermMore'. -/
def termMoreCard : Claim7 := { stood := { row := termMoreRow, standIns := [], harness := (true, "c4e662e927adde013fa3f0e60a10ad334ae81a27ba123d626717cd70c3307c4e"), looks := false }, kinds := [], alts := [], laidByText := true, laidKinds := [.data, .data, .data], laidTests := true, laidLooks := .later }
def TermMoreCardSaid : Prop := Claim7.holds Tryd.pinned (.plain (OpenSpec.ofChange termMoreSpec)) termMoreCard

/-- THE TIED CARD OF 'caballaw08.TermHides'. -/
def termHidesCard : Claim7 := { stood := { row := termHidesRow, standIns := [], harness := (true, "c4e662e927adde013fa3f0e60a10ad334ae81a27ba123d626717cd70c3307c4e"), looks := false }, kinds := [], alts := [], laidByText := true, laidKinds := [.data, .data, .data], laidTests := true, laidLooks := .later }
def TermHidesCardSaid : Prop := Claim7.holds Tryd.pinned (.plain (OpenSpec.ofChange termHidesSpec)) termHidesCard

/-- THE TIED CARD OF 'caballaw08.TermMeets'. -/
def termMeetsCard : Claim7 := { stood := { row := termMeetsRow, standIns := [], harness := (true, "c4e662e927adde013fa3f0e60a10ad334ae81a27ba123d626717cd70c3307c4e"), looks := false }, kinds := [], alts := [], laidByText := true, laidKinds := [.data, .data, .data], laidTests := true, laidLooks := .later }
def TermMeetsCardSaid : Prop := Claim7.holds Tryd.pinned (.plain (OpenSpec.ofChange termMeetsSpec)) termMeetsCard

/-- THE SECOND FORM's CARD OF 'caballaw08.TermPlays'. -/
def termPlaysUptoCard : Claim7 := { stood := { row := termPlaysUptoRow, standIns := [], harness := (true, "c4e662e927adde013fa3f0e60a10ad334ae81a27ba123d626717cd70c3307c4e"), looks := false }, kinds := [], alts := [], laidByText := true, laidKinds := [.data, .data, .data], laidTests := true, laidLooks := .later }
def TermPlaysUptoCardSaid : Prop := Claim7.holds Tryd.pinned (.plain (OpenSpec.upto termPlaysSpec)) termPlaysUptoCard

/-- THE SECOND FORM's CARD OF 'caballaw08.TermMore'. -/
def termMoreUptoCard : Claim7 := { stood := { row := termMoreUptoRow, standIns := [], harness := (true, "c4e662e927adde013fa3f0e60a10ad334ae81a27ba123d626717cd70c3307c4e"), looks := false }, kinds := [], alts := [], laidByText := true, laidKinds := [.data, .data, .data], laidTests := true, laidLooks := .later }
def TermMoreUptoCardSaid : Prop := Claim7.holds Tryd.pinned (.plain (OpenSpec.upto termMoreSpec)) termMoreUptoCard

/-- THE SECOND FORM's CARD OF 'caballaw08.TermHides'. -/
def termHidesUptoCard : Claim7 := { stood := { row := termHidesUptoRow, standIns := [], harness := (true, "c4e662e927adde013fa3f0e60a10ad334ae81a27ba123d626717cd70c3307c4e"), looks := false }, kinds := [], alts := [], laidByText := true, laidKinds := [.data, .data, .data], laidTests := true, laidLooks := .later }
def TermHidesUptoCardSaid : Prop := Claim7.holds Tryd.pinned (.plain (OpenSpec.upto termHidesSpec)) termHidesUptoCard

/-- THE SECOND FORM's CARD OF 'caballaw08.TermMeets'. -/
def termMeetsUptoCard : Claim7 := { stood := { row := termMeetsUptoRow, standIns := [], harness := (true, "c4e662e927adde013fa3f0e60a10ad334ae81a27ba123d626717cd70c3307c4e"), looks := false }, kinds := [], alts := [], laidByText := true, laidKinds := [.data, .data, .data], laidTests := true, laidLooks := .later }
def TermMeetsUptoCardSaid : Prop := Claim7.holds Tryd.pinned (.plain (OpenSpec.upto termMeetsSpec)) termMeetsUptoCard
end Rows
end Go.Proofs.YtecjhpamfkfilaaDoor
