/-
  DERIVED. GIVEN WITH THE SEED: THE CARDS: each row of YtlaglpnbmkoakaaDoorRows.lean that lists a variable, with what it lists TIED to the program's text (the seventh form; the later family's looks); each row that meets fmt, with fmt's text TOLD by the authors' own Lean function (tested against real Go, not proved from fmt's source: count such statements apart). THE CARD IS WHAT COUNTS. Prove the row's statement (the work); the ties are given (YtlaglpnbmkoakaaDoorTie.lean); close each card by the builder's one call (the guide's Derived/Test/ToyasCard.lean, 'card_holds'). Laid BY PROGRAM, IN A SANDBOX (cutbox-door.mjs). By AI agents, Wed Nov 11 2026. No macro, syntax, notation, axiom, sorry.
-/
import Derived.Test.YtlaglpnbmkoakaaDoorRows
import GoSem.ClaimSeven
namespace Go.Proofs.YtlaglpnbmkoakaaDoor
namespace Rows

/-- THE TIED CARD OF 'caballaw24.FoeMakes'. -/
def foeMakesCard : Claim7 := { stood := { row := foeMakesRow, standIns := [], harness := (true, "443d8bcc1a9a97d7ffe2d2f7e57492ec6efff164cee2d105edc4efd25c231ee3"), looks := false }, kinds := [], alts := [], laidByText := true, laidKinds := [.data, .data, .data], laidTests := true, laidLooks := .later }
def FoeMakesCardSaid : Prop := Claim7.holds Tryd.pinned (.plain (OpenSpec.ofChange foeMakesSpec)) foeMakesCard

/-- THE TIED CARD OF 'caballaw24.FoeShows'. -/
def foeShowsCard : Claim7 := { stood := { row := foeShowsRow, standIns := [], harness := (true, "443d8bcc1a9a97d7ffe2d2f7e57492ec6efff164cee2d105edc4efd25c231ee3"), looks := false }, kinds := [], alts := [], laidByText := true, laidKinds := [.data, .data, .data], laidTests := true, laidLooks := .later }
def FoeShowsCardSaid : Prop := Claim7.holds Tryd.pinned (.plain (OpenSpec.ofChange foeShowsSpec)) foeShowsCard

/-- THE TIED CARD OF 'caballaw24.FoeFollows'. -/
def foeFollowsCard : Claim7 := { stood := { row := foeFollowsRow, standIns := [], harness := (true, "443d8bcc1a9a97d7ffe2d2f7e57492ec6efff164cee2d105edc4efd25c231ee3"), looks := false }, kinds := [], alts := [], laidByText := true, laidKinds := [.data, .data, .data], laidTests := true, laidLooks := .later }
def FoeFollowsCardSaid : Prop := Claim7.holds Tryd.pinned (.plain (OpenSpec.ofChange foeFollowsSpec)) foeFollowsCard

/-- THE SECOND FORM's CARD OF 'caballaw24.FoeMakes'. -/
def foeMakesUptoCard : Claim7 := { stood := { row := foeMakesUptoRow, standIns := [], harness := (true, "443d8bcc1a9a97d7ffe2d2f7e57492ec6efff164cee2d105edc4efd25c231ee3"), looks := false }, kinds := [], alts := [], laidByText := true, laidKinds := [.data, .data, .data], laidTests := true, laidLooks := .later }
def FoeMakesUptoCardSaid : Prop := Claim7.holds Tryd.pinned (.plain (OpenSpec.upto foeMakesSpec)) foeMakesUptoCard

/-- THE SECOND FORM's CARD OF 'caballaw24.FoeShows'. -/
def foeShowsUptoCard : Claim7 := { stood := { row := foeShowsUptoRow, standIns := [], harness := (true, "443d8bcc1a9a97d7ffe2d2f7e57492ec6efff164cee2d105edc4efd25c231ee3"), looks := false }, kinds := [], alts := [], laidByText := true, laidKinds := [.data, .data, .data], laidTests := true, laidLooks := .later }
def FoeShowsUptoCardSaid : Prop := Claim7.holds Tryd.pinned (.plain (OpenSpec.upto foeShowsSpec)) foeShowsUptoCard

/-- THE SECOND FORM's CARD OF 'caballaw24.FoeFollows'. -/
def foeFollowsUptoCard : Claim7 := { stood := { row := foeFollowsUptoRow, standIns := [], harness := (true, "443d8bcc1a9a97d7ffe2d2f7e57492ec6efff164cee2d105edc4efd25c231ee3"), looks := false }, kinds := [], alts := [], laidByText := true, laidKinds := [.data, .data, .data], laidTests := true, laidLooks := .later }
def FoeFollowsUptoCardSaid : Prop := Claim7.holds Tryd.pinned (.plain (OpenSpec.upto foeFollowsSpec)) foeFollowsUptoCard
end Rows
end Go.Proofs.YtlaglpnbmkoakaaDoor
