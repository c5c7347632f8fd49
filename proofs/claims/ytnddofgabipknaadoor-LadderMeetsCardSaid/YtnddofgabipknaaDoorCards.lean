/-
  DERIVED. GIVEN WITH THE SEED: THE CARDS: each row of YtnddofgabipknaaDoorRows.lean that lists a variable, with what it lists TIED to the program's text (the seventh form; the later family's looks); each row that meets fmt, with fmt's text TOLD by the authors' own Lean function (tested against real Go, not proved from fmt's source: count such statements apart). THE CARD IS WHAT COUNTS. Prove the row's statement (the work); the ties are given (YtnddofgabipknaaDoorTie.lean); close each card by the builder's one call (the guide's Derived/Test/ToyasCard.lean, 'card_holds'). Laid BY PROGRAM, IN A SANDBOX (cutbox-door.mjs). By AI agents, Wed Nov 11 2026. No macro, syntax, notation, axiom, sorry.
-/
import Derived.Test.YtnddofgabipknaaDoorRows
import GoSem.ClaimSeven
namespace Go.Proofs.YtnddofgabipknaaDoor
namespace Rows

/-- THE TIED CARD OF 'caballaw07.LadderPublic'. -/
def ladderPublicCard : Claim7 := { stood := { row := ladderPublicRow, standIns := [], harness := (true, "3ca05582d32f52c0cefd818c765118268132cbd60b1a8cf4a8e6399ed1690ee8"), looks := false }, kinds := [], alts := [], laidByText := true, laidKinds := [.data], laidTests := true, laidLooks := .later }
def LadderPublicCardSaid : Prop := Claim7.holds Tryd.pinned (.plain (OpenSpec.ofChange ladderPublicSpec)) ladderPublicCard

/-- THE TIED CARD OF 'caballaw07.LadderAgrees'. -/
def ladderAgreesCard : Claim7 := { stood := { row := ladderAgreesRow, standIns := [], harness := (true, "3ca05582d32f52c0cefd818c765118268132cbd60b1a8cf4a8e6399ed1690ee8"), looks := false }, kinds := [], alts := [], laidByText := true, laidKinds := [.data], laidTests := true, laidLooks := .later }
def LadderAgreesCardSaid : Prop := Claim7.holds Tryd.pinned (.plain (OpenSpec.ofChange ladderAgreesSpec)) ladderAgreesCard

/-- THE TIED CARD OF 'caballaw07.LadderBits'. -/
def ladderBitsCard : Claim7 := { stood := { row := ladderBitsRow, standIns := [], harness := (true, "3ca05582d32f52c0cefd818c765118268132cbd60b1a8cf4a8e6399ed1690ee8"), looks := false }, kinds := [], alts := [], laidByText := true, laidKinds := [.data], laidTests := true, laidLooks := .later }
def LadderBitsCardSaid : Prop := Claim7.holds Tryd.pinned (.plain (OpenSpec.ofChange ladderBitsSpec)) ladderBitsCard

/-- THE TIED CARD OF 'caballaw07.LadderFirst'. -/
def ladderFirstCard : Claim7 := { stood := { row := ladderFirstRow, standIns := [], harness := (true, "3ca05582d32f52c0cefd818c765118268132cbd60b1a8cf4a8e6399ed1690ee8"), looks := false }, kinds := [], alts := [], laidByText := true, laidKinds := [.data], laidTests := true, laidLooks := .later }
def LadderFirstCardSaid : Prop := Claim7.holds Tryd.pinned (.plain (OpenSpec.ofChange ladderFirstSpec)) ladderFirstCard

/-- THE TIED CARD OF 'caballaw07.LadderMeets'. -/
def ladderMeetsCard : Claim7 := { stood := { row := ladderMeetsRow, standIns := [], harness := (true, "3ca05582d32f52c0cefd818c765118268132cbd60b1a8cf4a8e6399ed1690ee8"), looks := false }, kinds := [], alts := [], laidByText := true, laidKinds := [.data], laidTests := true, laidLooks := .later }
def LadderMeetsCardSaid : Prop := Claim7.holds Tryd.pinned (.plain (OpenSpec.ofChange ladderMeetsSpec)) ladderMeetsCard

/-- THE SECOND FORM's CARD OF 'caballaw07.LadderPublic'. -/
def ladderPublicUptoCard : Claim7 := { stood := { row := ladderPublicUptoRow, standIns := [], harness := (true, "3ca05582d32f52c0cefd818c765118268132cbd60b1a8cf4a8e6399ed1690ee8"), looks := false }, kinds := [], alts := [], laidByText := true, laidKinds := [.data], laidTests := true, laidLooks := .later }
def LadderPublicUptoCardSaid : Prop := Claim7.holds Tryd.pinned (.plain (OpenSpec.upto ladderPublicSpec)) ladderPublicUptoCard

/-- THE SECOND FORM's CARD OF 'caballaw07.LadderAgrees'. -/
def ladderAgreesUptoCard : Claim7 := { stood := { row := ladderAgreesUptoRow, standIns := [], harness := (true, "3ca05582d32f52c0cefd818c765118268132cbd60b1a8cf4a8e6399ed1690ee8"), looks := false }, kinds := [], alts := [], laidByText := true, laidKinds := [.data], laidTests := true, laidLooks := .later }
def LadderAgreesUptoCardSaid : Prop := Claim7.holds Tryd.pinned (.plain (OpenSpec.upto ladderAgreesSpec)) ladderAgreesUptoCard

/-- THE SECOND FORM's CARD OF 'caballaw07.LadderBits'. -/
def ladderBitsUptoCard : Claim7 := { stood := { row := ladderBitsUptoRow, standIns := [], harness := (true, "3ca05582d32f52c0cefd818c765118268132cbd60b1a8cf4a8e6399ed1690ee8"), looks := false }, kinds := [], alts := [], laidByText := true, laidKinds := [.data], laidTests := true, laidLooks := .later }
def LadderBitsUptoCardSaid : Prop := Claim7.holds Tryd.pinned (.plain (OpenSpec.upto ladderBitsSpec)) ladderBitsUptoCard

/-- THE SECOND FORM's CARD OF 'caballaw07.LadderFirst'. -/
def ladderFirstUptoCard : Claim7 := { stood := { row := ladderFirstUptoRow, standIns := [], harness := (true, "3ca05582d32f52c0cefd818c765118268132cbd60b1a8cf4a8e6399ed1690ee8"), looks := false }, kinds := [], alts := [], laidByText := true, laidKinds := [.data], laidTests := true, laidLooks := .later }
def LadderFirstUptoCardSaid : Prop := Claim7.holds Tryd.pinned (.plain (OpenSpec.upto ladderFirstSpec)) ladderFirstUptoCard

/-- THE SECOND FORM's CARD OF 'caballaw07.LadderMeets'. -/
def ladderMeetsUptoCard : Claim7 := { stood := { row := ladderMeetsUptoRow, standIns := [], harness := (true, "3ca05582d32f52c0cefd818c765118268132cbd60b1a8cf4a8e6399ed1690ee8"), looks := false }, kinds := [], alts := [], laidByText := true, laidKinds := [.data], laidTests := true, laidLooks := .later }
def LadderMeetsUptoCardSaid : Prop := Claim7.holds Tryd.pinned (.plain (OpenSpec.upto ladderMeetsSpec)) ladderMeetsUptoCard
end Rows
end Go.Proofs.YtnddofgabipknaaDoor
