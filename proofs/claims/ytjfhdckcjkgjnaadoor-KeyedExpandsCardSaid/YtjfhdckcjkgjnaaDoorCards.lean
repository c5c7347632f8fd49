/-
  DERIVED. GIVEN WITH THE SEED: THE CARDS: each row of YtjfhdckcjkgjnaaDoorRows.lean that lists a variable, with what it lists TIED to the program's text (the seventh form; the later family's looks); each row that meets fmt, with fmt's text TOLD by the authors' own Lean function (tested against real Go, not proved from fmt's source: count such statements apart). THE CARD IS WHAT COUNTS. Prove the row's statement (the work); the ties are given (YtjfhdckcjkgjnaaDoorTie.lean); close each card by the builder's one call (the guide's Derived/Test/ToyasCard.lean, 'card_holds'). Laid BY PROGRAM, IN A SANDBOX (cutbox-door.mjs). By AI agents, Wed Nov 11 2026. No macro, syntax, notation, axiom, sorry.
-/
import Derived.Test.YtjfhdckcjkgjnaaDoorRows
import GoSem.ClaimSeven
namespace Go.Proofs.YtjfhdckcjkgjnaaDoor
namespace Rows

/-- THE TIED CARD OF 'caballaw02.KeyedTags'. -/
def keyedTagsCard : Claim7 := { stood := { row := keyedTagsRow, standIns := [], harness := (true, "5d474a7e1ce84009d1da27cef4cf816e9af7839d2457f31fc0d4275bfda253fa"), looks := false }, kinds := [], alts := [], laidByText := true, laidKinds := [.data, .data], laidTests := true, laidLooks := .later }
def KeyedTagsCardSaid : Prop := Claim7.holds Tryd.pinned (.plain (OpenSpec.ofChange keyedTagsSpec)) keyedTagsCard

/-- THE TIED CARD OF 'caballaw02.KeyedWrites'. -/
def keyedWritesCard : Claim7 := { stood := { row := keyedWritesRow, standIns := [], harness := (true, "5d474a7e1ce84009d1da27cef4cf816e9af7839d2457f31fc0d4275bfda253fa"), looks := false }, kinds := [], alts := [], laidByText := true, laidKinds := [.data, .data], laidTests := true, laidLooks := .later }
def KeyedWritesCardSaid : Prop := Claim7.holds Tryd.pinned (.plain (OpenSpec.ofChange keyedWritesSpec)) keyedWritesCard

/-- THE TIED CARD OF 'caballaw02.KeyedExpands'. -/
def keyedExpandsCard : Claim7 := { stood := { row := keyedExpandsRow, standIns := [], harness := (true, "5d474a7e1ce84009d1da27cef4cf816e9af7839d2457f31fc0d4275bfda253fa"), looks := false }, kinds := [], alts := [], laidByText := true, laidKinds := [.data, .data], laidTests := true, laidLooks := .later }
def KeyedExpandsCardSaid : Prop := Claim7.holds Tryd.pinned (.plain (OpenSpec.ofChange keyedExpandsSpec)) keyedExpandsCard

/-- THE TIED CARD OF 'caballaw02.KeyedEqual'. -/
def keyedEqualCard : Claim7 := { stood := { row := keyedEqualRow, standIns := [], harness := (true, "5d474a7e1ce84009d1da27cef4cf816e9af7839d2457f31fc0d4275bfda253fa"), looks := false }, kinds := [], alts := [], laidByText := true, laidKinds := [.data, .data], laidTests := true, laidLooks := .later }
def KeyedEqualCardSaid : Prop := Claim7.holds Tryd.pinned (.plain (OpenSpec.ofChange keyedEqualSpec)) keyedEqualCard

/-- THE TIED CARD OF 'caballaw02.KeyedLong'. -/
def keyedLongCard : Claim7 := { stood := { row := keyedLongRow, standIns := [], harness := (true, "5d474a7e1ce84009d1da27cef4cf816e9af7839d2457f31fc0d4275bfda253fa"), looks := false }, kinds := [], alts := [], laidByText := true, laidKinds := [.data, .data], laidTests := true, laidLooks := .later }
def KeyedLongCardSaid : Prop := Claim7.holds Tryd.pinned (.plain (OpenSpec.ofChange keyedLongSpec)) keyedLongCard

/-- THE TIED CARD OF 'caballaw02.KeyedFront'. -/
def keyedFrontCard : Claim7 := { stood := { row := keyedFrontRow, standIns := [], harness := (true, "5d474a7e1ce84009d1da27cef4cf816e9af7839d2457f31fc0d4275bfda253fa"), looks := false }, kinds := [], alts := [], laidByText := true, laidKinds := [.data, .data], laidTests := true, laidLooks := .later }
def KeyedFrontCardSaid : Prop := Claim7.holds Tryd.pinned (.plain (OpenSpec.ofChange keyedFrontSpec)) keyedFrontCard

/-- THE SECOND FORM's CARD OF 'caballaw02.KeyedTags'. -/
def keyedTagsUptoCard : Claim7 := { stood := { row := keyedTagsUptoRow, standIns := [], harness := (true, "5d474a7e1ce84009d1da27cef4cf816e9af7839d2457f31fc0d4275bfda253fa"), looks := false }, kinds := [], alts := [], laidByText := true, laidKinds := [.data, .data], laidTests := true, laidLooks := .later }
def KeyedTagsUptoCardSaid : Prop := Claim7.holds Tryd.pinned (.plain (OpenSpec.upto keyedTagsSpec)) keyedTagsUptoCard

/-- THE SECOND FORM's CARD OF 'caballaw02.KeyedWrites'. -/
def keyedWritesUptoCard : Claim7 := { stood := { row := keyedWritesUptoRow, standIns := [], harness := (true, "5d474a7e1ce84009d1da27cef4cf816e9af7839d2457f31fc0d4275bfda253fa"), looks := false }, kinds := [], alts := [], laidByText := true, laidKinds := [.data, .data], laidTests := true, laidLooks := .later }
def KeyedWritesUptoCardSaid : Prop := Claim7.holds Tryd.pinned (.plain (OpenSpec.upto keyedWritesSpec)) keyedWritesUptoCard

/-- THE SECOND FORM's CARD OF 'caballaw02.KeyedExpands'. -/
def keyedExpandsUptoCard : Claim7 := { stood := { row := keyedExpandsUptoRow, standIns := [], harness := (true, "5d474a7e1ce84009d1da27cef4cf816e9af7839d2457f31fc0d4275bfda253fa"), looks := false }, kinds := [], alts := [], laidByText := true, laidKinds := [.data, .data], laidTests := true, laidLooks := .later }
def KeyedExpandsUptoCardSaid : Prop := Claim7.holds Tryd.pinned (.plain (OpenSpec.upto keyedExpandsSpec)) keyedExpandsUptoCard

/-- THE SECOND FORM's CARD OF 'caballaw02.KeyedEqual'. -/
def keyedEqualUptoCard : Claim7 := { stood := { row := keyedEqualUptoRow, standIns := [], harness := (true, "5d474a7e1ce84009d1da27cef4cf816e9af7839d2457f31fc0d4275bfda253fa"), looks := false }, kinds := [], alts := [], laidByText := true, laidKinds := [.data, .data], laidTests := true, laidLooks := .later }
def KeyedEqualUptoCardSaid : Prop := Claim7.holds Tryd.pinned (.plain (OpenSpec.upto keyedEqualSpec)) keyedEqualUptoCard

/-- THE SECOND FORM's CARD OF 'caballaw02.KeyedLong'. -/
def keyedLongUptoCard : Claim7 := { stood := { row := keyedLongUptoRow, standIns := [], harness := (true, "5d474a7e1ce84009d1da27cef4cf816e9af7839d2457f31fc0d4275bfda253fa"), looks := false }, kinds := [], alts := [], laidByText := true, laidKinds := [.data, .data], laidTests := true, laidLooks := .later }
def KeyedLongUptoCardSaid : Prop := Claim7.holds Tryd.pinned (.plain (OpenSpec.upto keyedLongSpec)) keyedLongUptoCard

/-- THE SECOND FORM's CARD OF 'caballaw02.KeyedFront'. -/
def keyedFrontUptoCard : Claim7 := { stood := { row := keyedFrontUptoRow, standIns := [], harness := (true, "5d474a7e1ce84009d1da27cef4cf816e9af7839d2457f31fc0d4275bfda253fa"), looks := false }, kinds := [], alts := [], laidByText := true, laidKinds := [.data, .data], laidTests := true, laidLooks := .later }
def KeyedFrontUptoCardSaid : Prop := Claim7.holds Tryd.pinned (.plain (OpenSpec.upto keyedFrontSpec)) keyedFrontUptoCard
end Rows
end Go.Proofs.YtjfhdckcjkgjnaaDoor
