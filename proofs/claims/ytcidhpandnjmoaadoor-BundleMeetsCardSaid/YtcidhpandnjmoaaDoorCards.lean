/-
  DERIVED. GIVEN WITH THE SEED: THE CARDS: each row of YtcidhpandnjmoaaDoorRows.lean that lists a variable, with what it lists TIED to the program's text (the seventh form; the later family's looks); each row that meets fmt, with fmt's text TOLD by the authors' own Lean function (tested against real Go, not proved from fmt's source: count such statements apart). THE CARD IS WHAT COUNTS. Prove the row's statement (the work); the ties are given (YtcidhpandnjmoaaDoorTie.lean); close each card by the builder's one call (the guide's Derived/Test/ToyasCard.lean, 'card_holds'). Laid BY PROGRAM, IN A SANDBOX (cutbox-door.mjs). By AI agents, Wed Nov 11 2026. No macro, syntax, notation, axiom, sorry.
-/
import Derived.Test.YtcidhpandnjmoaaDoorRows
import GoSem.ClaimSeven
namespace Go.Proofs.YtcidhpandnjmoaaDoor
namespace Rows

/-- THE TIED CARD OF 'caballaw11.FrameBack'. -/
def frameBackCard : Claim7 := { stood := { row := frameBackRow, standIns := [], harness := (true, "9d6731c6fc6bf0d6d930d2678f5f53849b3d9ec4657eb09d8912a0b9c507bc48"), looks := false }, kinds := [], alts := [], laidByText := true, laidKinds := [.data, .data, .data], laidTests := true, laidLooks := .later }
def FrameBackCardSaid : Prop := Claim7.holds Tryd.pinned (.plain (OpenSpec.ofChange frameBackSpec)) frameBackCard

/-- THE TIED CARD OF 'caballaw11.FrameApart'. -/
def frameApartCard : Claim7 := { stood := { row := frameApartRow, standIns := [], harness := (true, "9d6731c6fc6bf0d6d930d2678f5f53849b3d9ec4657eb09d8912a0b9c507bc48"), looks := false }, kinds := [], alts := [], laidByText := true, laidKinds := [.data, .data, .data], laidTests := true, laidLooks := .later }
def FrameApartCardSaid : Prop := Claim7.holds Tryd.pinned (.plain (OpenSpec.ofChange frameApartSpec)) frameApartCard

/-- THE TIED CARD OF 'caballaw14.RatchetTalks'. -/
def ratchetTalksCard : Claim7 := { stood := { row := ratchetTalksRow, standIns := [], harness := (true, "9d6731c6fc6bf0d6d930d2678f5f53849b3d9ec4657eb09d8912a0b9c507bc48"), looks := false }, kinds := [], alts := [], laidByText := true, laidKinds := [.data, .data, .data], laidTests := true, laidLooks := .later }
def RatchetTalksCardSaid : Prop := Claim7.holds Tryd.pinned (.plain (OpenSpec.ofChange ratchetTalksSpec)) ratchetTalksCard

/-- THE TIED CARD OF 'caballaw14.RatchetForgets'. -/
def ratchetForgetsCard : Claim7 := { stood := { row := ratchetForgetsRow, standIns := [], harness := (true, "9d6731c6fc6bf0d6d930d2678f5f53849b3d9ec4657eb09d8912a0b9c507bc48"), looks := false }, kinds := [], alts := [], laidByText := true, laidKinds := [.data, .data, .data], laidTests := true, laidLooks := .later }
def RatchetForgetsCardSaid : Prop := Claim7.holds Tryd.pinned (.plain (OpenSpec.ofChange ratchetForgetsSpec)) ratchetForgetsCard

/-- THE TIED CARD OF 'caballaw17.SecretsApart'. -/
def secretsApartCard : Claim7 := { stood := { row := secretsApartRow, standIns := [], harness := (true, "9d6731c6fc6bf0d6d930d2678f5f53849b3d9ec4657eb09d8912a0b9c507bc48"), looks := false }, kinds := [], alts := [], laidByText := true, laidKinds := [.data, .data, .data], laidTests := true, laidLooks := .later }
def SecretsApartCardSaid : Prop := Claim7.holds Tryd.pinned (.plain (OpenSpec.ofChange secretsApartSpec)) secretsApartCard

/-- THE TIED CARD OF 'caballaw18.ChainTalks'. -/
def chainTalksCard : Claim7 := { stood := { row := chainTalksRow, standIns := [], harness := (true, "9d6731c6fc6bf0d6d930d2678f5f53849b3d9ec4657eb09d8912a0b9c507bc48"), looks := false }, kinds := [], alts := [], laidByText := true, laidKinds := [.data, .data, .data], laidTests := true, laidLooks := .later }
def ChainTalksCardSaid : Prop := Claim7.holds Tryd.pinned (.plain (OpenSpec.ofChange chainTalksSpec)) chainTalksCard

/-- THE TIED CARD OF 'caballaw18.ChainForgets'. -/
def chainForgetsCard : Claim7 := { stood := { row := chainForgetsRow, standIns := [], harness := (true, "9d6731c6fc6bf0d6d930d2678f5f53849b3d9ec4657eb09d8912a0b9c507bc48"), looks := false }, kinds := [], alts := [], laidByText := true, laidKinds := [.data, .data, .data], laidTests := true, laidLooks := .later }
def ChainForgetsCardSaid : Prop := Claim7.holds Tryd.pinned (.plain (OpenSpec.ofChange chainForgetsSpec)) chainForgetsCard

/-- THE TIED CARD OF 'caballaw28.BundleMeets'. -/
def bundleMeetsCard : Claim7 := { stood := { row := bundleMeetsRow, standIns := [], harness := (true, "9d6731c6fc6bf0d6d930d2678f5f53849b3d9ec4657eb09d8912a0b9c507bc48"), looks := false }, kinds := [], alts := [], laidByText := true, laidKinds := [.data, .data, .data], laidTests := true, laidLooks := .later }
def BundleMeetsCardSaid : Prop := Claim7.holds Tryd.pinned (.plain (OpenSpec.ofChange bundleMeetsSpec)) bundleMeetsCard

/-- THE TIED CARD OF 'caballaw28.BundleHides'. -/
def bundleHidesCard : Claim7 := { stood := { row := bundleHidesRow, standIns := [], harness := (true, "9d6731c6fc6bf0d6d930d2678f5f53849b3d9ec4657eb09d8912a0b9c507bc48"), looks := false }, kinds := [], alts := [], laidByText := true, laidKinds := [.data, .data, .data], laidTests := true, laidLooks := .later }
def BundleHidesCardSaid : Prop := Claim7.holds Tryd.pinned (.plain (OpenSpec.ofChange bundleHidesSpec)) bundleHidesCard

/-- THE SECOND FORM's CARD OF 'caballaw11.FrameBack'. -/
def frameBackUptoCard : Claim7 := { stood := { row := frameBackUptoRow, standIns := [], harness := (true, "9d6731c6fc6bf0d6d930d2678f5f53849b3d9ec4657eb09d8912a0b9c507bc48"), looks := false }, kinds := [], alts := [], laidByText := true, laidKinds := [.data, .data, .data], laidTests := true, laidLooks := .later }
def FrameBackUptoCardSaid : Prop := Claim7.holds Tryd.pinned (.plain (OpenSpec.upto frameBackSpec)) frameBackUptoCard

/-- THE SECOND FORM's CARD OF 'caballaw11.FrameApart'. -/
def frameApartUptoCard : Claim7 := { stood := { row := frameApartUptoRow, standIns := [], harness := (true, "9d6731c6fc6bf0d6d930d2678f5f53849b3d9ec4657eb09d8912a0b9c507bc48"), looks := false }, kinds := [], alts := [], laidByText := true, laidKinds := [.data, .data, .data], laidTests := true, laidLooks := .later }
def FrameApartUptoCardSaid : Prop := Claim7.holds Tryd.pinned (.plain (OpenSpec.upto frameApartSpec)) frameApartUptoCard

/-- THE SECOND FORM's CARD OF 'caballaw14.RatchetTalks'. -/
def ratchetTalksUptoCard : Claim7 := { stood := { row := ratchetTalksUptoRow, standIns := [], harness := (true, "9d6731c6fc6bf0d6d930d2678f5f53849b3d9ec4657eb09d8912a0b9c507bc48"), looks := false }, kinds := [], alts := [], laidByText := true, laidKinds := [.data, .data, .data], laidTests := true, laidLooks := .later }
def RatchetTalksUptoCardSaid : Prop := Claim7.holds Tryd.pinned (.plain (OpenSpec.upto ratchetTalksSpec)) ratchetTalksUptoCard

/-- THE SECOND FORM's CARD OF 'caballaw14.RatchetForgets'. -/
def ratchetForgetsUptoCard : Claim7 := { stood := { row := ratchetForgetsUptoRow, standIns := [], harness := (true, "9d6731c6fc6bf0d6d930d2678f5f53849b3d9ec4657eb09d8912a0b9c507bc48"), looks := false }, kinds := [], alts := [], laidByText := true, laidKinds := [.data, .data, .data], laidTests := true, laidLooks := .later }
def RatchetForgetsUptoCardSaid : Prop := Claim7.holds Tryd.pinned (.plain (OpenSpec.upto ratchetForgetsSpec)) ratchetForgetsUptoCard

/-- THE SECOND FORM's CARD OF 'caballaw17.SecretsApart'. -/
def secretsApartUptoCard : Claim7 := { stood := { row := secretsApartUptoRow, standIns := [], harness := (true, "9d6731c6fc6bf0d6d930d2678f5f53849b3d9ec4657eb09d8912a0b9c507bc48"), looks := false }, kinds := [], alts := [], laidByText := true, laidKinds := [.data, .data, .data], laidTests := true, laidLooks := .later }
def SecretsApartUptoCardSaid : Prop := Claim7.holds Tryd.pinned (.plain (OpenSpec.upto secretsApartSpec)) secretsApartUptoCard

/-- THE SECOND FORM's CARD OF 'caballaw18.ChainTalks'. -/
def chainTalksUptoCard : Claim7 := { stood := { row := chainTalksUptoRow, standIns := [], harness := (true, "9d6731c6fc6bf0d6d930d2678f5f53849b3d9ec4657eb09d8912a0b9c507bc48"), looks := false }, kinds := [], alts := [], laidByText := true, laidKinds := [.data, .data, .data], laidTests := true, laidLooks := .later }
def ChainTalksUptoCardSaid : Prop := Claim7.holds Tryd.pinned (.plain (OpenSpec.upto chainTalksSpec)) chainTalksUptoCard

/-- THE SECOND FORM's CARD OF 'caballaw18.ChainForgets'. -/
def chainForgetsUptoCard : Claim7 := { stood := { row := chainForgetsUptoRow, standIns := [], harness := (true, "9d6731c6fc6bf0d6d930d2678f5f53849b3d9ec4657eb09d8912a0b9c507bc48"), looks := false }, kinds := [], alts := [], laidByText := true, laidKinds := [.data, .data, .data], laidTests := true, laidLooks := .later }
def ChainForgetsUptoCardSaid : Prop := Claim7.holds Tryd.pinned (.plain (OpenSpec.upto chainForgetsSpec)) chainForgetsUptoCard

/-- THE SECOND FORM's CARD OF 'caballaw28.BundleMeets'. -/
def bundleMeetsUptoCard : Claim7 := { stood := { row := bundleMeetsUptoRow, standIns := [], harness := (true, "9d6731c6fc6bf0d6d930d2678f5f53849b3d9ec4657eb09d8912a0b9c507bc48"), looks := false }, kinds := [], alts := [], laidByText := true, laidKinds := [.data, .data, .data], laidTests := true, laidLooks := .later }
def BundleMeetsUptoCardSaid : Prop := Claim7.holds Tryd.pinned (.plain (OpenSpec.upto bundleMeetsSpec)) bundleMeetsUptoCard

/-- THE SECOND FORM's CARD OF 'caballaw28.BundleHides'. -/
def bundleHidesUptoCard : Claim7 := { stood := { row := bundleHidesUptoRow, standIns := [], harness := (true, "9d6731c6fc6bf0d6d930d2678f5f53849b3d9ec4657eb09d8912a0b9c507bc48"), looks := false }, kinds := [], alts := [], laidByText := true, laidKinds := [.data, .data, .data], laidTests := true, laidLooks := .later }
def BundleHidesUptoCardSaid : Prop := Claim7.holds Tryd.pinned (.plain (OpenSpec.upto bundleHidesSpec)) bundleHidesUptoCard
end Rows
end Go.Proofs.YtcidhpandnjmoaaDoor
