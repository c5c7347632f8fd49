/-
  No cell of these rows narrows 'for every input' (looked for: loops, veiled, ifaces, maps, wideKeys, modest, calm, conditions, laid).
  DERIVED. THE GIVEN ROWS OF THIS SEAT. 5 by the template 'for every input the law returns true; each argument reads behind the call as it read before'; 0 by the template 'total and deterministic' (their statements: YthkcbhealphpmaaTotals.lean).
  GIVEN WITH THE SEED: the statements are not yours to turn. If you find one false, say at which input.
  Laid BY PROGRAM, IN A SANDBOX (cutbox-rows.mjs): the forced cells as the released guide's own fill.sh prints them over the translation f088ceacc8ebe94f… (all of the seat's roots in one cut). By AI agents, Wed Nov 11 2026. No macro, syntax, notation, axiom, sorry.
-/
import Derived.Test.YthkcbhealphpmaaChecked
import GoSem.Claim
import GoSem.ClaimJoined
import GoSem.ClaimMapViews
import Derived.JoinedTies
import Derived.KernelRfl
namespace Go.Proofs.Ythkcbhealphpmaa
/- THE CELL 'sum', in the pinned program and in every row, IS THE sha256 OF THE DUMP (.gsa) THAT YthkcbhealphpmaaProg.lean LOADS. Nothing in Lean hashes anything: it is a label: what it is worth is what the hold of that sum in a sandbox is worth. -/
noncomputable def Try.pinned : Pinned := { name := "ythkcbhealphpmaa", sum := "f088ceacc8ebe94fbd385867e4303e9a34a1042daa37166898ad3cc82b09fe90", checked := Try.checked }
namespace Rows
def none {H : Type} : Left H := { results := [], args := [] }

/-- 'caballaw04.OnetimeTags': WHATEVER THE INPUT: true; the input reads as it did. -/
def onetimeTagsSpec : ChangeSpec := { name := "onetimeTags", fn := fun _ => fun
  | [d1, d2] => { results := [.lit (.bool true)], args := [d1, d2] }
  | _ => none }
def onetimeTagsRow : OpenClaim := { program := "ythkcbhealphpmaa", sum := "f088ceacc8ebe94fbd385867e4303e9a34a1042daa37166898ad3cc82b09fe90", func := "cabal/caballaw04.OnetimeTags", spec := "onetimeTags", inPlace := ["internal/abi.NoEscape", "internal/bytealg.MakeNoZero", "math/bits.Add64"], apart := false }
def OnetimeTagsSaid : Prop := onetimeTagsRow.holds Try.pinned (OpenSpec.ofChange onetimeTagsSpec)

/-- ITS FALSE NEIGHBOUR: 'it returns false'. Refute it at one input. -/
def onetimeTagsWrong : ChangeSpec := { name := "onetimeTags", fn := fun _ => fun
  | [d1, d2] => { results := [.lit (.bool false)], args := [d1, d2] }
  | _ => none }
def OnetimeTagsWrongFalsely : Prop := onetimeTagsRow.holds Try.pinned (OpenSpec.ofChange onetimeTagsWrong)

/-- 'caballaw04.OnetimeWrites': WHATEVER THE INPUT: true; the input reads as it did. -/
def onetimeWritesSpec : ChangeSpec := { name := "onetimeWrites", fn := fun _ => fun
  | [d1, d2] => { results := [.lit (.bool true)], args := [d1, d2] }
  | _ => none }
def onetimeWritesRow : OpenClaim := { program := "ythkcbhealphpmaa", sum := "f088ceacc8ebe94fbd385867e4303e9a34a1042daa37166898ad3cc82b09fe90", func := "cabal/caballaw04.OnetimeWrites", spec := "onetimeWrites", inPlace := ["internal/abi.NoEscape", "internal/bytealg.MakeNoZero", "math/bits.Add64"], apart := false }
def OnetimeWritesSaid : Prop := onetimeWritesRow.holds Try.pinned (OpenSpec.ofChange onetimeWritesSpec)

/-- ITS FALSE NEIGHBOUR: 'it returns false'. Refute it at one input. -/
def onetimeWritesWrong : ChangeSpec := { name := "onetimeWrites", fn := fun _ => fun
  | [d1, d2] => { results := [.lit (.bool false)], args := [d1, d2] }
  | _ => none }
def OnetimeWritesWrongFalsely : Prop := onetimeWritesRow.holds Try.pinned (OpenSpec.ofChange onetimeWritesWrong)

/-- 'caballaw04.OnetimePieces': WHATEVER THE INPUT: true; the input reads as it did. -/
def onetimePiecesSpec : ChangeSpec := { name := "onetimePieces", fn := fun _ => fun
  | [d1, d2, d3] => { results := [.lit (.bool true)], args := [d1, d2, d3] }
  | _ => none }
def onetimePiecesRow : OpenClaim := { program := "ythkcbhealphpmaa", sum := "f088ceacc8ebe94fbd385867e4303e9a34a1042daa37166898ad3cc82b09fe90", func := "cabal/caballaw04.OnetimePieces", spec := "onetimePieces", inPlace := ["internal/abi.NoEscape", "internal/bytealg.MakeNoZero", "math/bits.Add64"], apart := false }
def OnetimePiecesSaid : Prop := onetimePiecesRow.holds Try.pinned (OpenSpec.ofChange onetimePiecesSpec)

/-- ITS FALSE NEIGHBOUR: 'it returns false'. Refute it at one input. -/
def onetimePiecesWrong : ChangeSpec := { name := "onetimePieces", fn := fun _ => fun
  | [d1, d2, d3] => { results := [.lit (.bool false)], args := [d1, d2, d3] }
  | _ => none }
def OnetimePiecesWrongFalsely : Prop := onetimePiecesRow.holds Try.pinned (OpenSpec.ofChange onetimePiecesWrong)

/-- 'caballaw04.OnetimeEnds': WHATEVER THE INPUT: true; the input reads as it did. -/
def onetimeEndsSpec : ChangeSpec := { name := "onetimeEnds", fn := fun _ => fun
  | [d1, d2] => { results := [.lit (.bool true)], args := [d1, d2] }
  | _ => none }
def onetimeEndsRow : OpenClaim := { program := "ythkcbhealphpmaa", sum := "f088ceacc8ebe94fbd385867e4303e9a34a1042daa37166898ad3cc82b09fe90", func := "cabal/caballaw04.OnetimeEnds", spec := "onetimeEnds", inPlace := ["internal/abi.NoEscape", "internal/bytealg.MakeNoZero", "math/bits.Add64"], apart := false }
def OnetimeEndsSaid : Prop := onetimeEndsRow.holds Try.pinned (OpenSpec.ofChange onetimeEndsSpec)

/-- ITS FALSE NEIGHBOUR: 'it returns false'. Refute it at one input. -/
def onetimeEndsWrong : ChangeSpec := { name := "onetimeEnds", fn := fun _ => fun
  | [d1, d2] => { results := [.lit (.bool false)], args := [d1, d2] }
  | _ => none }
def OnetimeEndsWrongFalsely : Prop := onetimeEndsRow.holds Try.pinned (OpenSpec.ofChange onetimeEndsWrong)

/-- 'caballaw04.OnetimeSums': WHATEVER THE INPUT: true; the input reads as it did. -/
def onetimeSumsSpec : ChangeSpec := { name := "onetimeSums", fn := fun _ => fun
  | [d1, d2, d3] => { results := [.lit (.bool true)], args := [d1, d2, d3] }
  | _ => none }
def onetimeSumsRow : OpenClaim := { program := "ythkcbhealphpmaa", sum := "f088ceacc8ebe94fbd385867e4303e9a34a1042daa37166898ad3cc82b09fe90", func := "cabal/caballaw04.OnetimeSums", spec := "onetimeSums", inPlace := ["internal/abi.NoEscape", "internal/bytealg.MakeNoZero", "math/bits.Add64"], apart := false }
def OnetimeSumsSaid : Prop := onetimeSumsRow.holds Try.pinned (OpenSpec.ofChange onetimeSumsSpec)

/-- ITS FALSE NEIGHBOUR: 'it returns false'. Refute it at one input. -/
def onetimeSumsWrong : ChangeSpec := { name := "onetimeSums", fn := fun _ => fun
  | [d1, d2, d3] => { results := [.lit (.bool false)], args := [d1, d2, d3] }
  | _ => none }
def OnetimeSumsWrongFalsely : Prop := onetimeSumsRow.holds Try.pinned (OpenSpec.ofChange onetimeSumsWrong)

/- THE SECOND FORM. 'bulk': how many values and letters a reading holds, each counted each time it is reached (what is shared counts as often as it is met; a slice's spare places count too). A statement '..UptoSaid' is the law's where the arguments, and the package variables that the reading takes, are together of bulk at most 1048576: NARROWER than '..Said'. Prove '..Said' where nothing that the law and all that it calls make is longer than what came in: it says more and counts as full. Else prove '..UptoSaid'. A law counts once. -/
mutual
def uptoBulk {H : Type} : DataW H → Nat
  | .lit (.string bytes) => bytes.length + 1
  | .lit _ => 1
  | .nil => 1
  | .ptr d => uptoBulk d + 1
  | .slice elems spare => uptoBulkAll elems + uptoBulkAll spare + 1
  | .agg parts => uptoBulkAll parts + 1
  | .iface _ d => uptoBulk d + 1
  | .map entries => uptoBulkEntries entries + 1
  | .held _ => 1
def uptoBulkAll {H : Type} : List (DataW H) → Nat
  | [] => 0
  | d :: r => uptoBulk d + uptoBulkAll r
def uptoBulkEntries {H : Type} : List (Lit × DataW H) → Nat
  | [] => 0
  | x :: r => uptoBulkEntry x + uptoBulkEntries r
def uptoBulkEntry {H : Type} : Lit × DataW H → Nat
  | (.string bytes, d) => bytes.length + uptoBulk d + 1
  | (_, d) => uptoBulk d + 1
 end
def uptoSmall : (H : Type) → List (DataW H) → Bool := fun _ ds => decide (uptoBulkAll ds ≤ 1048576)
def OpenSpec.upto (s : _root_.Go.ChangeSpec) : _root_.Go.OpenSpec := { _root_.Go.OpenSpec.ofChange s with cond := some uptoSmall }

/-- 'caballaw04.OnetimeTags', WHERE WHAT IT READS IS OF BULK AT MOST 1048576: true; the input reads as it did. -/
def onetimeTagsUptoRow : OpenClaim := { program := "ythkcbhealphpmaa", sum := "f088ceacc8ebe94fbd385867e4303e9a34a1042daa37166898ad3cc82b09fe90", func := "cabal/caballaw04.OnetimeTags", spec := "onetimeTags", inPlace := ["internal/abi.NoEscape", "internal/bytealg.MakeNoZero", "math/bits.Add64"], apart := false, narrowed := true }
def OnetimeTagsUptoSaid : Prop := onetimeTagsUptoRow.holds Try.pinned (OpenSpec.upto onetimeTagsSpec)

/-- 'caballaw04.OnetimeWrites', WHERE WHAT IT READS IS OF BULK AT MOST 1048576: true; the input reads as it did. -/
def onetimeWritesUptoRow : OpenClaim := { program := "ythkcbhealphpmaa", sum := "f088ceacc8ebe94fbd385867e4303e9a34a1042daa37166898ad3cc82b09fe90", func := "cabal/caballaw04.OnetimeWrites", spec := "onetimeWrites", inPlace := ["internal/abi.NoEscape", "internal/bytealg.MakeNoZero", "math/bits.Add64"], apart := false, narrowed := true }
def OnetimeWritesUptoSaid : Prop := onetimeWritesUptoRow.holds Try.pinned (OpenSpec.upto onetimeWritesSpec)

/-- 'caballaw04.OnetimePieces', WHERE WHAT IT READS IS OF BULK AT MOST 1048576: true; the input reads as it did. -/
def onetimePiecesUptoRow : OpenClaim := { program := "ythkcbhealphpmaa", sum := "f088ceacc8ebe94fbd385867e4303e9a34a1042daa37166898ad3cc82b09fe90", func := "cabal/caballaw04.OnetimePieces", spec := "onetimePieces", inPlace := ["internal/abi.NoEscape", "internal/bytealg.MakeNoZero", "math/bits.Add64"], apart := false, narrowed := true }
def OnetimePiecesUptoSaid : Prop := onetimePiecesUptoRow.holds Try.pinned (OpenSpec.upto onetimePiecesSpec)

/-- 'caballaw04.OnetimeEnds', WHERE WHAT IT READS IS OF BULK AT MOST 1048576: true; the input reads as it did. -/
def onetimeEndsUptoRow : OpenClaim := { program := "ythkcbhealphpmaa", sum := "f088ceacc8ebe94fbd385867e4303e9a34a1042daa37166898ad3cc82b09fe90", func := "cabal/caballaw04.OnetimeEnds", spec := "onetimeEnds", inPlace := ["internal/abi.NoEscape", "internal/bytealg.MakeNoZero", "math/bits.Add64"], apart := false, narrowed := true }
def OnetimeEndsUptoSaid : Prop := onetimeEndsUptoRow.holds Try.pinned (OpenSpec.upto onetimeEndsSpec)

/-- 'caballaw04.OnetimeSums', WHERE WHAT IT READS IS OF BULK AT MOST 1048576: true; the input reads as it did. -/
def onetimeSumsUptoRow : OpenClaim := { program := "ythkcbhealphpmaa", sum := "f088ceacc8ebe94fbd385867e4303e9a34a1042daa37166898ad3cc82b09fe90", func := "cabal/caballaw04.OnetimeSums", spec := "onetimeSums", inPlace := ["internal/abi.NoEscape", "internal/bytealg.MakeNoZero", "math/bits.Add64"], apart := false, narrowed := true }
def OnetimeSumsUptoSaid : Prop := onetimeSumsUptoRow.holds Try.pinned (OpenSpec.upto onetimeSumsSpec)

end Rows
end Go.Proofs.Ythkcbhealphpmaa
