/-
  No cell of these rows narrows 'for every input' (looked for: loops, veiled, ifaces, maps, wideKeys, modest, calm, conditions, laid).
  DERIVED. THE GIVEN ROWS OF THIS SEAT. 5 by the template 'for every input the law returns true; each argument reads behind the call as it read before'; 0 by the template 'total and deterministic' (their statements: YtocademajjkecaaTotals.lean).
  GIVEN WITH THE SEED: the statements are not yours to turn. If you find one false, say at which input.
  Laid BY PROGRAM, IN A SANDBOX (cutbox-rows.mjs): the forced cells as the released guide's own fill.sh prints them over the translation 7e73758e3dab9d80… (all of the seat's roots in one cut). By AI agents, Wed Nov 11 2026. No macro, syntax, notation, axiom, sorry.
-/
import Derived.Test.YtocademajjkecaaChecked
import GoSem.Claim
import GoSem.ClaimJoined
import GoSem.ClaimMapViews
import Derived.JoinedTies
import Derived.KernelRfl
namespace Go.Proofs.Ytocademajjkecaa
/- THE CELL 'sum', in the pinned program and in every row, IS THE sha256 OF THE DUMP (.gsa) THAT YtocademajjkecaaProg.lean LOADS. Nothing in Lean hashes anything: it is a label: what it is worth is what the hold of that sum in a sandbox is worth. -/
noncomputable def Try.pinned : Pinned := { name := "ytocademajjkecaa", sum := "7e73758e3dab9d80233d9a34f1e8d6e8068c2ed2ff8ec967fb0f6b4a42448678", checked := Try.checked }
namespace Rows
def none {H : Type} : Left H := { results := [], args := [] }

/-- 'caballaw03.StreamBlocks': WHATEVER THE INPUT: true; the input reads as it did. -/
def streamBlocksSpec : ChangeSpec := { name := "streamBlocks", fn := fun _ => fun
  | [d1, d2, d3] => { results := [.lit (.bool true)], args := [d1, d2, d3] }
  | _ => none }
def streamBlocksRow : OpenClaim := { program := "ytocademajjkecaa", sum := "7e73758e3dab9d80233d9a34f1e8d6e8068c2ed2ff8ec967fb0f6b4a42448678", func := "cabal/caballaw03.StreamBlocks", spec := "streamBlocks", apart := false }
def StreamBlocksSaid : Prop := streamBlocksRow.holds Try.pinned (OpenSpec.ofChange streamBlocksSpec)

/-- ITS FALSE NEIGHBOUR: 'it returns false'. Refute it at one input. -/
def streamBlocksWrong : ChangeSpec := { name := "streamBlocks", fn := fun _ => fun
  | [d1, d2, d3] => { results := [.lit (.bool false)], args := [d1, d2, d3] }
  | _ => none }
def StreamBlocksWrongFalsely : Prop := streamBlocksRow.holds Try.pinned (OpenSpec.ofChange streamBlocksWrong)

/-- 'caballaw03.StreamMasks': WHATEVER THE INPUT: true; the input reads as it did. -/
def streamMasksSpec : ChangeSpec := { name := "streamMasks", fn := fun _ => fun
  | [d1, d2, d3, d4] => { results := [.lit (.bool true)], args := [d1, d2, d3, d4] }
  | _ => none }
def streamMasksRow : OpenClaim := { program := "ytocademajjkecaa", sum := "7e73758e3dab9d80233d9a34f1e8d6e8068c2ed2ff8ec967fb0f6b4a42448678", func := "cabal/caballaw03.StreamMasks", spec := "streamMasks", apart := false }
def StreamMasksSaid : Prop := streamMasksRow.holds Try.pinned (OpenSpec.ofChange streamMasksSpec)

/-- ITS FALSE NEIGHBOUR: 'it returns false'. Refute it at one input. -/
def streamMasksWrong : ChangeSpec := { name := "streamMasks", fn := fun _ => fun
  | [d1, d2, d3, d4] => { results := [.lit (.bool false)], args := [d1, d2, d3, d4] }
  | _ => none }
def StreamMasksWrongFalsely : Prop := streamMasksRow.holds Try.pinned (OpenSpec.ofChange streamMasksWrong)

/-- 'caballaw03.StreamBack': WHATEVER THE INPUT: true; the input reads as it did. -/
def streamBackSpec : ChangeSpec := { name := "streamBack", fn := fun _ => fun
  | [d1, d2, d3, d4] => { results := [.lit (.bool true)], args := [d1, d2, d3, d4] }
  | _ => none }
def streamBackRow : OpenClaim := { program := "ytocademajjkecaa", sum := "7e73758e3dab9d80233d9a34f1e8d6e8068c2ed2ff8ec967fb0f6b4a42448678", func := "cabal/caballaw03.StreamBack", spec := "streamBack", apart := false }
def StreamBackSaid : Prop := streamBackRow.holds Try.pinned (OpenSpec.ofChange streamBackSpec)

/-- ITS FALSE NEIGHBOUR: 'it returns false'. Refute it at one input. -/
def streamBackWrong : ChangeSpec := { name := "streamBack", fn := fun _ => fun
  | [d1, d2, d3, d4] => { results := [.lit (.bool false)], args := [d1, d2, d3, d4] }
  | _ => none }
def StreamBackWrongFalsely : Prop := streamBackRow.holds Try.pinned (OpenSpec.ofChange streamBackWrong)

/-- 'caballaw03.StreamParts': WHATEVER THE INPUT: true; the input reads as it did. -/
def streamPartsSpec : ChangeSpec := { name := "streamParts", fn := fun _ => fun
  | [d1, d2, d3, d4, d5, d6] => { results := [.lit (.bool true)], args := [d1, d2, d3, d4, d5, d6] }
  | _ => none }
def streamPartsRow : OpenClaim := { program := "ytocademajjkecaa", sum := "7e73758e3dab9d80233d9a34f1e8d6e8068c2ed2ff8ec967fb0f6b4a42448678", func := "cabal/caballaw03.StreamParts", spec := "streamParts", apart := false }
def StreamPartsSaid : Prop := streamPartsRow.holds Try.pinned (OpenSpec.ofChange streamPartsSpec)

/-- ITS FALSE NEIGHBOUR: 'it returns false'. Refute it at one input. -/
def streamPartsWrong : ChangeSpec := { name := "streamParts", fn := fun _ => fun
  | [d1, d2, d3, d4, d5, d6] => { results := [.lit (.bool false)], args := [d1, d2, d3, d4, d5, d6] }
  | _ => none }
def StreamPartsWrongFalsely : Prop := streamPartsRow.holds Try.pinned (OpenSpec.ofChange streamPartsWrong)

/-- 'caballaw03.StreamQuarter': WHATEVER THE INPUT: true; the input reads as it did. -/
def streamQuarterSpec : ChangeSpec := { name := "streamQuarter", fn := fun _ => fun
  | [d1, d2, d3, d4] => { results := [.lit (.bool true)], args := [d1, d2, d3, d4] }
  | _ => none }
def streamQuarterRow : OpenClaim := { program := "ytocademajjkecaa", sum := "7e73758e3dab9d80233d9a34f1e8d6e8068c2ed2ff8ec967fb0f6b4a42448678", func := "cabal/caballaw03.StreamQuarter", spec := "streamQuarter", apart := false }
def StreamQuarterSaid : Prop := streamQuarterRow.holds Try.pinned (OpenSpec.ofChange streamQuarterSpec)

/-- ITS FALSE NEIGHBOUR: 'it returns false'. Refute it at one input. -/
def streamQuarterWrong : ChangeSpec := { name := "streamQuarter", fn := fun _ => fun
  | [d1, d2, d3, d4] => { results := [.lit (.bool false)], args := [d1, d2, d3, d4] }
  | _ => none }
def StreamQuarterWrongFalsely : Prop := streamQuarterRow.holds Try.pinned (OpenSpec.ofChange streamQuarterWrong)

/- THE SECOND FORM. 'bulk': how many values and letters a reading holds, each counted each time it is reached (what is shared counts as often as it is met; a slice's spare places count too). A statement '..UptoSaid' is the law's where the arguments, and the package variables that the reading takes, are together of bulk at most 1048576: NARROWER than '..Said'. Prove '..Said' where nothing that the law and all that it calls make is longer than what came in: it says more and counts as full. Else prove '..UptoSaid'. A law counts once. -/
mutual
def uptoBulk {H : Type} : DataW H → Nat
  | .lit (.string bytes) => bytes.length + 1
  | .lit _ => 1
  | .nil => 1
  | .ptr d => uptoBulk d + 1
  | .slice elems spare => uptoBulkAll elems + uptoBulkAll spare + 1
  | .agg parts => uptoBulkAll parts + 1
  | .iface _ d => uptoBulk d + 1
  | .map entries => uptoBulkEntries entries + 1
  | .held _ => 1
def uptoBulkAll {H : Type} : List (DataW H) → Nat
  | [] => 0
  | d :: r => uptoBulk d + uptoBulkAll r
def uptoBulkEntries {H : Type} : List (Lit × DataW H) → Nat
  | [] => 0
  | x :: r => uptoBulkEntry x + uptoBulkEntries r
def uptoBulkEntry {H : Type} : Lit × DataW H → Nat
  | (.string bytes, d) => bytes.length + uptoBulk d + 1
  | (_, d) => uptoBulk d + 1
 end
def uptoSmall : (H : Type) → List (DataW H) → Bool := fun _ ds => decide (uptoBulkAll ds ≤ 1048576)
def OpenSpec.upto (s : _root_.Go.ChangeSpec) : _root_.Go.OpenSpec := { _root_.Go.OpenSpec.ofChange s with cond := some uptoSmall }

/-- 'caballaw03.StreamBlocks', WHERE WHAT IT READS IS OF BULK AT MOST 1048576: true; the input reads as it did. -/
def streamBlocksUptoRow : OpenClaim := { program := "ytocademajjkecaa", sum := "7e73758e3dab9d80233d9a34f1e8d6e8068c2ed2ff8ec967fb0f6b4a42448678", func := "cabal/caballaw03.StreamBlocks", spec := "streamBlocks", apart := false, narrowed := true }
def StreamBlocksUptoSaid : Prop := streamBlocksUptoRow.holds Try.pinned (OpenSpec.upto streamBlocksSpec)

/-- 'caballaw03.StreamMasks', WHERE WHAT IT READS IS OF BULK AT MOST 1048576: true; the input reads as it did. -/
def streamMasksUptoRow : OpenClaim := { program := "ytocademajjkecaa", sum := "7e73758e3dab9d80233d9a34f1e8d6e8068c2ed2ff8ec967fb0f6b4a42448678", func := "cabal/caballaw03.StreamMasks", spec := "streamMasks", apart := false, narrowed := true }
def StreamMasksUptoSaid : Prop := streamMasksUptoRow.holds Try.pinned (OpenSpec.upto streamMasksSpec)

/-- 'caballaw03.StreamBack', WHERE WHAT IT READS IS OF BULK AT MOST 1048576: true; the input reads as it did. -/
def streamBackUptoRow : OpenClaim := { program := "ytocademajjkecaa", sum := "7e73758e3dab9d80233d9a34f1e8d6e8068c2ed2ff8ec967fb0f6b4a42448678", func := "cabal/caballaw03.StreamBack", spec := "streamBack", apart := false, narrowed := true }
def StreamBackUptoSaid : Prop := streamBackUptoRow.holds Try.pinned (OpenSpec.upto streamBackSpec)

/-- 'caballaw03.StreamParts', WHERE WHAT IT READS IS OF BULK AT MOST 1048576: true; the input reads as it did. -/
def streamPartsUptoRow : OpenClaim := { program := "ytocademajjkecaa", sum := "7e73758e3dab9d80233d9a34f1e8d6e8068c2ed2ff8ec967fb0f6b4a42448678", func := "cabal/caballaw03.StreamParts", spec := "streamParts", apart := false, narrowed := true }
def StreamPartsUptoSaid : Prop := streamPartsUptoRow.holds Try.pinned (OpenSpec.upto streamPartsSpec)

/-- 'caballaw03.StreamQuarter', WHERE WHAT IT READS IS OF BULK AT MOST 1048576: true; the input reads as it did. -/
def streamQuarterUptoRow : OpenClaim := { program := "ytocademajjkecaa", sum := "7e73758e3dab9d80233d9a34f1e8d6e8068c2ed2ff8ec967fb0f6b4a42448678", func := "cabal/caballaw03.StreamQuarter", spec := "streamQuarter", apart := false, narrowed := true }
def StreamQuarterUptoSaid : Prop := streamQuarterUptoRow.holds Try.pinned (OpenSpec.upto streamQuarterSpec)

end Rows
end Go.Proofs.Ytocademajjkecaa
