/-
  No cell of these rows narrows 'for every input' (looked for: loops, veiled, ifaces, maps, wideKeys, modest, calm, conditions, laid).
  DERIVED. THE GIVEN ROWS OF THIS SEAT. 13 by the template 'for every input the law returns true; each argument reads behind the call as it read before'; 0 by the template 'total and deterministic' (their statements: YtdeccbjdhcifiaaTotals.lean).
  GIVEN WITH THE SEED: the statements are not yours to turn. If you find one false, say at which input.
  Laid BY PROGRAM, IN A SANDBOX (cutbox-rows.mjs): the forced cells as the released guide's own fill.sh prints them over the translation 95fe72378a7c5b0f… (all of the seat's roots in one cut). By AI agents, Wed Nov 11 2026. No macro, syntax, notation, axiom, sorry.
-/
import Derived.Test.YtdeccbjdhcifiaaChecked
import GoSem.Claim
import GoSem.ClaimJoined
import GoSem.ClaimMapViews
import Derived.JoinedTies
import Derived.KernelRfl
namespace Go.Proofs.Ytdeccbjdhcifiaa
/- THE CELL 'sum', in the pinned program and in every row, IS THE sha256 OF THE DUMP (.gsa) THAT YtdeccbjdhcifiaaProg.lean LOADS. Nothing in Lean hashes anything: it is a label: what it is worth is what the hold of that sum in a sandbox is worth. -/
noncomputable def Try.pinned : Pinned := { name := "ytdeccbjdhcifiaa", sum := "95fe72378a7c5b0f588cda8bb80934e6abc2b83c8eb80ce23d6d2ea3a90a691f", checked := Try.checked }
namespace Rows
def none {H : Type} : Left H := { results := [], args := [] }

/-- 'caballaw16.RosterTells': WHATEVER THE INPUT: true; the input reads as it did. -/
def rosterTellsSpec : ChangeSpec := { name := "rosterTells", fn := fun _ => fun
  | [d1, d2] => { results := [.lit (.bool true)], args := [d1, d2] }
  | _ => none }
def rosterTellsRow : OpenClaim := { program := "ytdeccbjdhcifiaa", sum := "95fe72378a7c5b0f588cda8bb80934e6abc2b83c8eb80ce23d6d2ea3a90a691f", func := "cabal/caballaw16.RosterTells", spec := "rosterTells", inPlace := ["internal/bytealg.Compare"], unfollowed := true, recurses := true, plainKeys := false, apart := false }
def RosterTellsSaid : Prop := rosterTellsRow.holds Try.pinned (OpenSpec.ofChange rosterTellsSpec)

/-- ITS FALSE NEIGHBOUR: 'it returns false'. Refute it at one input. -/
def rosterTellsWrong : ChangeSpec := { name := "rosterTells", fn := fun _ => fun
  | [d1, d2] => { results := [.lit (.bool false)], args := [d1, d2] }
  | _ => none }
def RosterTellsWrongFalsely : Prop := rosterTellsRow.holds Try.pinned (OpenSpec.ofChange rosterTellsWrong)

/-- 'caballaw16.RosterAllows': WHATEVER THE INPUT: true; the input reads as it did. -/
def rosterAllowsSpec : ChangeSpec := { name := "rosterAllows", fn := fun _ => fun
  | [d1, d2] => { results := [.lit (.bool true)], args := [d1, d2] }
  | _ => none }
def rosterAllowsRow : OpenClaim := { program := "ytdeccbjdhcifiaa", sum := "95fe72378a7c5b0f588cda8bb80934e6abc2b83c8eb80ce23d6d2ea3a90a691f", func := "cabal/caballaw16.RosterAllows", spec := "rosterAllows", inPlace := ["internal/bytealg.Compare"], unfollowed := true, recurses := true, plainKeys := false, apart := false }
def RosterAllowsSaid : Prop := rosterAllowsRow.holds Try.pinned (OpenSpec.ofChange rosterAllowsSpec)

/-- ITS FALSE NEIGHBOUR: 'it returns false'. Refute it at one input. -/
def rosterAllowsWrong : ChangeSpec := { name := "rosterAllows", fn := fun _ => fun
  | [d1, d2] => { results := [.lit (.bool false)], args := [d1, d2] }
  | _ => none }
def RosterAllowsWrongFalsely : Prop := rosterAllowsRow.holds Try.pinned (OpenSpec.ofChange rosterAllowsWrong)

/-- 'caballaw16.RosterShuffled': WHATEVER THE INPUT: true; the input reads as it did. -/
def rosterShuffledSpec : ChangeSpec := { name := "rosterShuffled", fn := fun _ => fun
  | [d1, d2] => { results := [.lit (.bool true)], args := [d1, d2] }
  | _ => none }
def rosterShuffledRow : OpenClaim := { program := "ytdeccbjdhcifiaa", sum := "95fe72378a7c5b0f588cda8bb80934e6abc2b83c8eb80ce23d6d2ea3a90a691f", func := "cabal/caballaw16.RosterShuffled", spec := "rosterShuffled", inPlace := ["internal/bytealg.Compare"], unfollowed := true, recurses := true, plainKeys := false, apart := false }
def RosterShuffledSaid : Prop := rosterShuffledRow.holds Try.pinned (OpenSpec.ofChange rosterShuffledSpec)

/-- ITS FALSE NEIGHBOUR: 'it returns false'. Refute it at one input. -/
def rosterShuffledWrong : ChangeSpec := { name := "rosterShuffled", fn := fun _ => fun
  | [d1, d2] => { results := [.lit (.bool false)], args := [d1, d2] }
  | _ => none }
def RosterShuffledWrongFalsely : Prop := rosterShuffledRow.holds Try.pinned (OpenSpec.ofChange rosterShuffledWrong)

/-- 'caballaw16.RosterStrong': WHATEVER THE INPUT: true; the input reads as it did. -/
def rosterStrongSpec : ChangeSpec := { name := "rosterStrong", fn := fun _ => fun
  | [d] => { results := [.lit (.bool true)], args := [d] }
  | _ => none }
def rosterStrongRow : OpenClaim := { program := "ytdeccbjdhcifiaa", sum := "95fe72378a7c5b0f588cda8bb80934e6abc2b83c8eb80ce23d6d2ea3a90a691f", func := "cabal/caballaw16.RosterStrong", spec := "rosterStrong", inPlace := ["internal/bytealg.Compare"], unfollowed := true, recurses := true, plainKeys := false, apart := false }
def RosterStrongSaid : Prop := rosterStrongRow.holds Try.pinned (OpenSpec.ofChange rosterStrongSpec)

/-- ITS FALSE NEIGHBOUR: 'it returns false'. Refute it at one input. -/
def rosterStrongWrong : ChangeSpec := { name := "rosterStrong", fn := fun _ => fun
  | [d] => { results := [.lit (.bool false)], args := [d] }
  | _ => none }
def RosterStrongWrongFalsely : Prop := rosterStrongRow.holds Try.pinned (OpenSpec.ofChange rosterStrongWrong)

/-- 'caballaw16.RosterStill': WHATEVER THE INPUT: true; the input reads as it did. -/
def rosterStillSpec : ChangeSpec := { name := "rosterStill", fn := fun _ => fun
  | [d] => { results := [.lit (.bool true)], args := [d] }
  | _ => none }
def rosterStillRow : OpenClaim := { program := "ytdeccbjdhcifiaa", sum := "95fe72378a7c5b0f588cda8bb80934e6abc2b83c8eb80ce23d6d2ea3a90a691f", func := "cabal/caballaw16.RosterStill", spec := "rosterStill", inPlace := ["internal/bytealg.Compare"], unfollowed := true, recurses := true, plainKeys := false, apart := false }
def RosterStillSaid : Prop := rosterStillRow.holds Try.pinned (OpenSpec.ofChange rosterStillSpec)

/-- ITS FALSE NEIGHBOUR: 'it returns false'. Refute it at one input. -/
def rosterStillWrong : ChangeSpec := { name := "rosterStill", fn := fun _ => fun
  | [d] => { results := [.lit (.bool false)], args := [d] }
  | _ => none }
def RosterStillWrongFalsely : Prop := rosterStillRow.holds Try.pinned (OpenSpec.ofChange rosterStillWrong)

/-- 'caballaw16.RosterBoth': WHATEVER THE INPUT: true; the input reads as it did. -/
def rosterBothSpec : ChangeSpec := { name := "rosterBoth", fn := fun _ => fun
  | [d1, d2, d3] => { results := [.lit (.bool true)], args := [d1, d2, d3] }
  | _ => none }
def rosterBothRow : OpenClaim := { program := "ytdeccbjdhcifiaa", sum := "95fe72378a7c5b0f588cda8bb80934e6abc2b83c8eb80ce23d6d2ea3a90a691f", func := "cabal/caballaw16.RosterBoth", spec := "rosterBoth", inPlace := ["internal/bytealg.Compare"], unfollowed := true, recurses := true, plainKeys := false, apart := false }
def RosterBothSaid : Prop := rosterBothRow.holds Try.pinned (OpenSpec.ofChange rosterBothSpec)

/-- ITS FALSE NEIGHBOUR: 'it returns false'. Refute it at one input. -/
def rosterBothWrong : ChangeSpec := { name := "rosterBoth", fn := fun _ => fun
  | [d1, d2, d3] => { results := [.lit (.bool false)], args := [d1, d2, d3] }
  | _ => none }
def RosterBothWrongFalsely : Prop := rosterBothRow.holds Try.pinned (OpenSpec.ofChange rosterBothWrong)

/-- 'caballaw19.QueuePuts': WHATEVER THE INPUT: true; the input reads as it did. -/
def queuePutsSpec : ChangeSpec := { name := "queuePuts", fn := fun _ => fun
  | [d1, d2, d3, d4] => { results := [.lit (.bool true)], args := [d1, d2, d3, d4] }
  | _ => none }
def queuePutsRow : OpenClaim := { program := "ytdeccbjdhcifiaa", sum := "95fe72378a7c5b0f588cda8bb80934e6abc2b83c8eb80ce23d6d2ea3a90a691f", func := "cabal/caballaw19.QueuePuts", spec := "queuePuts", inPlace := ["internal/bytealg.Compare"], unfollowed := true, recurses := true, plainKeys := false, apart := false }
def QueuePutsSaid : Prop := queuePutsRow.holds Try.pinned (OpenSpec.ofChange queuePutsSpec)

/-- ITS FALSE NEIGHBOUR: 'it returns false'. Refute it at one input. -/
def queuePutsWrong : ChangeSpec := { name := "queuePuts", fn := fun _ => fun
  | [d1, d2, d3, d4] => { results := [.lit (.bool false)], args := [d1, d2, d3, d4] }
  | _ => none }
def QueuePutsWrongFalsely : Prop := queuePutsRow.holds Try.pinned (OpenSpec.ofChange queuePutsWrong)

/-- 'caballaw19.QueueReady': WHATEVER THE INPUT: true; the input reads as it did. -/
def queueReadySpec : ChangeSpec := { name := "queueReady", fn := fun _ => fun
  | [d1, d2] => { results := [.lit (.bool true)], args := [d1, d2] }
  | _ => none }
def queueReadyRow : OpenClaim := { program := "ytdeccbjdhcifiaa", sum := "95fe72378a7c5b0f588cda8bb80934e6abc2b83c8eb80ce23d6d2ea3a90a691f", func := "cabal/caballaw19.QueueReady", spec := "queueReady", inPlace := ["internal/bytealg.Compare"], unfollowed := true, recurses := true, plainKeys := false, apart := false }
def QueueReadySaid : Prop := queueReadyRow.holds Try.pinned (OpenSpec.ofChange queueReadySpec)

/-- ITS FALSE NEIGHBOUR: 'it returns false'. Refute it at one input. -/
def queueReadyWrong : ChangeSpec := { name := "queueReady", fn := fun _ => fun
  | [d1, d2] => { results := [.lit (.bool false)], args := [d1, d2] }
  | _ => none }
def QueueReadyWrongFalsely : Prop := queueReadyRow.holds Try.pinned (OpenSpec.ofChange queueReadyWrong)

/-- 'caballaw19.QueueMoves': WHATEVER THE INPUT: true; the input reads as it did. -/
def queueMovesSpec : ChangeSpec := { name := "queueMoves", fn := fun _ => fun
  | [d1, d2] => { results := [.lit (.bool true)], args := [d1, d2] }
  | _ => none }
def queueMovesRow : OpenClaim := { program := "ytdeccbjdhcifiaa", sum := "95fe72378a7c5b0f588cda8bb80934e6abc2b83c8eb80ce23d6d2ea3a90a691f", func := "cabal/caballaw19.QueueMoves", spec := "queueMoves", inPlace := ["internal/bytealg.Compare"], unfollowed := true, recurses := true, plainKeys := false, apart := false }
def QueueMovesSaid : Prop := queueMovesRow.holds Try.pinned (OpenSpec.ofChange queueMovesSpec)

/-- ITS FALSE NEIGHBOUR: 'it returns false'. Refute it at one input. -/
def queueMovesWrong : ChangeSpec := { name := "queueMoves", fn := fun _ => fun
  | [d1, d2] => { results := [.lit (.bool false)], args := [d1, d2] }
  | _ => none }
def QueueMovesWrongFalsely : Prop := queueMovesRow.holds Try.pinned (OpenSpec.ofChange queueMovesWrong)

/-- 'caballaw19.QueueKeeps': WHATEVER THE INPUT: true; the input reads as it did. -/
def queueKeepsSpec : ChangeSpec := { name := "queueKeeps", fn := fun _ => fun
  | [d1, d2] => { results := [.lit (.bool true)], args := [d1, d2] }
  | _ => none }
def queueKeepsRow : OpenClaim := { program := "ytdeccbjdhcifiaa", sum := "95fe72378a7c5b0f588cda8bb80934e6abc2b83c8eb80ce23d6d2ea3a90a691f", func := "cabal/caballaw19.QueueKeeps", spec := "queueKeeps", inPlace := ["internal/bytealg.Compare"], unfollowed := true, recurses := true, plainKeys := false, apart := false }
def QueueKeepsSaid : Prop := queueKeepsRow.holds Try.pinned (OpenSpec.ofChange queueKeepsSpec)

/-- ITS FALSE NEIGHBOUR: 'it returns false'. Refute it at one input. -/
def queueKeepsWrong : ChangeSpec := { name := "queueKeeps", fn := fun _ => fun
  | [d1, d2] => { results := [.lit (.bool false)], args := [d1, d2] }
  | _ => none }
def QueueKeepsWrongFalsely : Prop := queueKeepsRow.holds Try.pinned (OpenSpec.ofChange queueKeepsWrong)

/-- 'caballaw26.ClockTells': WHATEVER THE INPUT: true; the input reads as it did. -/
def clockTellsSpec : ChangeSpec := { name := "clockTells", fn := fun _ => fun
  | [d1, d2] => { results := [.lit (.bool true)], args := [d1, d2] }
  | _ => none }
def clockTellsRow : OpenClaim := { program := "ytdeccbjdhcifiaa", sum := "95fe72378a7c5b0f588cda8bb80934e6abc2b83c8eb80ce23d6d2ea3a90a691f", func := "cabal/caballaw26.ClockTells", spec := "clockTells", inPlace := ["internal/bytealg.Compare"], unfollowed := true, recurses := true, plainKeys := false, apart := false }
def ClockTellsSaid : Prop := clockTellsRow.holds Try.pinned (OpenSpec.ofChange clockTellsSpec)

/-- ITS FALSE NEIGHBOUR: 'it returns false'. Refute it at one input. -/
def clockTellsWrong : ChangeSpec := { name := "clockTells", fn := fun _ => fun
  | [d1, d2] => { results := [.lit (.bool false)], args := [d1, d2] }
  | _ => none }
def ClockTellsWrongFalsely : Prop := clockTellsRow.holds Try.pinned (OpenSpec.ofChange clockTellsWrong)

/-- 'caballaw26.ClockAhead': WHATEVER THE INPUT: true; the input reads as it did. -/
def clockAheadSpec : ChangeSpec := { name := "clockAhead", fn := fun _ => fun
  | [d1, d2, d3] => { results := [.lit (.bool true)], args := [d1, d2, d3] }
  | _ => none }
def clockAheadRow : OpenClaim := { program := "ytdeccbjdhcifiaa", sum := "95fe72378a7c5b0f588cda8bb80934e6abc2b83c8eb80ce23d6d2ea3a90a691f", func := "cabal/caballaw26.ClockAhead", spec := "clockAhead", inPlace := ["internal/bytealg.Compare"], unfollowed := true, recurses := true, plainKeys := false, apart := false }
def ClockAheadSaid : Prop := clockAheadRow.holds Try.pinned (OpenSpec.ofChange clockAheadSpec)

/-- ITS FALSE NEIGHBOUR: 'it returns false'. Refute it at one input. -/
def clockAheadWrong : ChangeSpec := { name := "clockAhead", fn := fun _ => fun
  | [d1, d2, d3] => { results := [.lit (.bool false)], args := [d1, d2, d3] }
  | _ => none }
def ClockAheadWrongFalsely : Prop := clockAheadRow.holds Try.pinned (OpenSpec.ofChange clockAheadWrong)

/-- 'caballaw26.ClockDue': WHATEVER THE INPUT: true; the input reads as it did. -/
def clockDueSpec : ChangeSpec := { name := "clockDue", fn := fun _ => fun
  | [d1, d2, d3] => { results := [.lit (.bool true)], args := [d1, d2, d3] }
  | _ => none }
def clockDueRow : OpenClaim := { program := "ytdeccbjdhcifiaa", sum := "95fe72378a7c5b0f588cda8bb80934e6abc2b83c8eb80ce23d6d2ea3a90a691f", func := "cabal/caballaw26.ClockDue", spec := "clockDue", inPlace := ["internal/bytealg.Compare"], unfollowed := true, recurses := true, plainKeys := false, apart := false }
def ClockDueSaid : Prop := clockDueRow.holds Try.pinned (OpenSpec.ofChange clockDueSpec)

/-- ITS FALSE NEIGHBOUR: 'it returns false'. Refute it at one input. -/
def clockDueWrong : ChangeSpec := { name := "clockDue", fn := fun _ => fun
  | [d1, d2, d3] => { results := [.lit (.bool false)], args := [d1, d2, d3] }
  | _ => none }
def ClockDueWrongFalsely : Prop := clockDueRow.holds Try.pinned (OpenSpec.ofChange clockDueWrong)

/- THE SECOND FORM. 'bulk': how many values and letters a reading holds, each counted each time it is reached (what is shared counts as often as it is met; a slice's spare places count too). A statement '..UptoSaid' is the law's where the arguments, and the package variables that the reading takes, are together of bulk at most 1048576: NARROWER than '..Said'. Prove '..Said' where nothing that the law and all that it calls make is longer than what came in: it says more and counts as full. Else prove '..UptoSaid'. A law counts once. -/
mutual
def uptoBulk {H : Type} : DataW H → Nat
  | .lit (.string bytes) => bytes.length + 1
  | .lit _ => 1
  | .nil => 1
  | .ptr d => uptoBulk d + 1
  | .slice elems spare => uptoBulkAll elems + uptoBulkAll spare + 1
  | .agg parts => uptoBulkAll parts + 1
  | .iface _ d => uptoBulk d + 1
  | .map entries => uptoBulkEntries entries + 1
  | .held _ => 1
def uptoBulkAll {H : Type} : List (DataW H) → Nat
  | [] => 0
  | d :: r => uptoBulk d + uptoBulkAll r
def uptoBulkEntries {H : Type} : List (Lit × DataW H) → Nat
  | [] => 0
  | x :: r => uptoBulkEntry x + uptoBulkEntries r
def uptoBulkEntry {H : Type} : Lit × DataW H → Nat
  | (.string bytes, d) => bytes.length + uptoBulk d + 1
  | (_, d) => uptoBulk d + 1
 end
def uptoSmall : (H : Type) → List (DataW H) → Bool := fun _ ds => decide (uptoBulkAll ds ≤ 1048576)
def OpenSpec.upto (s : _root_.Go.ChangeSpec) : _root_.Go.OpenSpec := { _root_.Go.OpenSpec.ofChange s with cond := some uptoSmall }

/-- 'caballaw16.RosterTells', WHERE WHAT IT READS IS OF BULK AT MOST 1048576: true; the input reads as it did. -/
def rosterTellsUptoRow : OpenClaim := { program := "ytdeccbjdhcifiaa", sum := "95fe72378a7c5b0f588cda8bb80934e6abc2b83c8eb80ce23d6d2ea3a90a691f", func := "cabal/caballaw16.RosterTells", spec := "rosterTells", inPlace := ["internal/bytealg.Compare"], unfollowed := true, recurses := true, plainKeys := false, apart := false, narrowed := true }
def RosterTellsUptoSaid : Prop := rosterTellsUptoRow.holds Try.pinned (OpenSpec.upto rosterTellsSpec)

/-- 'caballaw16.RosterAllows', WHERE WHAT IT READS IS OF BULK AT MOST 1048576: true; the input reads as it did. -/
def rosterAllowsUptoRow : OpenClaim := { program := "ytdeccbjdhcifiaa", sum := "95fe72378a7c5b0f588cda8bb80934e6abc2b83c8eb80ce23d6d2ea3a90a691f", func := "cabal/caballaw16.RosterAllows", spec := "rosterAllows", inPlace := ["internal/bytealg.Compare"], unfollowed := true, recurses := true, plainKeys := false, apart := false, narrowed := true }
def RosterAllowsUptoSaid : Prop := rosterAllowsUptoRow.holds Try.pinned (OpenSpec.upto rosterAllowsSpec)

/-- 'caballaw16.RosterShuffled', WHERE WHAT IT READS IS OF BULK AT MOST 1048576: true; the input reads as it did. -/
def rosterShuffledUptoRow : OpenClaim := { program := "ytdeccbjdhcifiaa", sum := "95fe72378a7c5b0f588cda8bb80934e6abc2b83c8eb80ce23d6d2ea3a90a691f", func := "cabal/caballaw16.RosterShuffled", spec := "rosterShuffled", inPlace := ["internal/bytealg.Compare"], unfollowed := true, recurses := true, plainKeys := false, apart := false, narrowed := true }
def RosterShuffledUptoSaid : Prop := rosterShuffledUptoRow.holds Try.pinned (OpenSpec.upto rosterShuffledSpec)

/-- 'caballaw16.RosterStrong', WHERE WHAT IT READS IS OF BULK AT MOST 1048576: true; the input reads as it did. -/
def rosterStrongUptoRow : OpenClaim := { program := "ytdeccbjdhcifiaa", sum := "95fe72378a7c5b0f588cda8bb80934e6abc2b83c8eb80ce23d6d2ea3a90a691f", func := "cabal/caballaw16.RosterStrong", spec := "rosterStrong", inPlace := ["internal/bytealg.Compare"], unfollowed := true, recurses := true, plainKeys := false, apart := false, narrowed := true }
def RosterStrongUptoSaid : Prop := rosterStrongUptoRow.holds Try.pinned (OpenSpec.upto rosterStrongSpec)

/-- 'caballaw16.RosterStill', WHERE WHAT IT READS IS OF BULK AT MOST 1048576: true; the input reads as it did. -/
def rosterStillUptoRow : OpenClaim := { program := "ytdeccbjdhcifiaa", sum := "95fe72378a7c5b0f588cda8bb80934e6abc2b83c8eb80ce23d6d2ea3a90a691f", func := "cabal/caballaw16.RosterStill", spec := "rosterStill", inPlace := ["internal/bytealg.Compare"], unfollowed := true, recurses := true, plainKeys := false, apart := false, narrowed := true }
def RosterStillUptoSaid : Prop := rosterStillUptoRow.holds Try.pinned (OpenSpec.upto rosterStillSpec)

/-- 'caballaw16.RosterBoth', WHERE WHAT IT READS IS OF BULK AT MOST 1048576: true; the input reads as it did. -/
def rosterBothUptoRow : OpenClaim := { program := "ytdeccbjdhcifiaa", sum := "95fe72378a7c5b0f588cda8bb80934e6abc2b83c8eb80ce23d6d2ea3a90a691f", func := "cabal/caballaw16.RosterBoth", spec := "rosterBoth", inPlace := ["internal/bytealg.Compare"], unfollowed := true, recurses := true, plainKeys := false, apart := false, narrowed := true }
def RosterBothUptoSaid : Prop := rosterBothUptoRow.holds Try.pinned (OpenSpec.upto rosterBothSpec)

/-- 'caballaw19.QueuePuts', WHERE WHAT IT READS IS OF BULK AT MOST 1048576: true; the input reads as it did. -/
def queuePutsUptoRow : OpenClaim := { program := "ytdeccbjdhcifiaa", sum := "95fe72378a7c5b0f588cda8bb80934e6abc2b83c8eb80ce23d6d2ea3a90a691f", func := "cabal/caballaw19.QueuePuts", spec := "queuePuts", inPlace := ["internal/bytealg.Compare"], unfollowed := true, recurses := true, plainKeys := false, apart := false, narrowed := true }
def QueuePutsUptoSaid : Prop := queuePutsUptoRow.holds Try.pinned (OpenSpec.upto queuePutsSpec)

/-- 'caballaw19.QueueReady', WHERE WHAT IT READS IS OF BULK AT MOST 1048576: true; the input reads as it did. -/
def queueReadyUptoRow : OpenClaim := { program := "ytdeccbjdhcifiaa", sum := "95fe72378a7c5b0f588cda8bb80934e6abc2b83c8eb80ce23d6d2ea3a90a691f", func := "cabal/caballaw19.QueueReady", spec := "queueReady", inPlace := ["internal/bytealg.Compare"], unfollowed := true, recurses := true, plainKeys := false, apart := false, narrowed := true }
def QueueReadyUptoSaid : Prop := queueReadyUptoRow.holds Try.pinned (OpenSpec.upto queueReadySpec)

/-- 'caballaw19.QueueMoves', WHERE WHAT IT READS IS OF BULK AT MOST 1048576: true; the input reads as it did. -/
def queueMovesUptoRow : OpenClaim := { program := "ytdeccbjdhcifiaa", sum := "95fe72378a7c5b0f588cda8bb80934e6abc2b83c8eb80ce23d6d2ea3a90a691f", func := "cabal/caballaw19.QueueMoves", spec := "queueMoves", inPlace := ["internal/bytealg.Compare"], unfollowed := true, recurses := true, plainKeys := false, apart := false, narrowed := true }
def QueueMovesUptoSaid : Prop := queueMovesUptoRow.holds Try.pinned (OpenSpec.upto queueMovesSpec)

/-- 'caballaw19.QueueKeeps', WHERE WHAT IT READS IS OF BULK AT MOST 1048576: true; the input reads as it did. -/
def queueKeepsUptoRow : OpenClaim := { program := "ytdeccbjdhcifiaa", sum := "95fe72378a7c5b0f588cda8bb80934e6abc2b83c8eb80ce23d6d2ea3a90a691f", func := "cabal/caballaw19.QueueKeeps", spec := "queueKeeps", inPlace := ["internal/bytealg.Compare"], unfollowed := true, recurses := true, plainKeys := false, apart := false, narrowed := true }
def QueueKeepsUptoSaid : Prop := queueKeepsUptoRow.holds Try.pinned (OpenSpec.upto queueKeepsSpec)

/-- 'caballaw26.ClockTells', WHERE WHAT IT READS IS OF BULK AT MOST 1048576: true; the input reads as it did. -/
def clockTellsUptoRow : OpenClaim := { program := "ytdeccbjdhcifiaa", sum := "95fe72378a7c5b0f588cda8bb80934e6abc2b83c8eb80ce23d6d2ea3a90a691f", func := "cabal/caballaw26.ClockTells", spec := "clockTells", inPlace := ["internal/bytealg.Compare"], unfollowed := true, recurses := true, plainKeys := false, apart := false, narrowed := true }
def ClockTellsUptoSaid : Prop := clockTellsUptoRow.holds Try.pinned (OpenSpec.upto clockTellsSpec)

/-- 'caballaw26.ClockAhead', WHERE WHAT IT READS IS OF BULK AT MOST 1048576: true; the input reads as it did. -/
def clockAheadUptoRow : OpenClaim := { program := "ytdeccbjdhcifiaa", sum := "95fe72378a7c5b0f588cda8bb80934e6abc2b83c8eb80ce23d6d2ea3a90a691f", func := "cabal/caballaw26.ClockAhead", spec := "clockAhead", inPlace := ["internal/bytealg.Compare"], unfollowed := true, recurses := true, plainKeys := false, apart := false, narrowed := true }
def ClockAheadUptoSaid : Prop := clockAheadUptoRow.holds Try.pinned (OpenSpec.upto clockAheadSpec)

/-- 'caballaw26.ClockDue', WHERE WHAT IT READS IS OF BULK AT MOST 1048576: true; the input reads as it did. -/
def clockDueUptoRow : OpenClaim := { program := "ytdeccbjdhcifiaa", sum := "95fe72378a7c5b0f588cda8bb80934e6abc2b83c8eb80ce23d6d2ea3a90a691f", func := "cabal/caballaw26.ClockDue", spec := "clockDue", inPlace := ["internal/bytealg.Compare"], unfollowed := true, recurses := true, plainKeys := false, apart := false, narrowed := true }
def ClockDueUptoSaid : Prop := clockDueUptoRow.holds Try.pinned (OpenSpec.upto clockDueSpec)

end Rows
end Go.Proofs.Ytdeccbjdhcifiaa
