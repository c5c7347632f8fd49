/-
  NARROWER THAN 'FOR EVERY INPUT', by the rows' own cells (each row's printed sentence says how): LadderPublic: laid · LadderAgrees: laid · LadderBits: laid · LadderFirst: laid · LadderMeets: laid.
  DERIVED. THE GIVEN ROWS OF THIS SEAT. 5 by the template 'for every input the law returns true; each argument reads behind the call as it read before'; 0 by the template 'total and deterministic' (their statements: YtnddofgabipknaaDoorTotals.lean).
  GIVEN WITH THE SEED: the statements are not yours to turn. If you find one false, say at which input.
  Laid BY PROGRAM, IN A SANDBOX (cutbox-rows.mjs): the forced cells as the released guide's own fill.sh prints them over the translation 02f8d24fb02860b8… (all of the seat's roots in one cut). By AI agents, Wed Nov 11 2026. No macro, syntax, notation, axiom, sorry.
-/
import Derived.Test.YtnddofgabipknaaDoorChecked
import GoSem.Claim
import GoSem.ClaimJoined
import GoSem.ClaimMapViews
import Derived.JoinedTies
import Derived.KernelRfl
namespace Go.Proofs.YtnddofgabipknaaDoor
/- THE CELL 'sum', in the pinned program and in every row, IS THE sha256 OF THE DUMP (.gsa) THAT YtnddofgabipknaaDoorProg.lean LOADS. Nothing in Lean hashes anything: it is a label: what it is worth is what the hold of that sum in a sandbox is worth. -/
noncomputable def Tryd.pinned : Pinned := { name := "ytnddofgabipknaadoor", sum := "02f8d24fb02860b87c99fe3b7eaaa227feeb60a15ef51d3e15769bfd4bd16ed6", checked := Tryd.checked }
namespace Rows
def none {H : Type} : Left H := { results := [], args := [] }

/- WHAT THE LISTED PACKAGE-LEVEL VARIABLES READ AS WHEN THE CALL BEGINS. Each datum BY PROGRAM (the guide's laid-datum.mjs) off the statement by which the dump's own 'gosem.cut.vars' lays the variable. In a bare row this is a premise. The card (YtnddofgabipknaaDoorCards.lean) ties it to the program's text. -/
def laid_cabal_field_prime {H : Type} : DataW H := .agg [.lit (.int .u64 18446744073709551597), .lit (.int .u64 18446744073709551615), .lit (.int .u64 18446744073709551615), .lit (.int .u64 9223372036854775807)]

/-- 'caballaw07.LadderPublic': WHATEVER THE INPUT: true; the input reads as it did. -/
def ladderPublicSpec : ChangeSpec := { name := "ladderPublic", fn := fun _ => fun
  | [d] => { results := [.lit (.bool true)], args := [d] }
  | _ => none }
def ladderPublicRow : OpenClaim := { program := "ytnddofgabipknaadoor", sum := "02f8d24fb02860b87c99fe3b7eaaa227feeb60a15ef51d3e15769bfd4bd16ed6", func := "cabal/caballaw07.LadderPublic", spec := "ladderPublic", inPlace := ["math/bits.Add64", "math/bits.Sub64"], named := ["cabal/field.prime"], apart := false, laid := [("cabal/field.prime", laid_cabal_field_prime)] }
def LadderPublicSaid : Prop := ladderPublicRow.holds Tryd.pinned (OpenSpec.ofChange ladderPublicSpec)

/-- ITS FALSE NEIGHBOUR: 'it returns false'. Refute it at one input. -/
def ladderPublicWrong : ChangeSpec := { name := "ladderPublic", fn := fun _ => fun
  | [d] => { results := [.lit (.bool false)], args := [d] }
  | _ => none }
def LadderPublicWrongFalsely : Prop := ladderPublicRow.holds Tryd.pinned (OpenSpec.ofChange ladderPublicWrong)

/-- 'caballaw07.LadderAgrees': WHATEVER THE INPUT: true; the input reads as it did. -/
def ladderAgreesSpec : ChangeSpec := { name := "ladderAgrees", fn := fun _ => fun
  | [d1, d2] => { results := [.lit (.bool true)], args := [d1, d2] }
  | _ => none }
def ladderAgreesRow : OpenClaim := { program := "ytnddofgabipknaadoor", sum := "02f8d24fb02860b87c99fe3b7eaaa227feeb60a15ef51d3e15769bfd4bd16ed6", func := "cabal/caballaw07.LadderAgrees", spec := "ladderAgrees", inPlace := ["math/bits.Add64", "math/bits.Sub64"], named := ["cabal/field.prime"], apart := false, laid := [("cabal/field.prime", laid_cabal_field_prime)] }
def LadderAgreesSaid : Prop := ladderAgreesRow.holds Tryd.pinned (OpenSpec.ofChange ladderAgreesSpec)

/-- ITS FALSE NEIGHBOUR: 'it returns false'. Refute it at one input. -/
def ladderAgreesWrong : ChangeSpec := { name := "ladderAgrees", fn := fun _ => fun
  | [d1, d2] => { results := [.lit (.bool false)], args := [d1, d2] }
  | _ => none }
def LadderAgreesWrongFalsely : Prop := ladderAgreesRow.holds Tryd.pinned (OpenSpec.ofChange ladderAgreesWrong)

/-- 'caballaw07.LadderBits': WHATEVER THE INPUT: true; the input reads as it did. -/
def ladderBitsSpec : ChangeSpec := { name := "ladderBits", fn := fun _ => fun
  | [d1, d2, d3, d4] => { results := [.lit (.bool true)], args := [d1, d2, d3, d4] }
  | _ => none }
def ladderBitsRow : OpenClaim := { program := "ytnddofgabipknaadoor", sum := "02f8d24fb02860b87c99fe3b7eaaa227feeb60a15ef51d3e15769bfd4bd16ed6", func := "cabal/caballaw07.LadderBits", spec := "ladderBits", inPlace := ["math/bits.Add64", "math/bits.Sub64"], named := ["cabal/field.prime"], apart := false, laid := [("cabal/field.prime", laid_cabal_field_prime)] }
def LadderBitsSaid : Prop := ladderBitsRow.holds Tryd.pinned (OpenSpec.ofChange ladderBitsSpec)

/-- ITS FALSE NEIGHBOUR: 'it returns false'. Refute it at one input. -/
def ladderBitsWrong : ChangeSpec := { name := "ladderBits", fn := fun _ => fun
  | [d1, d2, d3, d4] => { results := [.lit (.bool false)], args := [d1, d2, d3, d4] }
  | _ => none }
def LadderBitsWrongFalsely : Prop := ladderBitsRow.holds Tryd.pinned (OpenSpec.ofChange ladderBitsWrong)

/-- 'caballaw07.LadderFirst': WHATEVER THE INPUT: true; the input reads as it did. -/
def ladderFirstSpec : ChangeSpec := { name := "ladderFirst", fn := fun _ => fun
  | [d] => { results := [.lit (.bool true)], args := [d] }
  | _ => none }
def ladderFirstRow : OpenClaim := { program := "ytnddofgabipknaadoor", sum := "02f8d24fb02860b87c99fe3b7eaaa227feeb60a15ef51d3e15769bfd4bd16ed6", func := "cabal/caballaw07.LadderFirst", spec := "ladderFirst", inPlace := ["math/bits.Add64", "math/bits.Sub64"], named := ["cabal/field.prime"], apart := false, laid := [("cabal/field.prime", laid_cabal_field_prime)] }
def LadderFirstSaid : Prop := ladderFirstRow.holds Tryd.pinned (OpenSpec.ofChange ladderFirstSpec)

/-- ITS FALSE NEIGHBOUR: 'it returns false'. Refute it at one input. -/
def ladderFirstWrong : ChangeSpec := { name := "ladderFirst", fn := fun _ => fun
  | [d] => { results := [.lit (.bool false)], args := [d] }
  | _ => none }
def LadderFirstWrongFalsely : Prop := ladderFirstRow.holds Tryd.pinned (OpenSpec.ofChange ladderFirstWrong)

/-- 'caballaw07.LadderMeets': WHATEVER THE INPUT: true; the input reads as it did. -/
def ladderMeetsSpec : ChangeSpec := { name := "ladderMeets", fn := fun _ => fun
  | [d1, d2] => { results := [.lit (.bool true)], args := [d1, d2] }
  | _ => none }
def ladderMeetsRow : OpenClaim := { program := "ytnddofgabipknaadoor", sum := "02f8d24fb02860b87c99fe3b7eaaa227feeb60a15ef51d3e15769bfd4bd16ed6", func := "cabal/caballaw07.LadderMeets", spec := "ladderMeets", inPlace := ["math/bits.Add64", "math/bits.Sub64"], named := ["cabal/field.prime"], apart := false, laid := [("cabal/field.prime", laid_cabal_field_prime)] }
def LadderMeetsSaid : Prop := ladderMeetsRow.holds Tryd.pinned (OpenSpec.ofChange ladderMeetsSpec)

/-- ITS FALSE NEIGHBOUR: 'it returns false'. Refute it at one input. -/
def ladderMeetsWrong : ChangeSpec := { name := "ladderMeets", fn := fun _ => fun
  | [d1, d2] => { results := [.lit (.bool false)], args := [d1, d2] }
  | _ => none }
def LadderMeetsWrongFalsely : Prop := ladderMeetsRow.holds Tryd.pinned (OpenSpec.ofChange ladderMeetsWrong)

/- THE SECOND FORM. 'bulk': how many values and letters a reading holds, each counted each time it is reached (what is shared counts as often as it is met; a slice's spare places count too). A statement '..UptoSaid' is the law's where the arguments, and the package variables that the reading takes, are together of bulk at most 1048576: NARROWER than '..Said'. Prove '..Said' where nothing that the law and all that it calls make is longer than what came in: it says more and counts as full. Else prove '..UptoSaid'. A law counts once. -/
mutual
def uptoBulk {H : Type} : DataW H → Nat
  | .lit (.string bytes) => bytes.length + 1
  | .lit _ => 1
  | .nil => 1
  | .ptr d => uptoBulk d + 1
  | .slice elems spare => uptoBulkAll elems + uptoBulkAll spare + 1
  | .agg parts => uptoBulkAll parts + 1
  | .iface _ d => uptoBulk d + 1
  | .map entries => uptoBulkEntries entries + 1
  | .held _ => 1
def uptoBulkAll {H : Type} : List (DataW H) → Nat
  | [] => 0
  | d :: r => uptoBulk d + uptoBulkAll r
def uptoBulkEntries {H : Type} : List (Lit × DataW H) → Nat
  | [] => 0
  | x :: r => uptoBulkEntry x + uptoBulkEntries r
def uptoBulkEntry {H : Type} : Lit × DataW H → Nat
  | (.string bytes, d) => bytes.length + uptoBulk d + 1
  | (_, d) => uptoBulk d + 1
 end
def uptoSmall : (H : Type) → List (DataW H) → Bool := fun _ ds => decide (uptoBulkAll ds ≤ 1048576)
def OpenSpec.upto (s : _root_.Go.ChangeSpec) : _root_.Go.OpenSpec := { _root_.Go.OpenSpec.ofChange s with cond := some uptoSmall }

/-- 'caballaw07.LadderPublic', WHERE WHAT IT READS IS OF BULK AT MOST 1048576: true; the input reads as it did. -/
def ladderPublicUptoRow : OpenClaim := { program := "ytnddofgabipknaadoor", sum := "02f8d24fb02860b87c99fe3b7eaaa227feeb60a15ef51d3e15769bfd4bd16ed6", func := "cabal/caballaw07.LadderPublic", spec := "ladderPublic", inPlace := ["math/bits.Add64", "math/bits.Sub64"], named := ["cabal/field.prime"], apart := false, laid := [("cabal/field.prime", laid_cabal_field_prime)], narrowed := true }
def LadderPublicUptoSaid : Prop := ladderPublicUptoRow.holds Tryd.pinned (OpenSpec.upto ladderPublicSpec)

/-- 'caballaw07.LadderAgrees', WHERE WHAT IT READS IS OF BULK AT MOST 1048576: true; the input reads as it did. -/
def ladderAgreesUptoRow : OpenClaim := { program := "ytnddofgabipknaadoor", sum := "02f8d24fb02860b87c99fe3b7eaaa227feeb60a15ef51d3e15769bfd4bd16ed6", func := "cabal/caballaw07.LadderAgrees", spec := "ladderAgrees", inPlace := ["math/bits.Add64", "math/bits.Sub64"], named := ["cabal/field.prime"], apart := false, laid := [("cabal/field.prime", laid_cabal_field_prime)], narrowed := true }
def LadderAgreesUptoSaid : Prop := ladderAgreesUptoRow.holds Tryd.pinned (OpenSpec.upto ladderAgreesSpec)

/-- 'caballaw07.LadderBits', WHERE WHAT IT READS IS OF BULK AT MOST 1048576: true; the input reads as it did. -/
def ladderBitsUptoRow : OpenClaim := { program := "ytnddofgabipknaadoor", sum := "02f8d24fb02860b87c99fe3b7eaaa227feeb60a15ef51d3e15769bfd4bd16ed6", func := "cabal/caballaw07.LadderBits", spec := "ladderBits", inPlace := ["math/bits.Add64", "math/bits.Sub64"], named := ["cabal/field.prime"], apart := false, laid := [("cabal/field.prime", laid_cabal_field_prime)], narrowed := true }
def LadderBitsUptoSaid : Prop := ladderBitsUptoRow.holds Tryd.pinned (OpenSpec.upto ladderBitsSpec)

/-- 'caballaw07.LadderFirst', WHERE WHAT IT READS IS OF BULK AT MOST 1048576: true; the input reads as it did. -/
def ladderFirstUptoRow : OpenClaim := { program := "ytnddofgabipknaadoor", sum := "02f8d24fb02860b87c99fe3b7eaaa227feeb60a15ef51d3e15769bfd4bd16ed6", func := "cabal/caballaw07.LadderFirst", spec := "ladderFirst", inPlace := ["math/bits.Add64", "math/bits.Sub64"], named := ["cabal/field.prime"], apart := false, laid := [("cabal/field.prime", laid_cabal_field_prime)], narrowed := true }
def LadderFirstUptoSaid : Prop := ladderFirstUptoRow.holds Tryd.pinned (OpenSpec.upto ladderFirstSpec)

/-- 'caballaw07.LadderMeets', WHERE WHAT IT READS IS OF BULK AT MOST 1048576: true; the input reads as it did. -/
def ladderMeetsUptoRow : OpenClaim := { program := "ytnddofgabipknaadoor", sum := "02f8d24fb02860b87c99fe3b7eaaa227feeb60a15ef51d3e15769bfd4bd16ed6", func := "cabal/caballaw07.LadderMeets", spec := "ladderMeets", inPlace := ["math/bits.Add64", "math/bits.Sub64"], named := ["cabal/field.prime"], apart := false, laid := [("cabal/field.prime", laid_cabal_field_prime)], narrowed := true }
def LadderMeetsUptoSaid : Prop := ladderMeetsUptoRow.holds Tryd.pinned (OpenSpec.upto ladderMeetsSpec)

end Rows
end Go.Proofs.YtnddofgabipknaaDoor
