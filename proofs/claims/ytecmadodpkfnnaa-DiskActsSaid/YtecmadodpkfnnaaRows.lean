/-
  No cell of these rows narrows 'for every input' (looked for: loops, veiled, ifaces, maps, wideKeys, modest, calm, conditions, laid).
  DERIVED. THE GIVEN ROWS OF THIS SEAT. 7 by the template 'for every input the law returns true; each argument reads behind the call as it read before'; 0 by the template 'total and deterministic' (their statements: YtecmadodpkfnnaaTotals.lean).
  GIVEN WITH THE SEED: the statements are not yours to turn. If you find one false, say at which input.
  Laid BY PROGRAM, IN A SANDBOX (cutbox-rows.mjs): the forced cells as the released guide's own fill.sh prints them over the translation 14f2c04d8fac45da… (all of the seat's roots in one cut). By AI agents, Wed Nov 11 2026. No macro, syntax, notation, axiom, sorry.
-/
import Derived.Test.YtecmadodpkfnnaaChecked
import GoSem.Claim
import GoSem.ClaimJoined
import GoSem.ClaimMapViews
import Derived.JoinedTies
import Derived.KernelRfl
namespace Go.Proofs.Ytecmadodpkfnnaa
/- THE CELL 'sum', in the pinned program and in every row, IS THE sha256 OF THE DUMP (.gsa) THAT YtecmadodpkfnnaaProg.lean LOADS. Nothing in Lean hashes anything: it is a label: what it is worth is what the hold of that sum in a sandbox is worth. -/
noncomputable def Try.pinned : Pinned := { name := "ytecmadodpkfnnaa", sum := "14f2c04d8fac45dae81b870f6feae26e8d7011c265bfa1c9330578e47051be1c", checked := Try.checked }
namespace Rows
def none {H : Type} : Left H := { results := [], args := [] }

/-- 'lamplighterlaw07.EscapeEncodes': WHATEVER THE INPUT: true; the input reads as it did. -/
def escapeEncodesSpec : ChangeSpec := { name := "escapeEncodes", fn := fun _ => fun
  | [d1, d2] => { results := [.lit (.bool true)], args := [d1, d2] }
  | _ => none }
def escapeEncodesRow : OpenClaim := { program := "ytecmadodpkfnnaa", sum := "14f2c04d8fac45dae81b870f6feae26e8d7011c265bfa1c9330578e47051be1c", func := "lamplighter/lamplighterlaw07.EscapeEncodes", spec := "escapeEncodes", inPlace := ["internal/bytealg.IndexByteString", "internal/abi.NoEscape"], apart := false }
def EscapeEncodesSaid : Prop := escapeEncodesRow.holds Try.pinned (OpenSpec.ofChange escapeEncodesSpec)

/-- ITS FALSE NEIGHBOUR: 'it returns false'. Refute it at one input. -/
def escapeEncodesWrong : ChangeSpec := { name := "escapeEncodes", fn := fun _ => fun
  | [d1, d2] => { results := [.lit (.bool false)], args := [d1, d2] }
  | _ => none }
def EscapeEncodesWrongFalsely : Prop := escapeEncodesRow.holds Try.pinned (OpenSpec.ofChange escapeEncodesWrong)

/-- 'lamplighterlaw07.EscapeDecodes': WHATEVER THE INPUT: true; the input reads as it did. -/
def escapeDecodesSpec : ChangeSpec := { name := "escapeDecodes", fn := fun _ => fun
  | [d1, d2] => { results := [.lit (.bool true)], args := [d1, d2] }
  | _ => none }
def escapeDecodesRow : OpenClaim := { program := "ytecmadodpkfnnaa", sum := "14f2c04d8fac45dae81b870f6feae26e8d7011c265bfa1c9330578e47051be1c", func := "lamplighter/lamplighterlaw07.EscapeDecodes", spec := "escapeDecodes", inPlace := ["internal/bytealg.IndexByteString", "internal/abi.NoEscape"], apart := false }
def EscapeDecodesSaid : Prop := escapeDecodesRow.holds Try.pinned (OpenSpec.ofChange escapeDecodesSpec)

/-- ITS FALSE NEIGHBOUR: 'it returns false'. Refute it at one input. -/
def escapeDecodesWrong : ChangeSpec := { name := "escapeDecodes", fn := fun _ => fun
  | [d1, d2] => { results := [.lit (.bool false)], args := [d1, d2] }
  | _ => none }
def EscapeDecodesWrongFalsely : Prop := escapeDecodesRow.holds Try.pinned (OpenSpec.ofChange escapeDecodesWrong)

/-- 'lamplighterlaw07.EscapeBack': WHATEVER THE INPUT: true; the input reads as it did. -/
def escapeBackSpec : ChangeSpec := { name := "escapeBack", fn := fun _ => fun
  | [d1, d2] => { results := [.lit (.bool true)], args := [d1, d2] }
  | _ => none }
def escapeBackRow : OpenClaim := { program := "ytecmadodpkfnnaa", sum := "14f2c04d8fac45dae81b870f6feae26e8d7011c265bfa1c9330578e47051be1c", func := "lamplighter/lamplighterlaw07.EscapeBack", spec := "escapeBack", inPlace := ["internal/bytealg.IndexByteString", "internal/abi.NoEscape"], apart := false }
def EscapeBackSaid : Prop := escapeBackRow.holds Try.pinned (OpenSpec.ofChange escapeBackSpec)

/-- ITS FALSE NEIGHBOUR: 'it returns false'. Refute it at one input. -/
def escapeBackWrong : ChangeSpec := { name := "escapeBack", fn := fun _ => fun
  | [d1, d2] => { results := [.lit (.bool false)], args := [d1, d2] }
  | _ => none }
def EscapeBackWrongFalsely : Prop := escapeBackRow.holds Try.pinned (OpenSpec.ofChange escapeBackWrong)

/-- 'lamplighterlaw07.EscapeBytes': WHATEVER THE INPUT: true; the input reads as it did. -/
def escapeBytesSpec : ChangeSpec := { name := "escapeBytes", fn := fun _ => fun
  | [d1, d2] => { results := [.lit (.bool true)], args := [d1, d2] }
  | _ => none }
def escapeBytesRow : OpenClaim := { program := "ytecmadodpkfnnaa", sum := "14f2c04d8fac45dae81b870f6feae26e8d7011c265bfa1c9330578e47051be1c", func := "lamplighter/lamplighterlaw07.EscapeBytes", spec := "escapeBytes", inPlace := ["internal/bytealg.IndexByteString", "internal/abi.NoEscape"], apart := false }
def EscapeBytesSaid : Prop := escapeBytesRow.holds Try.pinned (OpenSpec.ofChange escapeBytesSpec)

/-- ITS FALSE NEIGHBOUR: 'it returns false'. Refute it at one input. -/
def escapeBytesWrong : ChangeSpec := { name := "escapeBytes", fn := fun _ => fun
  | [d1, d2] => { results := [.lit (.bool false)], args := [d1, d2] }
  | _ => none }
def EscapeBytesWrongFalsely : Prop := escapeBytesRow.holds Try.pinned (OpenSpec.ofChange escapeBytesWrong)

/-- 'lamplighterlaw07.EscapeJoins': WHATEVER THE INPUT: true; the input reads as it did. -/
def escapeJoinsSpec : ChangeSpec := { name := "escapeJoins", fn := fun _ => fun
  | [d1, d2, d3] => { results := [.lit (.bool true)], args := [d1, d2, d3] }
  | _ => none }
def escapeJoinsRow : OpenClaim := { program := "ytecmadodpkfnnaa", sum := "14f2c04d8fac45dae81b870f6feae26e8d7011c265bfa1c9330578e47051be1c", func := "lamplighter/lamplighterlaw07.EscapeJoins", spec := "escapeJoins", inPlace := ["internal/bytealg.IndexByteString", "internal/abi.NoEscape"], apart := false }
def EscapeJoinsSaid : Prop := escapeJoinsRow.holds Try.pinned (OpenSpec.ofChange escapeJoinsSpec)

/-- ITS FALSE NEIGHBOUR: 'it returns false'. Refute it at one input. -/
def escapeJoinsWrong : ChangeSpec := { name := "escapeJoins", fn := fun _ => fun
  | [d1, d2, d3] => { results := [.lit (.bool false)], args := [d1, d2, d3] }
  | _ => none }
def EscapeJoinsWrongFalsely : Prop := escapeJoinsRow.holds Try.pinned (OpenSpec.ofChange escapeJoinsWrong)

/-- 'lamplighterlaw07.EscapeLonger': WHATEVER THE INPUT: true; the input reads as it did. -/
def escapeLongerSpec : ChangeSpec := { name := "escapeLonger", fn := fun _ => fun
  | [d] => { results := [.lit (.bool true)], args := [d] }
  | _ => none }
def escapeLongerRow : OpenClaim := { program := "ytecmadodpkfnnaa", sum := "14f2c04d8fac45dae81b870f6feae26e8d7011c265bfa1c9330578e47051be1c", func := "lamplighter/lamplighterlaw07.EscapeLonger", spec := "escapeLonger", inPlace := ["internal/bytealg.IndexByteString", "internal/abi.NoEscape"], apart := false }
def EscapeLongerSaid : Prop := escapeLongerRow.holds Try.pinned (OpenSpec.ofChange escapeLongerSpec)

/-- ITS FALSE NEIGHBOUR: 'it returns false'. Refute it at one input. -/
def escapeLongerWrong : ChangeSpec := { name := "escapeLonger", fn := fun _ => fun
  | [d] => { results := [.lit (.bool false)], args := [d] }
  | _ => none }
def EscapeLongerWrongFalsely : Prop := escapeLongerRow.holds Try.pinned (OpenSpec.ofChange escapeLongerWrong)

/-- 'lamplighterlaw02.DiskActs': WHATEVER THE INPUT: true; the input reads as it did. -/
def diskActsSpec : ChangeSpec := { name := "diskActs", fn := fun _ => fun
  | [d1, d2] => { results := [.lit (.bool true)], args := [d1, d2] }
  | _ => none }
def diskActsRow : OpenClaim := { program := "ytecmadodpkfnnaa", sum := "14f2c04d8fac45dae81b870f6feae26e8d7011c265bfa1c9330578e47051be1c", func := "lamplighter/lamplighterlaw02.DiskActs", spec := "diskActs", unfollowed := true, recurses := true, apart := false }
def DiskActsSaid : Prop := diskActsRow.holds Try.pinned (OpenSpec.ofChange diskActsSpec)

/-- ITS FALSE NEIGHBOUR: 'it returns false'. Refute it at one input. -/
def diskActsWrong : ChangeSpec := { name := "diskActs", fn := fun _ => fun
  | [d1, d2] => { results := [.lit (.bool false)], args := [d1, d2] }
  | _ => none }
def DiskActsWrongFalsely : Prop := diskActsRow.holds Try.pinned (OpenSpec.ofChange diskActsWrong)

/- THE SECOND FORM. 'bulk': how many values and letters a reading holds, each counted each time it is reached (what is shared counts as often as it is met; a slice's spare places count too). A statement '..UptoSaid' is the law's where the arguments, and the package variables that the reading takes, are together of bulk at most 1048576: NARROWER than '..Said'. Prove '..Said' where nothing that the law and all that it calls make is longer than what came in: it says more and counts as full. Else prove '..UptoSaid'. A law counts once. -/
mutual
def uptoBulk {H : Type} : DataW H → Nat
  | .lit (.string bytes) => bytes.length + 1
  | .lit _ => 1
  | .nil => 1
  | .ptr d => uptoBulk d + 1
  | .slice elems spare => uptoBulkAll elems + uptoBulkAll spare + 1
  | .agg parts => uptoBulkAll parts + 1
  | .iface _ d => uptoBulk d + 1
  | .map entries => uptoBulkEntries entries + 1
  | .held _ => 1
def uptoBulkAll {H : Type} : List (DataW H) → Nat
  | [] => 0
  | d :: r => uptoBulk d + uptoBulkAll r
def uptoBulkEntries {H : Type} : List (Lit × DataW H) → Nat
  | [] => 0
  | x :: r => uptoBulkEntry x + uptoBulkEntries r
def uptoBulkEntry {H : Type} : Lit × DataW H → Nat
  | (.string bytes, d) => bytes.length + uptoBulk d + 1
  | (_, d) => uptoBulk d + 1
 end
def uptoSmall : (H : Type) → List (DataW H) → Bool := fun _ ds => decide (uptoBulkAll ds ≤ 1048576)
def OpenSpec.upto (s : _root_.Go.ChangeSpec) : _root_.Go.OpenSpec := { _root_.Go.OpenSpec.ofChange s with cond := some uptoSmall }

/-- 'lamplighterlaw07.EscapeEncodes', WHERE WHAT IT READS IS OF BULK AT MOST 1048576: true; the input reads as it did. -/
def escapeEncodesUptoRow : OpenClaim := { program := "ytecmadodpkfnnaa", sum := "14f2c04d8fac45dae81b870f6feae26e8d7011c265bfa1c9330578e47051be1c", func := "lamplighter/lamplighterlaw07.EscapeEncodes", spec := "escapeEncodes", inPlace := ["internal/bytealg.IndexByteString", "internal/abi.NoEscape"], apart := false, narrowed := true }
def EscapeEncodesUptoSaid : Prop := escapeEncodesUptoRow.holds Try.pinned (OpenSpec.upto escapeEncodesSpec)

/-- 'lamplighterlaw07.EscapeDecodes', WHERE WHAT IT READS IS OF BULK AT MOST 1048576: true; the input reads as it did. -/
def escapeDecodesUptoRow : OpenClaim := { program := "ytecmadodpkfnnaa", sum := "14f2c04d8fac45dae81b870f6feae26e8d7011c265bfa1c9330578e47051be1c", func := "lamplighter/lamplighterlaw07.EscapeDecodes", spec := "escapeDecodes", inPlace := ["internal/bytealg.IndexByteString", "internal/abi.NoEscape"], apart := false, narrowed := true }
def EscapeDecodesUptoSaid : Prop := escapeDecodesUptoRow.holds Try.pinned (OpenSpec.upto escapeDecodesSpec)

/-- 'lamplighterlaw07.EscapeBack', WHERE WHAT IT READS IS OF BULK AT MOST 1048576: true; the input reads as it did. -/
def escapeBackUptoRow : OpenClaim := { program := "ytecmadodpkfnnaa", sum := "14f2c04d8fac45dae81b870f6feae26e8d7011c265bfa1c9330578e47051be1c", func := "lamplighter/lamplighterlaw07.EscapeBack", spec := "escapeBack", inPlace := ["internal/bytealg.IndexByteString", "internal/abi.NoEscape"], apart := false, narrowed := true }
def EscapeBackUptoSaid : Prop := escapeBackUptoRow.holds Try.pinned (OpenSpec.upto escapeBackSpec)

/-- 'lamplighterlaw07.EscapeBytes', WHERE WHAT IT READS IS OF BULK AT MOST 1048576: true; the input reads as it did. -/
def escapeBytesUptoRow : OpenClaim := { program := "ytecmadodpkfnnaa", sum := "14f2c04d8fac45dae81b870f6feae26e8d7011c265bfa1c9330578e47051be1c", func := "lamplighter/lamplighterlaw07.EscapeBytes", spec := "escapeBytes", inPlace := ["internal/bytealg.IndexByteString", "internal/abi.NoEscape"], apart := false, narrowed := true }
def EscapeBytesUptoSaid : Prop := escapeBytesUptoRow.holds Try.pinned (OpenSpec.upto escapeBytesSpec)

/-- 'lamplighterlaw07.EscapeJoins', WHERE WHAT IT READS IS OF BULK AT MOST 1048576: true; the input reads as it did. -/
def escapeJoinsUptoRow : OpenClaim := { program := "ytecmadodpkfnnaa", sum := "14f2c04d8fac45dae81b870f6feae26e8d7011c265bfa1c9330578e47051be1c", func := "lamplighter/lamplighterlaw07.EscapeJoins", spec := "escapeJoins", inPlace := ["internal/bytealg.IndexByteString", "internal/abi.NoEscape"], apart := false, narrowed := true }
def EscapeJoinsUptoSaid : Prop := escapeJoinsUptoRow.holds Try.pinned (OpenSpec.upto escapeJoinsSpec)

/-- 'lamplighterlaw07.EscapeLonger', WHERE WHAT IT READS IS OF BULK AT MOST 1048576: true; the input reads as it did. -/
def escapeLongerUptoRow : OpenClaim := { program := "ytecmadodpkfnnaa", sum := "14f2c04d8fac45dae81b870f6feae26e8d7011c265bfa1c9330578e47051be1c", func := "lamplighter/lamplighterlaw07.EscapeLonger", spec := "escapeLonger", inPlace := ["internal/bytealg.IndexByteString", "internal/abi.NoEscape"], apart := false, narrowed := true }
def EscapeLongerUptoSaid : Prop := escapeLongerUptoRow.holds Try.pinned (OpenSpec.upto escapeLongerSpec)

/-- 'lamplighterlaw02.DiskActs', WHERE WHAT IT READS IS OF BULK AT MOST 1048576: true; the input reads as it did. -/
def diskActsUptoRow : OpenClaim := { program := "ytecmadodpkfnnaa", sum := "14f2c04d8fac45dae81b870f6feae26e8d7011c265bfa1c9330578e47051be1c", func := "lamplighter/lamplighterlaw02.DiskActs", spec := "diskActs", unfollowed := true, recurses := true, apart := false, narrowed := true }
def DiskActsUptoSaid : Prop := diskActsUptoRow.holds Try.pinned (OpenSpec.upto diskActsSpec)

end Rows
end Go.Proofs.Ytecmadodpkfnnaa
