/-
  No cell of these rows narrows 'for every input' (looked for: loops, veiled, ifaces, maps, wideKeys, modest, calm, conditions, laid).
  DERIVED. THE GIVEN ROWS OF THIS SEAT. 11 by the template 'for every input the law returns true; each argument reads behind the call as it read before'; 0 by the template 'total and deterministic' (their statements: YtcdkcaahmjchjaaTotals.lean).
  GIVEN WITH THE SEED: the statements are not yours to turn. If you find one false, say at which input.
  Laid BY PROGRAM, IN A SANDBOX (cutbox-rows.mjs): the forced cells as the released guide's own fill.sh prints them over the translation 0e48265fb2eb52f3… (all of the seat's roots in one cut). By AI agents, Wed Nov 11 2026. No macro, syntax, notation, axiom, sorry.
-/
import Derived.Test.YtcdkcaahmjchjaaChecked
import GoSem.Claim
import GoSem.ClaimJoined
import GoSem.ClaimMapViews
import Derived.JoinedTies
import Derived.KernelRfl
namespace Go.Proofs.Ytcdkcaahmjchjaa
/- THE CELL 'sum', in the pinned program and in every row, IS THE sha256 OF THE DUMP (.gsa) THAT YtcdkcaahmjchjaaProg.lean LOADS. Nothing in Lean hashes anything: it is a label: what it is worth is what the hold of that sum in a sandbox is worth. -/
noncomputable def Try.pinned : Pinned := { name := "ytcdkcaahmjchjaa", sum := "0e48265fb2eb52f341e4820c547d08dd90dd9fdfe78cbce283ded6c8656a562c", checked := Try.checked }
namespace Rows
def none {H : Type} : Left H := { results := [], args := [] }

/-- 'lamplighterlaw16.SenderActs': WHATEVER THE INPUT: true; the input reads as it did. -/
def senderActsSpec : ChangeSpec := { name := "senderActs", fn := fun _ => fun
  | [d1, d2, d3] => { results := [.lit (.bool true)], args := [d1, d2, d3] }
  | _ => none }
def senderActsRow : OpenClaim := { program := "ytcdkcaahmjchjaa", sum := "0e48265fb2eb52f341e4820c547d08dd90dd9fdfe78cbce283ded6c8656a562c", func := "lamplighter/lamplighterlaw16.SenderActs", spec := "senderActs", inPlace := ["math.Float64frombits"], unfollowed := true, recurses := true, apart := false }
def SenderActsSaid : Prop := senderActsRow.holds Try.pinned (OpenSpec.ofChange senderActsSpec)

/-- ITS FALSE NEIGHBOUR: 'it returns false'. Refute it at one input. -/
def senderActsWrong : ChangeSpec := { name := "senderActs", fn := fun _ => fun
  | [d1, d2, d3] => { results := [.lit (.bool false)], args := [d1, d2, d3] }
  | _ => none }
def SenderActsWrongFalsely : Prop := senderActsRow.holds Try.pinned (OpenSpec.ofChange senderActsWrong)

/-- 'lamplighterlaw16.SenderNone': WHATEVER THE INPUT: true; the input reads as it did. -/
def senderNoneSpec : ChangeSpec := { name := "senderNone", fn := fun _ => fun
  | [d1, d2] => { results := [.lit (.bool true)], args := [d1, d2] }
  | _ => none }
def senderNoneRow : OpenClaim := { program := "ytcdkcaahmjchjaa", sum := "0e48265fb2eb52f341e4820c547d08dd90dd9fdfe78cbce283ded6c8656a562c", func := "lamplighter/lamplighterlaw16.SenderNone", spec := "senderNone", apart := false }
def SenderNoneSaid : Prop := senderNoneRow.holds Try.pinned (OpenSpec.ofChange senderNoneSpec)

/-- ITS FALSE NEIGHBOUR: 'it returns false'. Refute it at one input. -/
def senderNoneWrong : ChangeSpec := { name := "senderNone", fn := fun _ => fun
  | [d1, d2] => { results := [.lit (.bool false)], args := [d1, d2] }
  | _ => none }
def SenderNoneWrongFalsely : Prop := senderNoneRow.holds Try.pinned (OpenSpec.ofChange senderNoneWrong)

/-- 'lamplighterlaw16.SenderOrder': WHATEVER THE INPUT: true; the input reads as it did. -/
def senderOrderSpec : ChangeSpec := { name := "senderOrder", fn := fun _ => fun
  | [d1, d2, d3] => { results := [.lit (.bool true)], args := [d1, d2, d3] }
  | _ => none }
def senderOrderRow : OpenClaim := { program := "ytcdkcaahmjchjaa", sum := "0e48265fb2eb52f341e4820c547d08dd90dd9fdfe78cbce283ded6c8656a562c", func := "lamplighter/lamplighterlaw16.SenderOrder", spec := "senderOrder", inPlace := ["math.Float64frombits"], unfollowed := true, recurses := true, apart := false }
def SenderOrderSaid : Prop := senderOrderRow.holds Try.pinned (OpenSpec.ofChange senderOrderSpec)

/-- ITS FALSE NEIGHBOUR: 'it returns false'. Refute it at one input. -/
def senderOrderWrong : ChangeSpec := { name := "senderOrder", fn := fun _ => fun
  | [d1, d2, d3] => { results := [.lit (.bool false)], args := [d1, d2, d3] }
  | _ => none }
def SenderOrderWrongFalsely : Prop := senderOrderRow.holds Try.pinned (OpenSpec.ofChange senderOrderWrong)

/-- 'lamplighterlaw16.SenderLives': WHATEVER THE INPUT: true; the input reads as it did. -/
def senderLivesSpec : ChangeSpec := { name := "senderLives", fn := fun _ => fun
  | [d1, d2, d3] => { results := [.lit (.bool true)], args := [d1, d2, d3] }
  | _ => none }
def senderLivesRow : OpenClaim := { program := "ytcdkcaahmjchjaa", sum := "0e48265fb2eb52f341e4820c547d08dd90dd9fdfe78cbce283ded6c8656a562c", func := "lamplighter/lamplighterlaw16.SenderLives", spec := "senderLives", inPlace := ["math.Float64frombits"], unfollowed := true, recurses := true, apart := false }
def SenderLivesSaid : Prop := senderLivesRow.holds Try.pinned (OpenSpec.ofChange senderLivesSpec)

/-- ITS FALSE NEIGHBOUR: 'it returns false'. Refute it at one input. -/
def senderLivesWrong : ChangeSpec := { name := "senderLives", fn := fun _ => fun
  | [d1, d2, d3] => { results := [.lit (.bool false)], args := [d1, d2, d3] }
  | _ => none }
def SenderLivesWrongFalsely : Prop := senderLivesRow.holds Try.pinned (OpenSpec.ofChange senderLivesWrong)

/-- 'lamplighterlaw16.SenderTicks': WHATEVER THE INPUT: true; the input reads as it did. -/
def senderTicksSpec : ChangeSpec := { name := "senderTicks", fn := fun _ => fun
  | [d1, d2, d3] => { results := [.lit (.bool true)], args := [d1, d2, d3] }
  | _ => none }
def senderTicksRow : OpenClaim := { program := "ytcdkcaahmjchjaa", sum := "0e48265fb2eb52f341e4820c547d08dd90dd9fdfe78cbce283ded6c8656a562c", func := "lamplighter/lamplighterlaw16.SenderTicks", spec := "senderTicks", inPlace := ["math.Float64frombits"], unfollowed := true, recurses := true, apart := false }
def SenderTicksSaid : Prop := senderTicksRow.holds Try.pinned (OpenSpec.ofChange senderTicksSpec)

/-- ITS FALSE NEIGHBOUR: 'it returns false'. Refute it at one input. -/
def senderTicksWrong : ChangeSpec := { name := "senderTicks", fn := fun _ => fun
  | [d1, d2, d3] => { results := [.lit (.bool false)], args := [d1, d2, d3] }
  | _ => none }
def SenderTicksWrongFalsely : Prop := senderTicksRow.holds Try.pinned (OpenSpec.ofChange senderTicksWrong)

/-- 'lamplighterlaw16.SenderFails': WHATEVER THE INPUT: true; the input reads as it did. -/
def senderFailsSpec : ChangeSpec := { name := "senderFails", fn := fun _ => fun
  | [d1, d2, d3] => { results := [.lit (.bool true)], args := [d1, d2, d3] }
  | _ => none }
def senderFailsRow : OpenClaim := { program := "ytcdkcaahmjchjaa", sum := "0e48265fb2eb52f341e4820c547d08dd90dd9fdfe78cbce283ded6c8656a562c", func := "lamplighter/lamplighterlaw16.SenderFails", spec := "senderFails", inPlace := ["math.Float64frombits"], unfollowed := true, recurses := true, apart := false }
def SenderFailsSaid : Prop := senderFailsRow.holds Try.pinned (OpenSpec.ofChange senderFailsSpec)

/-- ITS FALSE NEIGHBOUR: 'it returns false'. Refute it at one input. -/
def senderFailsWrong : ChangeSpec := { name := "senderFails", fn := fun _ => fun
  | [d1, d2, d3] => { results := [.lit (.bool false)], args := [d1, d2, d3] }
  | _ => none }
def SenderFailsWrongFalsely : Prop := senderFailsRow.holds Try.pinned (OpenSpec.ofChange senderFailsWrong)

/-- 'lamplighterlaw16.SenderKnows': WHATEVER THE INPUT: true; the input reads as it did. -/
def senderKnowsSpec : ChangeSpec := { name := "senderKnows", fn := fun _ => fun
  | [d1, d2] => { results := [.lit (.bool true)], args := [d1, d2] }
  | _ => none }
def senderKnowsRow : OpenClaim := { program := "ytcdkcaahmjchjaa", sum := "0e48265fb2eb52f341e4820c547d08dd90dd9fdfe78cbce283ded6c8656a562c", func := "lamplighter/lamplighterlaw16.SenderKnows", spec := "senderKnows", apart := false }
def SenderKnowsSaid : Prop := senderKnowsRow.holds Try.pinned (OpenSpec.ofChange senderKnowsSpec)

/-- ITS FALSE NEIGHBOUR: 'it returns false'. Refute it at one input. -/
def senderKnowsWrong : ChangeSpec := { name := "senderKnows", fn := fun _ => fun
  | [d1, d2] => { results := [.lit (.bool false)], args := [d1, d2] }
  | _ => none }
def SenderKnowsWrongFalsely : Prop := senderKnowsRow.holds Try.pinned (OpenSpec.ofChange senderKnowsWrong)

/-- 'lamplighterlaw12.DelayNexts': WHATEVER THE INPUT: true; the input reads as it did. -/
def delayNextsSpec : ChangeSpec := { name := "delayNexts", fn := fun _ => fun
  | [d1, d2, d3] => { results := [.lit (.bool true)], args := [d1, d2, d3] }
  | _ => none }
def delayNextsRow : OpenClaim := { program := "ytcdkcaahmjchjaa", sum := "0e48265fb2eb52f341e4820c547d08dd90dd9fdfe78cbce283ded6c8656a562c", func := "lamplighter/lamplighterlaw12.DelayNexts", spec := "delayNexts", inPlace := ["math.Float64frombits", "math.Float64bits"], apart := false }
def DelayNextsSaid : Prop := delayNextsRow.holds Try.pinned (OpenSpec.ofChange delayNextsSpec)

/-- ITS FALSE NEIGHBOUR: 'it returns false'. Refute it at one input. -/
def delayNextsWrong : ChangeSpec := { name := "delayNexts", fn := fun _ => fun
  | [d1, d2, d3] => { results := [.lit (.bool false)], args := [d1, d2, d3] }
  | _ => none }
def DelayNextsWrongFalsely : Prop := delayNextsRow.holds Try.pinned (OpenSpec.ofChange delayNextsWrong)

/-- 'lamplighterlaw06.DelimReads': WHATEVER THE INPUT: true; the input reads as it did. -/
def delimReadsSpec : ChangeSpec := { name := "delimReads", fn := fun _ => fun
  | [d1, d2] => { results := [.lit (.bool true)], args := [d1, d2] }
  | _ => none }
def delimReadsRow : OpenClaim := { program := "ytcdkcaahmjchjaa", sum := "0e48265fb2eb52f341e4820c547d08dd90dd9fdfe78cbce283ded6c8656a562c", func := "lamplighter/lamplighterlaw06.DelimReads", spec := "delimReads", inPlace := ["internal/bytealg.IndexByteString"], apart := false }
def DelimReadsSaid : Prop := delimReadsRow.holds Try.pinned (OpenSpec.ofChange delimReadsSpec)

/-- ITS FALSE NEIGHBOUR: 'it returns false'. Refute it at one input. -/
def delimReadsWrong : ChangeSpec := { name := "delimReads", fn := fun _ => fun
  | [d1, d2] => { results := [.lit (.bool false)], args := [d1, d2] }
  | _ => none }
def DelimReadsWrongFalsely : Prop := delimReadsRow.holds Try.pinned (OpenSpec.ofChange delimReadsWrong)

/-- 'lamplighterlaw06.DelimBack': WHATEVER THE INPUT: true; the input reads as it did. -/
def delimBackSpec : ChangeSpec := { name := "delimBack", fn := fun _ => fun
  | [d1, d2, d3] => { results := [.lit (.bool true)], args := [d1, d2, d3] }
  | _ => none }
def delimBackRow : OpenClaim := { program := "ytcdkcaahmjchjaa", sum := "0e48265fb2eb52f341e4820c547d08dd90dd9fdfe78cbce283ded6c8656a562c", func := "lamplighter/lamplighterlaw06.DelimBack", spec := "delimBack", inPlace := ["internal/bytealg.IndexByteString"], apart := false }
def DelimBackSaid : Prop := delimBackRow.holds Try.pinned (OpenSpec.ofChange delimBackSpec)

/-- ITS FALSE NEIGHBOUR: 'it returns false'. Refute it at one input. -/
def delimBackWrong : ChangeSpec := { name := "delimBack", fn := fun _ => fun
  | [d1, d2, d3] => { results := [.lit (.bool false)], args := [d1, d2, d3] }
  | _ => none }
def DelimBackWrongFalsely : Prop := delimBackRow.holds Try.pinned (OpenSpec.ofChange delimBackWrong)

/-- 'lamplighterlaw06.DelimRight': WHATEVER THE INPUT: true; the input reads as it did. -/
def delimRightSpec : ChangeSpec := { name := "delimRight", fn := fun _ => fun
  | [d1, d2] => { results := [.lit (.bool true)], args := [d1, d2] }
  | _ => none }
def delimRightRow : OpenClaim := { program := "ytcdkcaahmjchjaa", sum := "0e48265fb2eb52f341e4820c547d08dd90dd9fdfe78cbce283ded6c8656a562c", func := "lamplighter/lamplighterlaw06.DelimRight", spec := "delimRight", inPlace := ["internal/bytealg.IndexByteString"], apart := false }
def DelimRightSaid : Prop := delimRightRow.holds Try.pinned (OpenSpec.ofChange delimRightSpec)

/-- ITS FALSE NEIGHBOUR: 'it returns false'. Refute it at one input. -/
def delimRightWrong : ChangeSpec := { name := "delimRight", fn := fun _ => fun
  | [d1, d2] => { results := [.lit (.bool false)], args := [d1, d2] }
  | _ => none }
def DelimRightWrongFalsely : Prop := delimRightRow.holds Try.pinned (OpenSpec.ofChange delimRightWrong)

/- THE SECOND FORM. 'bulk': how many values and letters a reading holds, each counted each time it is reached (what is shared counts as often as it is met; a slice's spare places count too). A statement '..UptoSaid' is the law's where the arguments, and the package variables that the reading takes, are together of bulk at most 1048576: NARROWER than '..Said'. Prove '..Said' where nothing that the law and all that it calls make is longer than what came in: it says more and counts as full. Else prove '..UptoSaid'. A law counts once. -/
mutual
def uptoBulk {H : Type} : DataW H → Nat
  | .lit (.string bytes) => bytes.length + 1
  | .lit _ => 1
  | .nil => 1
  | .ptr d => uptoBulk d + 1
  | .slice elems spare => uptoBulkAll elems + uptoBulkAll spare + 1
  | .agg parts => uptoBulkAll parts + 1
  | .iface _ d => uptoBulk d + 1
  | .map entries => uptoBulkEntries entries + 1
  | .held _ => 1
def uptoBulkAll {H : Type} : List (DataW H) → Nat
  | [] => 0
  | d :: r => uptoBulk d + uptoBulkAll r
def uptoBulkEntries {H : Type} : List (Lit × DataW H) → Nat
  | [] => 0
  | x :: r => uptoBulkEntry x + uptoBulkEntries r
def uptoBulkEntry {H : Type} : Lit × DataW H → Nat
  | (.string bytes, d) => bytes.length + uptoBulk d + 1
  | (_, d) => uptoBulk d + 1
 end
def uptoSmall : (H : Type) → List (DataW H) → Bool := fun _ ds => decide (uptoBulkAll ds ≤ 1048576)
def OpenSpec.upto (s : _root_.Go.ChangeSpec) : _root_.Go.OpenSpec := { _root_.Go.OpenSpec.ofChange s with cond := some uptoSmall }

/-- 'lamplighterlaw16.SenderActs', WHERE WHAT IT READS IS OF BULK AT MOST 1048576: true; the input reads as it did. -/
def senderActsUptoRow : OpenClaim := { program := "ytcdkcaahmjchjaa", sum := "0e48265fb2eb52f341e4820c547d08dd90dd9fdfe78cbce283ded6c8656a562c", func := "lamplighter/lamplighterlaw16.SenderActs", spec := "senderActs", inPlace := ["math.Float64frombits"], unfollowed := true, recurses := true, apart := false, narrowed := true }
def SenderActsUptoSaid : Prop := senderActsUptoRow.holds Try.pinned (OpenSpec.upto senderActsSpec)

/-- 'lamplighterlaw16.SenderNone', WHERE WHAT IT READS IS OF BULK AT MOST 1048576: true; the input reads as it did. -/
def senderNoneUptoRow : OpenClaim := { program := "ytcdkcaahmjchjaa", sum := "0e48265fb2eb52f341e4820c547d08dd90dd9fdfe78cbce283ded6c8656a562c", func := "lamplighter/lamplighterlaw16.SenderNone", spec := "senderNone", apart := false, narrowed := true }
def SenderNoneUptoSaid : Prop := senderNoneUptoRow.holds Try.pinned (OpenSpec.upto senderNoneSpec)

/-- 'lamplighterlaw16.SenderOrder', WHERE WHAT IT READS IS OF BULK AT MOST 1048576: true; the input reads as it did. -/
def senderOrderUptoRow : OpenClaim := { program := "ytcdkcaahmjchjaa", sum := "0e48265fb2eb52f341e4820c547d08dd90dd9fdfe78cbce283ded6c8656a562c", func := "lamplighter/lamplighterlaw16.SenderOrder", spec := "senderOrder", inPlace := ["math.Float64frombits"], unfollowed := true, recurses := true, apart := false, narrowed := true }
def SenderOrderUptoSaid : Prop := senderOrderUptoRow.holds Try.pinned (OpenSpec.upto senderOrderSpec)

/-- 'lamplighterlaw16.SenderLives', WHERE WHAT IT READS IS OF BULK AT MOST 1048576: true; the input reads as it did. -/
def senderLivesUptoRow : OpenClaim := { program := "ytcdkcaahmjchjaa", sum := "0e48265fb2eb52f341e4820c547d08dd90dd9fdfe78cbce283ded6c8656a562c", func := "lamplighter/lamplighterlaw16.SenderLives", spec := "senderLives", inPlace := ["math.Float64frombits"], unfollowed := true, recurses := true, apart := false, narrowed := true }
def SenderLivesUptoSaid : Prop := senderLivesUptoRow.holds Try.pinned (OpenSpec.upto senderLivesSpec)

/-- 'lamplighterlaw16.SenderTicks', WHERE WHAT IT READS IS OF BULK AT MOST 1048576: true; the input reads as it did. -/
def senderTicksUptoRow : OpenClaim := { program := "ytcdkcaahmjchjaa", sum := "0e48265fb2eb52f341e4820c547d08dd90dd9fdfe78cbce283ded6c8656a562c", func := "lamplighter/lamplighterlaw16.SenderTicks", spec := "senderTicks", inPlace := ["math.Float64frombits"], unfollowed := true, recurses := true, apart := false, narrowed := true }
def SenderTicksUptoSaid : Prop := senderTicksUptoRow.holds Try.pinned (OpenSpec.upto senderTicksSpec)

/-- 'lamplighterlaw16.SenderFails', WHERE WHAT IT READS IS OF BULK AT MOST 1048576: true; the input reads as it did. -/
def senderFailsUptoRow : OpenClaim := { program := "ytcdkcaahmjchjaa", sum := "0e48265fb2eb52f341e4820c547d08dd90dd9fdfe78cbce283ded6c8656a562c", func := "lamplighter/lamplighterlaw16.SenderFails", spec := "senderFails", inPlace := ["math.Float64frombits"], unfollowed := true, recurses := true, apart := false, narrowed := true }
def SenderFailsUptoSaid : Prop := senderFailsUptoRow.holds Try.pinned (OpenSpec.upto senderFailsSpec)

/-- 'lamplighterlaw16.SenderKnows', WHERE WHAT IT READS IS OF BULK AT MOST 1048576: true; the input reads as it did. -/
def senderKnowsUptoRow : OpenClaim := { program := "ytcdkcaahmjchjaa", sum := "0e48265fb2eb52f341e4820c547d08dd90dd9fdfe78cbce283ded6c8656a562c", func := "lamplighter/lamplighterlaw16.SenderKnows", spec := "senderKnows", apart := false, narrowed := true }
def SenderKnowsUptoSaid : Prop := senderKnowsUptoRow.holds Try.pinned (OpenSpec.upto senderKnowsSpec)

/-- 'lamplighterlaw12.DelayNexts', WHERE WHAT IT READS IS OF BULK AT MOST 1048576: true; the input reads as it did. -/
def delayNextsUptoRow : OpenClaim := { program := "ytcdkcaahmjchjaa", sum := "0e48265fb2eb52f341e4820c547d08dd90dd9fdfe78cbce283ded6c8656a562c", func := "lamplighter/lamplighterlaw12.DelayNexts", spec := "delayNexts", inPlace := ["math.Float64frombits", "math.Float64bits"], apart := false, narrowed := true }
def DelayNextsUptoSaid : Prop := delayNextsUptoRow.holds Try.pinned (OpenSpec.upto delayNextsSpec)

/-- 'lamplighterlaw06.DelimReads', WHERE WHAT IT READS IS OF BULK AT MOST 1048576: true; the input reads as it did. -/
def delimReadsUptoRow : OpenClaim := { program := "ytcdkcaahmjchjaa", sum := "0e48265fb2eb52f341e4820c547d08dd90dd9fdfe78cbce283ded6c8656a562c", func := "lamplighter/lamplighterlaw06.DelimReads", spec := "delimReads", inPlace := ["internal/bytealg.IndexByteString"], apart := false, narrowed := true }
def DelimReadsUptoSaid : Prop := delimReadsUptoRow.holds Try.pinned (OpenSpec.upto delimReadsSpec)

/-- 'lamplighterlaw06.DelimBack', WHERE WHAT IT READS IS OF BULK AT MOST 1048576: true; the input reads as it did. -/
def delimBackUptoRow : OpenClaim := { program := "ytcdkcaahmjchjaa", sum := "0e48265fb2eb52f341e4820c547d08dd90dd9fdfe78cbce283ded6c8656a562c", func := "lamplighter/lamplighterlaw06.DelimBack", spec := "delimBack", inPlace := ["internal/bytealg.IndexByteString"], apart := false, narrowed := true }
def DelimBackUptoSaid : Prop := delimBackUptoRow.holds Try.pinned (OpenSpec.upto delimBackSpec)

/-- 'lamplighterlaw06.DelimRight', WHERE WHAT IT READS IS OF BULK AT MOST 1048576: true; the input reads as it did. -/
def delimRightUptoRow : OpenClaim := { program := "ytcdkcaahmjchjaa", sum := "0e48265fb2eb52f341e4820c547d08dd90dd9fdfe78cbce283ded6c8656a562c", func := "lamplighter/lamplighterlaw06.DelimRight", spec := "delimRight", inPlace := ["internal/bytealg.IndexByteString"], apart := false, narrowed := true }
def DelimRightUptoSaid : Prop := delimRightUptoRow.holds Try.pinned (OpenSpec.upto delimRightSpec)

end Rows
end Go.Proofs.Ytcdkcaahmjchjaa
