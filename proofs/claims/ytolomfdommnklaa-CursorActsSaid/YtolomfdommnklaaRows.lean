/-
  No cell of these rows narrows 'for every input' (looked for: loops, veiled, ifaces, maps, wideKeys, modest, calm, conditions, laid).
  DERIVED. THE GIVEN ROWS OF THIS SEAT. 6 by the template 'for every input the law returns true; each argument reads behind the call as it read before'; 0 by the template 'total and deterministic' (their statements: YtolomfdommnklaaTotals.lean).
  GIVEN WITH THE SEED: the statements are not yours to turn. If you find one false, say at which input.
  Laid BY PROGRAM, IN A SANDBOX (cutbox-rows.mjs): the forced cells as the released guide's own fill.sh prints them over the translation 27887bb59cf742ff… (all of the seat's roots in one cut). By AI agents, Wed Nov 11 2026. No macro, syntax, notation, axiom, sorry.
-/
import Derived.Test.YtolomfdommnklaaChecked
import GoSem.Claim
import GoSem.ClaimJoined
import GoSem.ClaimMapViews
import Derived.JoinedTies
import Derived.KernelRfl
namespace Go.Proofs.Ytolomfdommnklaa
/- THE CELL 'sum', in the pinned program and in every row, IS THE sha256 OF THE DUMP (.gsa) THAT YtolomfdommnklaaProg.lean LOADS. Nothing in Lean hashes anything: it is a label: what it is worth is what the hold of that sum in a sandbox is worth. -/
noncomputable def Try.pinned : Pinned := { name := "ytolomfdommnklaa", sum := "27887bb59cf742ff2b891d6f6e55fc0801466cca6202e762411076f20daac981", checked := Try.checked }
namespace Rows
def none {H : Type} : Left H := { results := [], args := [] }

/-- 'lamplighterlaw15.CursorNumbers': WHATEVER THE INPUT: true; the input reads as it did. -/
def cursorNumbersSpec : ChangeSpec := { name := "cursorNumbers", fn := fun _ => fun
  | [d1, d2, d3] => { results := [.lit (.bool true)], args := [d1, d2, d3] }
  | _ => none }
def cursorNumbersRow : OpenClaim := { program := "ytolomfdommnklaa", sum := "27887bb59cf742ff2b891d6f6e55fc0801466cca6202e762411076f20daac981", func := "lamplighter/lamplighterlaw15.CursorNumbers", spec := "cursorNumbers", unfollowed := true, recurses := true, apart := false }
def CursorNumbersSaid : Prop := cursorNumbersRow.holds Try.pinned (OpenSpec.ofChange cursorNumbersSpec)

/-- ITS FALSE NEIGHBOUR: 'it returns false'. Refute it at one input. -/
def cursorNumbersWrong : ChangeSpec := { name := "cursorNumbers", fn := fun _ => fun
  | [d1, d2, d3] => { results := [.lit (.bool false)], args := [d1, d2, d3] }
  | _ => none }
def CursorNumbersWrongFalsely : Prop := cursorNumbersRow.holds Try.pinned (OpenSpec.ofChange cursorNumbersWrong)

/-- 'lamplighterlaw15.CursorActs': WHATEVER THE INPUT: true; the input reads as it did. -/
def cursorActsSpec : ChangeSpec := { name := "cursorActs", fn := fun _ => fun
  | [d1, d2] => { results := [.lit (.bool true)], args := [d1, d2] }
  | _ => none }
def cursorActsRow : OpenClaim := { program := "ytolomfdommnklaa", sum := "27887bb59cf742ff2b891d6f6e55fc0801466cca6202e762411076f20daac981", func := "lamplighter/lamplighterlaw15.CursorActs", spec := "cursorActs", unfollowed := true, recurses := true, apart := false }
def CursorActsSaid : Prop := cursorActsRow.holds Try.pinned (OpenSpec.ofChange cursorActsSpec)

/-- ITS FALSE NEIGHBOUR: 'it returns false'. Refute it at one input. -/
def cursorActsWrong : ChangeSpec := { name := "cursorActs", fn := fun _ => fun
  | [d1, d2] => { results := [.lit (.bool false)], args := [d1, d2] }
  | _ => none }
def CursorActsWrongFalsely : Prop := cursorActsRow.holds Try.pinned (OpenSpec.ofChange cursorActsWrong)

/-- 'lamplighterlaw15.CursorNone': WHATEVER THE INPUT: true; the input reads as it did. -/
def cursorNoneSpec : ChangeSpec := { name := "cursorNone", fn := fun _ => fun
  | [d1, d2] => { results := [.lit (.bool true)], args := [d1, d2] }
  | _ => none }
def cursorNoneRow : OpenClaim := { program := "ytolomfdommnklaa", sum := "27887bb59cf742ff2b891d6f6e55fc0801466cca6202e762411076f20daac981", func := "lamplighter/lamplighterlaw15.CursorNone", spec := "cursorNone", unfollowed := true, recurses := true, apart := false }
def CursorNoneSaid : Prop := cursorNoneRow.holds Try.pinned (OpenSpec.ofChange cursorNoneSpec)

/-- ITS FALSE NEIGHBOUR: 'it returns false'. Refute it at one input. -/
def cursorNoneWrong : ChangeSpec := { name := "cursorNone", fn := fun _ => fun
  | [d1, d2] => { results := [.lit (.bool false)], args := [d1, d2] }
  | _ => none }
def CursorNoneWrongFalsely : Prop := cursorNoneRow.holds Try.pinned (OpenSpec.ofChange cursorNoneWrong)

/-- 'lamplighterlaw15.CursorKeeps': WHATEVER THE INPUT: true; the input reads as it did. -/
def cursorKeepsSpec : ChangeSpec := { name := "cursorKeeps", fn := fun _ => fun
  | [d1, d2] => { results := [.lit (.bool true)], args := [d1, d2] }
  | _ => none }
def cursorKeepsRow : OpenClaim := { program := "ytolomfdommnklaa", sum := "27887bb59cf742ff2b891d6f6e55fc0801466cca6202e762411076f20daac981", func := "lamplighter/lamplighterlaw15.CursorKeeps", spec := "cursorKeeps", unfollowed := true, recurses := true, apart := false }
def CursorKeepsSaid : Prop := cursorKeepsRow.holds Try.pinned (OpenSpec.ofChange cursorKeepsSpec)

/-- ITS FALSE NEIGHBOUR: 'it returns false'. Refute it at one input. -/
def cursorKeepsWrong : ChangeSpec := { name := "cursorKeeps", fn := fun _ => fun
  | [d1, d2] => { results := [.lit (.bool false)], args := [d1, d2] }
  | _ => none }
def CursorKeepsWrongFalsely : Prop := cursorKeepsRow.holds Try.pinned (OpenSpec.ofChange cursorKeepsWrong)

/-- 'lamplighterlaw15.CursorOrder': WHATEVER THE INPUT: true; the input reads as it did. -/
def cursorOrderSpec : ChangeSpec := { name := "cursorOrder", fn := fun _ => fun
  | [d1, d2] => { results := [.lit (.bool true)], args := [d1, d2] }
  | _ => none }
def cursorOrderRow : OpenClaim := { program := "ytolomfdommnklaa", sum := "27887bb59cf742ff2b891d6f6e55fc0801466cca6202e762411076f20daac981", func := "lamplighter/lamplighterlaw15.CursorOrder", spec := "cursorOrder", unfollowed := true, recurses := true, apart := false }
def CursorOrderSaid : Prop := cursorOrderRow.holds Try.pinned (OpenSpec.ofChange cursorOrderSpec)

/-- ITS FALSE NEIGHBOUR: 'it returns false'. Refute it at one input. -/
def cursorOrderWrong : ChangeSpec := { name := "cursorOrder", fn := fun _ => fun
  | [d1, d2] => { results := [.lit (.bool false)], args := [d1, d2] }
  | _ => none }
def CursorOrderWrongFalsely : Prop := cursorOrderRow.holds Try.pinned (OpenSpec.ofChange cursorOrderWrong)

/-- 'lamplighterlaw15.CursorFiles': WHATEVER THE INPUT: true; the input reads as it did. -/
def cursorFilesSpec : ChangeSpec := { name := "cursorFiles", fn := fun _ => fun
  | [d] => { results := [.lit (.bool true)], args := [d] }
  | _ => none }
def cursorFilesRow : OpenClaim := { program := "ytolomfdommnklaa", sum := "27887bb59cf742ff2b891d6f6e55fc0801466cca6202e762411076f20daac981", func := "lamplighter/lamplighterlaw15.CursorFiles", spec := "cursorFiles", unfollowed := true, recurses := true, apart := false }
def CursorFilesSaid : Prop := cursorFilesRow.holds Try.pinned (OpenSpec.ofChange cursorFilesSpec)

/-- ITS FALSE NEIGHBOUR: 'it returns false'. Refute it at one input. -/
def cursorFilesWrong : ChangeSpec := { name := "cursorFiles", fn := fun _ => fun
  | [d] => { results := [.lit (.bool false)], args := [d] }
  | _ => none }
def CursorFilesWrongFalsely : Prop := cursorFilesRow.holds Try.pinned (OpenSpec.ofChange cursorFilesWrong)

/- THE SECOND FORM. 'bulk': how many values and letters a reading holds, each counted each time it is reached (what is shared counts as often as it is met; a slice's spare places count too). A statement '..UptoSaid' is the law's where the arguments, and the package variables that the reading takes, are together of bulk at most 1048576: NARROWER than '..Said'. Prove '..Said' where nothing that the law and all that it calls make is longer than what came in: it says more and counts as full. Else prove '..UptoSaid'. A law counts once. -/
mutual
def uptoBulk {H : Type} : DataW H → Nat
  | .lit (.string bytes) => bytes.length + 1
  | .lit _ => 1
  | .nil => 1
  | .ptr d => uptoBulk d + 1
  | .slice elems spare => uptoBulkAll elems + uptoBulkAll spare + 1
  | .agg parts => uptoBulkAll parts + 1
  | .iface _ d => uptoBulk d + 1
  | .map entries => uptoBulkEntries entries + 1
  | .held _ => 1
def uptoBulkAll {H : Type} : List (DataW H) → Nat
  | [] => 0
  | d :: r => uptoBulk d + uptoBulkAll r
def uptoBulkEntries {H : Type} : List (Lit × DataW H) → Nat
  | [] => 0
  | x :: r => uptoBulkEntry x + uptoBulkEntries r
def uptoBulkEntry {H : Type} : Lit × DataW H → Nat
  | (.string bytes, d) => bytes.length + uptoBulk d + 1
  | (_, d) => uptoBulk d + 1
 end
def uptoSmall : (H : Type) → List (DataW H) → Bool := fun _ ds => decide (uptoBulkAll ds ≤ 1048576)
def OpenSpec.upto (s : _root_.Go.ChangeSpec) : _root_.Go.OpenSpec := { _root_.Go.OpenSpec.ofChange s with cond := some uptoSmall }

/-- 'lamplighterlaw15.CursorNumbers', WHERE WHAT IT READS IS OF BULK AT MOST 1048576: true; the input reads as it did. -/
def cursorNumbersUptoRow : OpenClaim := { program := "ytolomfdommnklaa", sum := "27887bb59cf742ff2b891d6f6e55fc0801466cca6202e762411076f20daac981", func := "lamplighter/lamplighterlaw15.CursorNumbers", spec := "cursorNumbers", unfollowed := true, recurses := true, apart := false, narrowed := true }
def CursorNumbersUptoSaid : Prop := cursorNumbersUptoRow.holds Try.pinned (OpenSpec.upto cursorNumbersSpec)

/-- 'lamplighterlaw15.CursorActs', WHERE WHAT IT READS IS OF BULK AT MOST 1048576: true; the input reads as it did. -/
def cursorActsUptoRow : OpenClaim := { program := "ytolomfdommnklaa", sum := "27887bb59cf742ff2b891d6f6e55fc0801466cca6202e762411076f20daac981", func := "lamplighter/lamplighterlaw15.CursorActs", spec := "cursorActs", unfollowed := true, recurses := true, apart := false, narrowed := true }
def CursorActsUptoSaid : Prop := cursorActsUptoRow.holds Try.pinned (OpenSpec.upto cursorActsSpec)

/-- 'lamplighterlaw15.CursorNone', WHERE WHAT IT READS IS OF BULK AT MOST 1048576: true; the input reads as it did. -/
def cursorNoneUptoRow : OpenClaim := { program := "ytolomfdommnklaa", sum := "27887bb59cf742ff2b891d6f6e55fc0801466cca6202e762411076f20daac981", func := "lamplighter/lamplighterlaw15.CursorNone", spec := "cursorNone", unfollowed := true, recurses := true, apart := false, narrowed := true }
def CursorNoneUptoSaid : Prop := cursorNoneUptoRow.holds Try.pinned (OpenSpec.upto cursorNoneSpec)

/-- 'lamplighterlaw15.CursorKeeps', WHERE WHAT IT READS IS OF BULK AT MOST 1048576: true; the input reads as it did. -/
def cursorKeepsUptoRow : OpenClaim := { program := "ytolomfdommnklaa", sum := "27887bb59cf742ff2b891d6f6e55fc0801466cca6202e762411076f20daac981", func := "lamplighter/lamplighterlaw15.CursorKeeps", spec := "cursorKeeps", unfollowed := true, recurses := true, apart := false, narrowed := true }
def CursorKeepsUptoSaid : Prop := cursorKeepsUptoRow.holds Try.pinned (OpenSpec.upto cursorKeepsSpec)

/-- 'lamplighterlaw15.CursorOrder', WHERE WHAT IT READS IS OF BULK AT MOST 1048576: true; the input reads as it did. -/
def cursorOrderUptoRow : OpenClaim := { program := "ytolomfdommnklaa", sum := "27887bb59cf742ff2b891d6f6e55fc0801466cca6202e762411076f20daac981", func := "lamplighter/lamplighterlaw15.CursorOrder", spec := "cursorOrder", unfollowed := true, recurses := true, apart := false, narrowed := true }
def CursorOrderUptoSaid : Prop := cursorOrderUptoRow.holds Try.pinned (OpenSpec.upto cursorOrderSpec)

/-- 'lamplighterlaw15.CursorFiles', WHERE WHAT IT READS IS OF BULK AT MOST 1048576: true; the input reads as it did. -/
def cursorFilesUptoRow : OpenClaim := { program := "ytolomfdommnklaa", sum := "27887bb59cf742ff2b891d6f6e55fc0801466cca6202e762411076f20daac981", func := "lamplighter/lamplighterlaw15.CursorFiles", spec := "cursorFiles", unfollowed := true, recurses := true, apart := false, narrowed := true }
def CursorFilesUptoSaid : Prop := cursorFilesUptoRow.holds Try.pinned (OpenSpec.upto cursorFilesSpec)

end Rows
end Go.Proofs.Ytolomfdommnklaa
