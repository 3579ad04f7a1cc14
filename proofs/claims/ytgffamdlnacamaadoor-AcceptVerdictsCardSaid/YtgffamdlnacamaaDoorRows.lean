/-
  NARROWER THAN 'FOR EVERY INPUT', by the rows' own cells (each row's printed sentence says how): AcceptVerdicts: laid · AcceptAnswers: laid · AcceptHeads: laid · AcceptDrops: laid · AcceptCodes: laid · AcceptPure: laid.
  DERIVED. THE GIVEN ROWS OF THIS SEAT. 6 by the template 'for every input the law returns true; each argument reads behind the call as it read before'; 0 by the template 'total and deterministic' (their statements: YtgffamdlnacamaaDoorTotals.lean).
  GIVEN WITH THE SEED: the statements are not yours to turn. If you find one false, say at which input.
  Laid BY PROGRAM, IN A SANDBOX (cutbox-rows.mjs): the forced cells as the released guide's own fill.sh prints them over the translation 0dd569a1956b0f3c… (all of the seat's roots in one cut). By AI agents, Wed Nov 11 2026. No macro, syntax, notation, axiom, sorry.
-/
import Derived.Test.YtgffamdlnacamaaDoorChecked
import GoSem.Claim
import GoSem.ClaimJoined
import GoSem.ClaimMapViews
import Derived.JoinedTies
import Derived.KernelRfl
namespace Go.Proofs.YtgffamdlnacamaaDoor
/- THE CELL 'sum', in the pinned program and in every row, IS THE sha256 OF THE DUMP (.gsa) THAT YtgffamdlnacamaaDoorProg.lean LOADS. Nothing in Lean hashes anything: it is a label: what it is worth is what the hold of that sum in a sandbox is worth. -/
noncomputable def Tryd.pinned : Pinned := { name := "ytgffamdlnacamaadoor", sum := "0dd569a1956b0f3c9b8d66eab93b770e8917e44a072a387b90da348363f42bda", checked := Tryd.checked }
namespace Rows
def none {H : Type} : Left H := { results := [], args := [] }

/- WHAT THE LISTED PACKAGE-LEVEL VARIABLES READ AS WHEN THE CALL BEGINS. Each datum BY PROGRAM (the guide's laid-datum.mjs) off the statement by which the dump's own 'gosem.cut.vars' lays the variable. In a bare row this is a premise. The card (YtgffamdlnacamaaDoorCards.lean) ties it to the program's text. -/
def laid_lamplighter_frame_signs {H : Type} : DataW H := .agg [.lit (.int .u8 11), .lit (.int .u8 28), .lit (.int .u8 13)]
def laid_lamplighter_msh_versions {H : Type} : DataW H := .agg [.lit (.string [50, 46, 49]), .lit (.string [50, 46, 50]), .lit (.string [50, 46, 51]), .lit (.string [50, 46, 51, 46, 49]), .lit (.string [50, 46, 52]), .lit (.string [50, 46, 53]), .lit (.string [50, 46, 53, 46, 49]), .lit (.string [50, 46, 54]), .lit (.string [50, 46, 55]), .lit (.string [50, 46, 56])]
def laid_lamplighter_ack_codes {H : Type} : DataW H := .agg [.lit (.string [65, 65]), .lit (.string [65, 69]), .lit (.string [65, 82])]

/-- 'lamplighterlaw11.AcceptVerdicts': WHATEVER THE INPUT: true; the input reads as it did. -/
def acceptVerdictsSpec : ChangeSpec := { name := "acceptVerdicts", fn := fun _ => fun
  | [d1, d2] => { results := [.lit (.bool true)], args := [d1, d2] }
  | _ => none }
def acceptVerdictsRow : OpenClaim := { program := "ytgffamdlnacamaadoor", sum := "0dd569a1956b0f3c9b8d66eab93b770e8917e44a072a387b90da348363f42bda", func := "lamplighter/lamplighterlaw11.AcceptVerdicts", spec := "acceptVerdicts", inPlace := ["internal/bytealg.IndexByteString", "internal/bytealg.IndexByte", "internal/bytealg.Index", "internal/abi.NoEscape"], unfollowed := true, recurses := true, named := ["internal/bytealg.MaxLen", "lamplighter/msh.versions", "lamplighter/frame.signs", "lamplighter/ack.codes"], apart := false, laid := [("lamplighter/frame.signs", laid_lamplighter_frame_signs), ("lamplighter/msh.versions", laid_lamplighter_msh_versions), ("lamplighter/ack.codes", laid_lamplighter_ack_codes)] }
def AcceptVerdictsSaid : Prop := acceptVerdictsRow.holds Tryd.pinned (OpenSpec.ofChange acceptVerdictsSpec)

/-- ITS FALSE NEIGHBOUR: 'it returns false'. Refute it at one input. -/
def acceptVerdictsWrong : ChangeSpec := { name := "acceptVerdicts", fn := fun _ => fun
  | [d1, d2] => { results := [.lit (.bool false)], args := [d1, d2] }
  | _ => none }
def AcceptVerdictsWrongFalsely : Prop := acceptVerdictsRow.holds Tryd.pinned (OpenSpec.ofChange acceptVerdictsWrong)

/-- 'lamplighterlaw11.AcceptAnswers': WHATEVER THE INPUT: true; the input reads as it did. -/
def acceptAnswersSpec : ChangeSpec := { name := "acceptAnswers", fn := fun _ => fun
  | [d1, d2] => { results := [.lit (.bool true)], args := [d1, d2] }
  | _ => none }
def acceptAnswersRow : OpenClaim := { program := "ytgffamdlnacamaadoor", sum := "0dd569a1956b0f3c9b8d66eab93b770e8917e44a072a387b90da348363f42bda", func := "lamplighter/lamplighterlaw11.AcceptAnswers", spec := "acceptAnswers", inPlace := ["internal/bytealg.IndexByteString", "internal/bytealg.IndexByte", "internal/bytealg.Index", "internal/abi.NoEscape"], unfollowed := true, recurses := true, named := ["internal/bytealg.MaxLen", "lamplighter/msh.versions", "lamplighter/frame.signs", "lamplighter/ack.codes"], apart := false, laid := [("lamplighter/frame.signs", laid_lamplighter_frame_signs), ("lamplighter/msh.versions", laid_lamplighter_msh_versions), ("lamplighter/ack.codes", laid_lamplighter_ack_codes)] }
def AcceptAnswersSaid : Prop := acceptAnswersRow.holds Tryd.pinned (OpenSpec.ofChange acceptAnswersSpec)

/-- ITS FALSE NEIGHBOUR: 'it returns false'. Refute it at one input. -/
def acceptAnswersWrong : ChangeSpec := { name := "acceptAnswers", fn := fun _ => fun
  | [d1, d2] => { results := [.lit (.bool false)], args := [d1, d2] }
  | _ => none }
def AcceptAnswersWrongFalsely : Prop := acceptAnswersRow.holds Tryd.pinned (OpenSpec.ofChange acceptAnswersWrong)

/-- 'lamplighterlaw11.AcceptHeads': WHATEVER THE INPUT: true; the input reads as it did. -/
def acceptHeadsSpec : ChangeSpec := { name := "acceptHeads", fn := fun _ => fun
  | [d1, d2] => { results := [.lit (.bool true)], args := [d1, d2] }
  | _ => none }
def acceptHeadsRow : OpenClaim := { program := "ytgffamdlnacamaadoor", sum := "0dd569a1956b0f3c9b8d66eab93b770e8917e44a072a387b90da348363f42bda", func := "lamplighter/lamplighterlaw11.AcceptHeads", spec := "acceptHeads", inPlace := ["internal/bytealg.IndexByteString", "internal/abi.NoEscape", "internal/bytealg.IndexByte", "internal/bytealg.Index"], unfollowed := true, recurses := true, named := ["internal/bytealg.MaxLen", "lamplighter/msh.versions", "lamplighter/frame.signs", "lamplighter/ack.codes"], apart := false, laid := [("lamplighter/frame.signs", laid_lamplighter_frame_signs), ("lamplighter/msh.versions", laid_lamplighter_msh_versions), ("lamplighter/ack.codes", laid_lamplighter_ack_codes)] }
def AcceptHeadsSaid : Prop := acceptHeadsRow.holds Tryd.pinned (OpenSpec.ofChange acceptHeadsSpec)

/-- ITS FALSE NEIGHBOUR: 'it returns false'. Refute it at one input. -/
def acceptHeadsWrong : ChangeSpec := { name := "acceptHeads", fn := fun _ => fun
  | [d1, d2] => { results := [.lit (.bool false)], args := [d1, d2] }
  | _ => none }
def AcceptHeadsWrongFalsely : Prop := acceptHeadsRow.holds Tryd.pinned (OpenSpec.ofChange acceptHeadsWrong)

/-- 'lamplighterlaw11.AcceptDrops': WHATEVER THE INPUT: true; the input reads as it did. -/
def acceptDropsSpec : ChangeSpec := { name := "acceptDrops", fn := fun _ => fun
  | [d1, d2] => { results := [.lit (.bool true)], args := [d1, d2] }
  | _ => none }
def acceptDropsRow : OpenClaim := { program := "ytgffamdlnacamaadoor", sum := "0dd569a1956b0f3c9b8d66eab93b770e8917e44a072a387b90da348363f42bda", func := "lamplighter/lamplighterlaw11.AcceptDrops", spec := "acceptDrops", inPlace := ["internal/bytealg.IndexByteString", "internal/bytealg.IndexByte", "internal/bytealg.Index", "internal/abi.NoEscape"], unfollowed := true, recurses := true, named := ["internal/bytealg.MaxLen", "lamplighter/msh.versions", "lamplighter/frame.signs", "lamplighter/ack.codes"], apart := false, laid := [("lamplighter/frame.signs", laid_lamplighter_frame_signs), ("lamplighter/msh.versions", laid_lamplighter_msh_versions), ("lamplighter/ack.codes", laid_lamplighter_ack_codes)] }
def AcceptDropsSaid : Prop := acceptDropsRow.holds Tryd.pinned (OpenSpec.ofChange acceptDropsSpec)

/-- ITS FALSE NEIGHBOUR: 'it returns false'. Refute it at one input. -/
def acceptDropsWrong : ChangeSpec := { name := "acceptDrops", fn := fun _ => fun
  | [d1, d2] => { results := [.lit (.bool false)], args := [d1, d2] }
  | _ => none }
def AcceptDropsWrongFalsely : Prop := acceptDropsRow.holds Tryd.pinned (OpenSpec.ofChange acceptDropsWrong)

/-- 'lamplighterlaw11.AcceptCodes': WHATEVER THE INPUT: true; the input reads as it did. -/
def acceptCodesSpec : ChangeSpec := { name := "acceptCodes", fn := fun _ => fun
  | [d1, d2, d3] => { results := [.lit (.bool true)], args := [d1, d2, d3] }
  | _ => none }
def acceptCodesRow : OpenClaim := { program := "ytgffamdlnacamaadoor", sum := "0dd569a1956b0f3c9b8d66eab93b770e8917e44a072a387b90da348363f42bda", func := "lamplighter/lamplighterlaw11.AcceptCodes", spec := "acceptCodes", inPlace := ["internal/bytealg.IndexByteString", "internal/bytealg.IndexByte", "internal/bytealg.Index", "internal/abi.NoEscape"], unfollowed := true, recurses := true, named := ["internal/bytealg.MaxLen", "lamplighter/msh.versions", "lamplighter/frame.signs", "lamplighter/ack.codes"], apart := false, laid := [("lamplighter/frame.signs", laid_lamplighter_frame_signs), ("lamplighter/msh.versions", laid_lamplighter_msh_versions), ("lamplighter/ack.codes", laid_lamplighter_ack_codes)] }
def AcceptCodesSaid : Prop := acceptCodesRow.holds Tryd.pinned (OpenSpec.ofChange acceptCodesSpec)

/-- ITS FALSE NEIGHBOUR: 'it returns false'. Refute it at one input. -/
def acceptCodesWrong : ChangeSpec := { name := "acceptCodes", fn := fun _ => fun
  | [d1, d2, d3] => { results := [.lit (.bool false)], args := [d1, d2, d3] }
  | _ => none }
def AcceptCodesWrongFalsely : Prop := acceptCodesRow.holds Tryd.pinned (OpenSpec.ofChange acceptCodesWrong)

/-- 'lamplighterlaw11.AcceptPure': WHATEVER THE INPUT: true; the input reads as it did. -/
def acceptPureSpec : ChangeSpec := { name := "acceptPure", fn := fun _ => fun
  | [d1, d2] => { results := [.lit (.bool true)], args := [d1, d2] }
  | _ => none }
def acceptPureRow : OpenClaim := { program := "ytgffamdlnacamaadoor", sum := "0dd569a1956b0f3c9b8d66eab93b770e8917e44a072a387b90da348363f42bda", func := "lamplighter/lamplighterlaw11.AcceptPure", spec := "acceptPure", inPlace := ["internal/bytealg.IndexByteString", "internal/bytealg.IndexByte", "internal/bytealg.Index", "internal/abi.NoEscape"], unfollowed := true, recurses := true, named := ["internal/bytealg.MaxLen", "lamplighter/msh.versions", "lamplighter/frame.signs", "lamplighter/ack.codes"], apart := false, laid := [("lamplighter/frame.signs", laid_lamplighter_frame_signs), ("lamplighter/msh.versions", laid_lamplighter_msh_versions), ("lamplighter/ack.codes", laid_lamplighter_ack_codes)] }
def AcceptPureSaid : Prop := acceptPureRow.holds Tryd.pinned (OpenSpec.ofChange acceptPureSpec)

/-- ITS FALSE NEIGHBOUR: 'it returns false'. Refute it at one input. -/
def acceptPureWrong : ChangeSpec := { name := "acceptPure", fn := fun _ => fun
  | [d1, d2] => { results := [.lit (.bool false)], args := [d1, d2] }
  | _ => none }
def AcceptPureWrongFalsely : Prop := acceptPureRow.holds Tryd.pinned (OpenSpec.ofChange acceptPureWrong)

/- THE SECOND FORM. 'bulk': how many values and letters a reading holds, each counted each time it is reached (what is shared counts as often as it is met; a slice's spare places count too). A statement '..UptoSaid' is the law's where the arguments, and the package variables that the reading takes, are together of bulk at most 1048576: NARROWER than '..Said'. Prove '..Said' where nothing that the law and all that it calls make is longer than what came in: it says more and counts as full. Else prove '..UptoSaid'. A law counts once. -/
mutual
def uptoBulk {H : Type} : DataW H → Nat
  | .lit (.string bytes) => bytes.length + 1
  | .lit _ => 1
  | .nil => 1
  | .ptr d => uptoBulk d + 1
  | .slice elems spare => uptoBulkAll elems + uptoBulkAll spare + 1
  | .agg parts => uptoBulkAll parts + 1
  | .iface _ d => uptoBulk d + 1
  | .map entries => uptoBulkEntries entries + 1
  | .held _ => 1
def uptoBulkAll {H : Type} : List (DataW H) → Nat
  | [] => 0
  | d :: r => uptoBulk d + uptoBulkAll r
def uptoBulkEntries {H : Type} : List (Lit × DataW H) → Nat
  | [] => 0
  | x :: r => uptoBulkEntry x + uptoBulkEntries r
def uptoBulkEntry {H : Type} : Lit × DataW H → Nat
  | (.string bytes, d) => bytes.length + uptoBulk d + 1
  | (_, d) => uptoBulk d + 1
 end
def uptoSmall : (H : Type) → List (DataW H) → Bool := fun _ ds => decide (uptoBulkAll ds ≤ 1048576)
def OpenSpec.upto (s : _root_.Go.ChangeSpec) : _root_.Go.OpenSpec := { _root_.Go.OpenSpec.ofChange s with cond := some uptoSmall }

/-- 'lamplighterlaw11.AcceptVerdicts', WHERE WHAT IT READS IS OF BULK AT MOST 1048576: true; the input reads as it did. -/
def acceptVerdictsUptoRow : OpenClaim := { program := "ytgffamdlnacamaadoor", sum := "0dd569a1956b0f3c9b8d66eab93b770e8917e44a072a387b90da348363f42bda", func := "lamplighter/lamplighterlaw11.AcceptVerdicts", spec := "acceptVerdicts", inPlace := ["internal/bytealg.IndexByteString", "internal/bytealg.IndexByte", "internal/bytealg.Index", "internal/abi.NoEscape"], unfollowed := true, recurses := true, named := ["internal/bytealg.MaxLen", "lamplighter/msh.versions", "lamplighter/frame.signs", "lamplighter/ack.codes"], apart := false, laid := [("lamplighter/frame.signs", laid_lamplighter_frame_signs), ("lamplighter/msh.versions", laid_lamplighter_msh_versions), ("lamplighter/ack.codes", laid_lamplighter_ack_codes)], narrowed := true }
def AcceptVerdictsUptoSaid : Prop := acceptVerdictsUptoRow.holds Tryd.pinned (OpenSpec.upto acceptVerdictsSpec)

/-- 'lamplighterlaw11.AcceptAnswers', WHERE WHAT IT READS IS OF BULK AT MOST 1048576: true; the input reads as it did. -/
def acceptAnswersUptoRow : OpenClaim := { program := "ytgffamdlnacamaadoor", sum := "0dd569a1956b0f3c9b8d66eab93b770e8917e44a072a387b90da348363f42bda", func := "lamplighter/lamplighterlaw11.AcceptAnswers", spec := "acceptAnswers", inPlace := ["internal/bytealg.IndexByteString", "internal/bytealg.IndexByte", "internal/bytealg.Index", "internal/abi.NoEscape"], unfollowed := true, recurses := true, named := ["internal/bytealg.MaxLen", "lamplighter/msh.versions", "lamplighter/frame.signs", "lamplighter/ack.codes"], apart := false, laid := [("lamplighter/frame.signs", laid_lamplighter_frame_signs), ("lamplighter/msh.versions", laid_lamplighter_msh_versions), ("lamplighter/ack.codes", laid_lamplighter_ack_codes)], narrowed := true }
def AcceptAnswersUptoSaid : Prop := acceptAnswersUptoRow.holds Tryd.pinned (OpenSpec.upto acceptAnswersSpec)

/-- 'lamplighterlaw11.AcceptHeads', WHERE WHAT IT READS IS OF BULK AT MOST 1048576: true; the input reads as it did. -/
def acceptHeadsUptoRow : OpenClaim := { program := "ytgffamdlnacamaadoor", sum := "0dd569a1956b0f3c9b8d66eab93b770e8917e44a072a387b90da348363f42bda", func := "lamplighter/lamplighterlaw11.AcceptHeads", spec := "acceptHeads", inPlace := ["internal/bytealg.IndexByteString", "internal/abi.NoEscape", "internal/bytealg.IndexByte", "internal/bytealg.Index"], unfollowed := true, recurses := true, named := ["internal/bytealg.MaxLen", "lamplighter/msh.versions", "lamplighter/frame.signs", "lamplighter/ack.codes"], apart := false, laid := [("lamplighter/frame.signs", laid_lamplighter_frame_signs), ("lamplighter/msh.versions", laid_lamplighter_msh_versions), ("lamplighter/ack.codes", laid_lamplighter_ack_codes)], narrowed := true }
def AcceptHeadsUptoSaid : Prop := acceptHeadsUptoRow.holds Tryd.pinned (OpenSpec.upto acceptHeadsSpec)

/-- 'lamplighterlaw11.AcceptDrops', WHERE WHAT IT READS IS OF BULK AT MOST 1048576: true; the input reads as it did. -/
def acceptDropsUptoRow : OpenClaim := { program := "ytgffamdlnacamaadoor", sum := "0dd569a1956b0f3c9b8d66eab93b770e8917e44a072a387b90da348363f42bda", func := "lamplighter/lamplighterlaw11.AcceptDrops", spec := "acceptDrops", inPlace := ["internal/bytealg.IndexByteString", "internal/bytealg.IndexByte", "internal/bytealg.Index", "internal/abi.NoEscape"], unfollowed := true, recurses := true, named := ["internal/bytealg.MaxLen", "lamplighter/msh.versions", "lamplighter/frame.signs", "lamplighter/ack.codes"], apart := false, laid := [("lamplighter/frame.signs", laid_lamplighter_frame_signs), ("lamplighter/msh.versions", laid_lamplighter_msh_versions), ("lamplighter/ack.codes", laid_lamplighter_ack_codes)], narrowed := true }
def AcceptDropsUptoSaid : Prop := acceptDropsUptoRow.holds Tryd.pinned (OpenSpec.upto acceptDropsSpec)

/-- 'lamplighterlaw11.AcceptCodes', WHERE WHAT IT READS IS OF BULK AT MOST 1048576: true; the input reads as it did. -/
def acceptCodesUptoRow : OpenClaim := { program := "ytgffamdlnacamaadoor", sum := "0dd569a1956b0f3c9b8d66eab93b770e8917e44a072a387b90da348363f42bda", func := "lamplighter/lamplighterlaw11.AcceptCodes", spec := "acceptCodes", inPlace := ["internal/bytealg.IndexByteString", "internal/bytealg.IndexByte", "internal/bytealg.Index", "internal/abi.NoEscape"], unfollowed := true, recurses := true, named := ["internal/bytealg.MaxLen", "lamplighter/msh.versions", "lamplighter/frame.signs", "lamplighter/ack.codes"], apart := false, laid := [("lamplighter/frame.signs", laid_lamplighter_frame_signs), ("lamplighter/msh.versions", laid_lamplighter_msh_versions), ("lamplighter/ack.codes", laid_lamplighter_ack_codes)], narrowed := true }
def AcceptCodesUptoSaid : Prop := acceptCodesUptoRow.holds Tryd.pinned (OpenSpec.upto acceptCodesSpec)

/-- 'lamplighterlaw11.AcceptPure', WHERE WHAT IT READS IS OF BULK AT MOST 1048576: true; the input reads as it did. -/
def acceptPureUptoRow : OpenClaim := { program := "ytgffamdlnacamaadoor", sum := "0dd569a1956b0f3c9b8d66eab93b770e8917e44a072a387b90da348363f42bda", func := "lamplighter/lamplighterlaw11.AcceptPure", spec := "acceptPure", inPlace := ["internal/bytealg.IndexByteString", "internal/bytealg.IndexByte", "internal/bytealg.Index", "internal/abi.NoEscape"], unfollowed := true, recurses := true, named := ["internal/bytealg.MaxLen", "lamplighter/msh.versions", "lamplighter/frame.signs", "lamplighter/ack.codes"], apart := false, laid := [("lamplighter/frame.signs", laid_lamplighter_frame_signs), ("lamplighter/msh.versions", laid_lamplighter_msh_versions), ("lamplighter/ack.codes", laid_lamplighter_ack_codes)], narrowed := true }
def AcceptPureUptoSaid : Prop := acceptPureUptoRow.holds Tryd.pinned (OpenSpec.upto acceptPureSpec)

end Rows
end Go.Proofs.YtgffamdlnacamaaDoor
