/-
  NARROWER THAN 'FOR EVERY INPUT', by the rows' own cells (each row's printed sentence says how): FrameCuts: laid · DeframeBack: laid · DeframeBreaks: laid.
  DERIVED. THE GIVEN ROWS OF THIS SEAT. 3 by the template 'for every input the law returns true; each argument reads behind the call as it read before'; 0 by the template 'total and deterministic' (their statements: YtncohbnlbjmadaaDoorTotals.lean).
  GIVEN WITH THE SEED: the statements are not yours to turn. If you find one false, say at which input.
  Laid BY PROGRAM, IN A SANDBOX (cutbox-rows.mjs): the forced cells as the released guide's own fill.sh prints them over the translation 5a43e43f9d062aae… (all of the seat's roots in one cut). By AI agents, Wed Nov 11 2026. No macro, syntax, notation, axiom, sorry.
-/
import Derived.Test.YtncohbnlbjmadaaDoorChecked
import GoSem.Claim
import GoSem.ClaimJoined
import GoSem.ClaimMapViews
import Derived.JoinedTies
import Derived.KernelRfl
namespace Go.Proofs.YtncohbnlbjmadaaDoor
/- THE CELL 'sum', in the pinned program and in every row, IS THE sha256 OF THE DUMP (.gsa) THAT YtncohbnlbjmadaaDoorProg.lean LOADS. Nothing in Lean hashes anything: it is a label: what it is worth is what the hold of that sum in a sandbox is worth. -/
noncomputable def Tryd.pinned : Pinned := { name := "ytncohbnlbjmadaadoor", sum := "5a43e43f9d062aae7570110d259d5e19778113887f08785455d0718fe91f8b3f", checked := Tryd.checked }
namespace Rows
def none {H : Type} : Left H := { results := [], args := [] }

/- WHAT THE LISTED PACKAGE-LEVEL VARIABLES READ AS WHEN THE CALL BEGINS. Each datum BY PROGRAM (the guide's laid-datum.mjs) off the statement by which the dump's own 'gosem.cut.vars' lays the variable. In a bare row this is a premise. The card (YtncohbnlbjmadaaDoorCards.lean) ties it to the program's text. -/
def laid_lamplighter_frame_signs {H : Type} : DataW H := .agg [.lit (.int .u8 11), .lit (.int .u8 28), .lit (.int .u8 13)]

/-- 'lamplighterlaw04.FrameCuts': WHATEVER THE INPUT: true; the input reads as it did. -/
def frameCutsSpec : ChangeSpec := { name := "frameCuts", fn := fun _ => fun
  | [d1, d2] => { results := [.lit (.bool true)], args := [d1, d2] }
  | _ => none }
def frameCutsRow : OpenClaim := { program := "ytncohbnlbjmadaadoor", sum := "5a43e43f9d062aae7570110d259d5e19778113887f08785455d0718fe91f8b3f", func := "lamplighter/lamplighterlaw04.FrameCuts", spec := "frameCuts", inPlace := ["internal/bytealg.IndexByte"], named := ["lamplighter/frame.signs"], apart := false, laid := [("lamplighter/frame.signs", laid_lamplighter_frame_signs)] }
def FrameCutsSaid : Prop := frameCutsRow.holds Tryd.pinned (OpenSpec.ofChange frameCutsSpec)

/-- ITS FALSE NEIGHBOUR: 'it returns false'. Refute it at one input. -/
def frameCutsWrong : ChangeSpec := { name := "frameCuts", fn := fun _ => fun
  | [d1, d2] => { results := [.lit (.bool false)], args := [d1, d2] }
  | _ => none }
def FrameCutsWrongFalsely : Prop := frameCutsRow.holds Tryd.pinned (OpenSpec.ofChange frameCutsWrong)

/-- 'lamplighterlaw05.DeframeBack': WHATEVER THE INPUT: true; the input reads as it did. -/
def deframeBackSpec : ChangeSpec := { name := "deframeBack", fn := fun _ => fun
  | [d1, d2, d3] => { results := [.lit (.bool true)], args := [d1, d2, d3] }
  | _ => none }
def deframeBackRow : OpenClaim := { program := "ytncohbnlbjmadaadoor", sum := "5a43e43f9d062aae7570110d259d5e19778113887f08785455d0718fe91f8b3f", func := "lamplighter/lamplighterlaw05.DeframeBack", spec := "deframeBack", inPlace := ["internal/bytealg.IndexByte"], unfollowed := true, recurses := true, named := ["lamplighter/frame.signs"], apart := false, laid := [("lamplighter/frame.signs", laid_lamplighter_frame_signs)] }
def DeframeBackSaid : Prop := deframeBackRow.holds Tryd.pinned (OpenSpec.ofChange deframeBackSpec)

/-- ITS FALSE NEIGHBOUR: 'it returns false'. Refute it at one input. -/
def deframeBackWrong : ChangeSpec := { name := "deframeBack", fn := fun _ => fun
  | [d1, d2, d3] => { results := [.lit (.bool false)], args := [d1, d2, d3] }
  | _ => none }
def DeframeBackWrongFalsely : Prop := deframeBackRow.holds Tryd.pinned (OpenSpec.ofChange deframeBackWrong)

/-- 'lamplighterlaw05.DeframeBreaks': WHATEVER THE INPUT: true; the input reads as it did. -/
def deframeBreaksSpec : ChangeSpec := { name := "deframeBreaks", fn := fun _ => fun
  | [d1, d2, d3] => { results := [.lit (.bool true)], args := [d1, d2, d3] }
  | _ => none }
def deframeBreaksRow : OpenClaim := { program := "ytncohbnlbjmadaadoor", sum := "5a43e43f9d062aae7570110d259d5e19778113887f08785455d0718fe91f8b3f", func := "lamplighter/lamplighterlaw05.DeframeBreaks", spec := "deframeBreaks", inPlace := ["internal/bytealg.IndexByte"], unfollowed := true, recurses := true, named := ["lamplighter/frame.signs"], apart := false, laid := [("lamplighter/frame.signs", laid_lamplighter_frame_signs)] }
def DeframeBreaksSaid : Prop := deframeBreaksRow.holds Tryd.pinned (OpenSpec.ofChange deframeBreaksSpec)

/-- ITS FALSE NEIGHBOUR: 'it returns false'. Refute it at one input. -/
def deframeBreaksWrong : ChangeSpec := { name := "deframeBreaks", fn := fun _ => fun
  | [d1, d2, d3] => { results := [.lit (.bool false)], args := [d1, d2, d3] }
  | _ => none }
def DeframeBreaksWrongFalsely : Prop := deframeBreaksRow.holds Tryd.pinned (OpenSpec.ofChange deframeBreaksWrong)

/- THE SECOND FORM. 'bulk': how many values and letters a reading holds, each counted each time it is reached (what is shared counts as often as it is met; a slice's spare places count too). A statement '..UptoSaid' is the law's where the arguments, and the package variables that the reading takes, are together of bulk at most 1048576: NARROWER than '..Said'. Prove '..Said' where nothing that the law and all that it calls make is longer than what came in: it says more and counts as full. Else prove '..UptoSaid'. A law counts once. -/
mutual
def uptoBulk {H : Type} : DataW H → Nat
  | .lit (.string bytes) => bytes.length + 1
  | .lit _ => 1
  | .nil => 1
  | .ptr d => uptoBulk d + 1
  | .slice elems spare => uptoBulkAll elems + uptoBulkAll spare + 1
  | .agg parts => uptoBulkAll parts + 1
  | .iface _ d => uptoBulk d + 1
  | .map entries => uptoBulkEntries entries + 1
  | .held _ => 1
def uptoBulkAll {H : Type} : List (DataW H) → Nat
  | [] => 0
  | d :: r => uptoBulk d + uptoBulkAll r
def uptoBulkEntries {H : Type} : List (Lit × DataW H) → Nat
  | [] => 0
  | x :: r => uptoBulkEntry x + uptoBulkEntries r
def uptoBulkEntry {H : Type} : Lit × DataW H → Nat
  | (.string bytes, d) => bytes.length + uptoBulk d + 1
  | (_, d) => uptoBulk d + 1
 end
def uptoSmall : (H : Type) → List (DataW H) → Bool := fun _ ds => decide (uptoBulkAll ds ≤ 1048576)
def OpenSpec.upto (s : _root_.Go.ChangeSpec) : _root_.Go.OpenSpec := { _root_.Go.OpenSpec.ofChange s with cond := some uptoSmall }

/-- 'lamplighterlaw04.FrameCuts', WHERE WHAT IT READS IS OF BULK AT MOST 1048576: true; the input reads as it did. -/
def frameCutsUptoRow : OpenClaim := { program := "ytncohbnlbjmadaadoor", sum := "5a43e43f9d062aae7570110d259d5e19778113887f08785455d0718fe91f8b3f", func := "lamplighter/lamplighterlaw04.FrameCuts", spec := "frameCuts", inPlace := ["internal/bytealg.IndexByte"], named := ["lamplighter/frame.signs"], apart := false, laid := [("lamplighter/frame.signs", laid_lamplighter_frame_signs)], narrowed := true }
def FrameCutsUptoSaid : Prop := frameCutsUptoRow.holds Tryd.pinned (OpenSpec.upto frameCutsSpec)

/-- 'lamplighterlaw05.DeframeBack', WHERE WHAT IT READS IS OF BULK AT MOST 1048576: true; the input reads as it did. -/
def deframeBackUptoRow : OpenClaim := { program := "ytncohbnlbjmadaadoor", sum := "5a43e43f9d062aae7570110d259d5e19778113887f08785455d0718fe91f8b3f", func := "lamplighter/lamplighterlaw05.DeframeBack", spec := "deframeBack", inPlace := ["internal/bytealg.IndexByte"], unfollowed := true, recurses := true, named := ["lamplighter/frame.signs"], apart := false, laid := [("lamplighter/frame.signs", laid_lamplighter_frame_signs)], narrowed := true }
def DeframeBackUptoSaid : Prop := deframeBackUptoRow.holds Tryd.pinned (OpenSpec.upto deframeBackSpec)

/-- 'lamplighterlaw05.DeframeBreaks', WHERE WHAT IT READS IS OF BULK AT MOST 1048576: true; the input reads as it did. -/
def deframeBreaksUptoRow : OpenClaim := { program := "ytncohbnlbjmadaadoor", sum := "5a43e43f9d062aae7570110d259d5e19778113887f08785455d0718fe91f8b3f", func := "lamplighter/lamplighterlaw05.DeframeBreaks", spec := "deframeBreaks", inPlace := ["internal/bytealg.IndexByte"], unfollowed := true, recurses := true, named := ["lamplighter/frame.signs"], apart := false, laid := [("lamplighter/frame.signs", laid_lamplighter_frame_signs)], narrowed := true }
def DeframeBreaksUptoSaid : Prop := deframeBreaksUptoRow.holds Tryd.pinned (OpenSpec.upto deframeBreaksSpec)

end Rows
end Go.Proofs.YtncohbnlbjmadaaDoor
