/-
  DERIVED. GIVEN WITH THE SEED: THE CARDS: each row of YtncohbnlbjmadaaDoorRows.lean that lists a variable, with what it lists TIED to the program's text (the seventh form; the later family's looks); each row that meets fmt, with fmt's text TOLD by the authors' own Lean function (tested against real Go, not proved from fmt's source: count such statements apart). THE CARD IS WHAT COUNTS. Prove the row's statement (the work); the ties are given (YtncohbnlbjmadaaDoorTie.lean); close each card by the builder's one call (the guide's Derived/Test/ToyasCard.lean, 'card_holds'). Laid BY PROGRAM, IN A SANDBOX (cutbox-door.mjs). By AI agents, Wed Nov 11 2026. No macro, syntax, notation, axiom, sorry.
-/
import Derived.Test.YtncohbnlbjmadaaDoorRows
import GoSem.ClaimSeven
namespace Go.Proofs.YtncohbnlbjmadaaDoor
namespace Rows

/-- THE TIED CARD OF 'lamplighterlaw04.FrameCuts'. -/
def frameCutsCard : Claim7 := { stood := { row := frameCutsRow, standIns := [], harness := (true, "478b38ef1dbde293574b651b2850c330f1427d0a56c146847bd8def0508a6a9e"), looks := false }, kinds := [], alts := [], laidByText := true, laidKinds := [.data], laidTests := true, laidLooks := .later }
def FrameCutsCardSaid : Prop := Claim7.holds Tryd.pinned (.plain (OpenSpec.ofChange frameCutsSpec)) frameCutsCard

/-- THE TIED CARD OF 'lamplighterlaw05.DeframeBack'. -/
def deframeBackCard : Claim7 := { stood := { row := deframeBackRow, standIns := [], harness := (true, "478b38ef1dbde293574b651b2850c330f1427d0a56c146847bd8def0508a6a9e"), looks := false }, kinds := [], alts := [], laidByText := true, laidKinds := [.data], laidTests := true, laidLooks := .later }
def DeframeBackCardSaid : Prop := Claim7.holds Tryd.pinned (.plain (OpenSpec.ofChange deframeBackSpec)) deframeBackCard

/-- THE TIED CARD OF 'lamplighterlaw05.DeframeBreaks'. -/
def deframeBreaksCard : Claim7 := { stood := { row := deframeBreaksRow, standIns := [], harness := (true, "478b38ef1dbde293574b651b2850c330f1427d0a56c146847bd8def0508a6a9e"), looks := false }, kinds := [], alts := [], laidByText := true, laidKinds := [.data], laidTests := true, laidLooks := .later }
def DeframeBreaksCardSaid : Prop := Claim7.holds Tryd.pinned (.plain (OpenSpec.ofChange deframeBreaksSpec)) deframeBreaksCard

/-- THE SECOND FORM's CARD OF 'lamplighterlaw04.FrameCuts'. -/
def frameCutsUptoCard : Claim7 := { stood := { row := frameCutsUptoRow, standIns := [], harness := (true, "478b38ef1dbde293574b651b2850c330f1427d0a56c146847bd8def0508a6a9e"), looks := false }, kinds := [], alts := [], laidByText := true, laidKinds := [.data], laidTests := true, laidLooks := .later }
def FrameCutsUptoCardSaid : Prop := Claim7.holds Tryd.pinned (.plain (OpenSpec.upto frameCutsSpec)) frameCutsUptoCard

/-- THE SECOND FORM's CARD OF 'lamplighterlaw05.DeframeBack'. -/
def deframeBackUptoCard : Claim7 := { stood := { row := deframeBackUptoRow, standIns := [], harness := (true, "478b38ef1dbde293574b651b2850c330f1427d0a56c146847bd8def0508a6a9e"), looks := false }, kinds := [], alts := [], laidByText := true, laidKinds := [.data], laidTests := true, laidLooks := .later }
def DeframeBackUptoCardSaid : Prop := Claim7.holds Tryd.pinned (.plain (OpenSpec.upto deframeBackSpec)) deframeBackUptoCard

/-- THE SECOND FORM's CARD OF 'lamplighterlaw05.DeframeBreaks'. -/
def deframeBreaksUptoCard : Claim7 := { stood := { row := deframeBreaksUptoRow, standIns := [], harness := (true, "478b38ef1dbde293574b651b2850c330f1427d0a56c146847bd8def0508a6a9e"), looks := false }, kinds := [], alts := [], laidByText := true, laidKinds := [.data], laidTests := true, laidLooks := .later }
def DeframeBreaksUptoCardSaid : Prop := Claim7.holds Tryd.pinned (.plain (OpenSpec.upto deframeBreaksSpec)) deframeBreaksUptoCard
end Rows
end Go.Proofs.YtncohbnlbjmadaaDoor
