/-
  DERIVED. GIVEN WITH THE SEED: THE CARDS: each row of YtgffamdlnacamaaDoorRows.lean that lists a variable, with what it lists TIED to the program's text (the seventh form; the later family's looks); each row that meets fmt, with fmt's text TOLD by the authors' own Lean function (tested against real Go, not proved from fmt's source: count such statements apart). THE CARD IS WHAT COUNTS. Prove the row's statement (the work); the ties are given (YtgffamdlnacamaaDoorTie.lean); close each card by the builder's one call (the guide's Derived/Test/ToyasCard.lean, 'card_holds'). Laid BY PROGRAM, IN A SANDBOX (cutbox-door.mjs). By AI agents, Wed Nov 11 2026. No macro, syntax, notation, axiom, sorry.
-/
import Derived.Test.YtgffamdlnacamaaDoorRows
import GoSem.ClaimSeven
namespace Go.Proofs.YtgffamdlnacamaaDoor
namespace Rows

/-- THE TIED CARD OF 'lamplighterlaw11.AcceptVerdicts'. -/
def acceptVerdictsCard : Claim7 := { stood := { row := acceptVerdictsRow, standIns := [], harness := (true, "f1ada2cfc49f1d3c1f4bd266ca85d5151d5300d13557dd84ec3922a7963ca3d7"), looks := false }, kinds := [], alts := [], laidByText := true, laidKinds := [.data, .data, .data], laidTests := true, laidLooks := .later }
def AcceptVerdictsCardSaid : Prop := Claim7.holds Tryd.pinned (.plain (OpenSpec.ofChange acceptVerdictsSpec)) acceptVerdictsCard

/-- THE TIED CARD OF 'lamplighterlaw11.AcceptAnswers'. -/
def acceptAnswersCard : Claim7 := { stood := { row := acceptAnswersRow, standIns := [], harness := (true, "f1ada2cfc49f1d3c1f4bd266ca85d5151d5300d13557dd84ec3922a7963ca3d7"), looks := false }, kinds := [], alts := [], laidByText := true, laidKinds := [.data, .data, .data], laidTests := true, laidLooks := .later }
def AcceptAnswersCardSaid : Prop := Claim7.holds Tryd.pinned (.plain (OpenSpec.ofChange acceptAnswersSpec)) acceptAnswersCard

/-- THE TIED CARD OF 'lamplighterlaw11.AcceptHeads'. -/
def acceptHeadsCard : Claim7 := { stood := { row := acceptHeadsRow, standIns := [], harness := (true, "f1ada2cfc49f1d3c1f4bd266ca85d5151d5300d13557dd84ec3922a7963ca3d7"), looks := false }, kinds := [], alts := [], laidByText := true, laidKinds := [.data, .data, .data], laidTests := true, laidLooks := .later }
def AcceptHeadsCardSaid : Prop := Claim7.holds Tryd.pinned (.plain (OpenSpec.ofChange acceptHeadsSpec)) acceptHeadsCard

/-- THE TIED CARD OF 'lamplighterlaw11.AcceptDrops'. -/
def acceptDropsCard : Claim7 := { stood := { row := acceptDropsRow, standIns := [], harness := (true, "f1ada2cfc49f1d3c1f4bd266ca85d5151d5300d13557dd84ec3922a7963ca3d7"), looks := false }, kinds := [], alts := [], laidByText := true, laidKinds := [.data, .data, .data], laidTests := true, laidLooks := .later }
def AcceptDropsCardSaid : Prop := Claim7.holds Tryd.pinned (.plain (OpenSpec.ofChange acceptDropsSpec)) acceptDropsCard

/-- THE TIED CARD OF 'lamplighterlaw11.AcceptCodes'. -/
def acceptCodesCard : Claim7 := { stood := { row := acceptCodesRow, standIns := [], harness := (true, "f1ada2cfc49f1d3c1f4bd266ca85d5151d5300d13557dd84ec3922a7963ca3d7"), looks := false }, kinds := [], alts := [], laidByText := true, laidKinds := [.data, .data, .data], laidTests := true, laidLooks := .later }
def AcceptCodesCardSaid : Prop := Claim7.holds Tryd.pinned (.plain (OpenSpec.ofChange acceptCodesSpec)) acceptCodesCard

/-- THE TIED CARD OF 'lamplighterlaw11.AcceptPure'. -/
def acceptPureCard : Claim7 := { stood := { row := acceptPureRow, standIns := [], harness := (true, "f1ada2cfc49f1d3c1f4bd266ca85d5151d5300d13557dd84ec3922a7963ca3d7"), looks := false }, kinds := [], alts := [], laidByText := true, laidKinds := [.data, .data, .data], laidTests := true, laidLooks := .later }
def AcceptPureCardSaid : Prop := Claim7.holds Tryd.pinned (.plain (OpenSpec.ofChange acceptPureSpec)) acceptPureCard

/-- THE SECOND FORM's CARD OF 'lamplighterlaw11.AcceptVerdicts'. -/
def acceptVerdictsUptoCard : Claim7 := { stood := { row := acceptVerdictsUptoRow, standIns := [], harness := (true, "f1ada2cfc49f1d3c1f4bd266ca85d5151d5300d13557dd84ec3922a7963ca3d7"), looks := false }, kinds := [], alts := [], laidByText := true, laidKinds := [.data, .data, .data], laidTests := true, laidLooks := .later }
def AcceptVerdictsUptoCardSaid : Prop := Claim7.holds Tryd.pinned (.plain (OpenSpec.upto acceptVerdictsSpec)) acceptVerdictsUptoCard

/-- THE SECOND FORM's CARD OF 'lamplighterlaw11.AcceptAnswers'. -/
def acceptAnswersUptoCard : Claim7 := { stood := { row := acceptAnswersUptoRow, standIns := [], harness := (true, "f1ada2cfc49f1d3c1f4bd266ca85d5151d5300d13557dd84ec3922a7963ca3d7"), looks := false }, kinds := [], alts := [], laidByText := true, laidKinds := [.data, .data, .data], laidTests := true, laidLooks := .later }
def AcceptAnswersUptoCardSaid : Prop := Claim7.holds Tryd.pinned (.plain (OpenSpec.upto acceptAnswersSpec)) acceptAnswersUptoCard

/-- THE SECOND FORM's CARD OF 'lamplighterlaw11.AcceptHeads'. -/
def acceptHeadsUptoCard : Claim7 := { stood := { row := acceptHeadsUptoRow, standIns := [], harness := (true, "f1ada2cfc49f1d3c1f4bd266ca85d5151d5300d13557dd84ec3922a7963ca3d7"), looks := false }, kinds := [], alts := [], laidByText := true, laidKinds := [.data, .data, .data], laidTests := true, laidLooks := .later }
def AcceptHeadsUptoCardSaid : Prop := Claim7.holds Tryd.pinned (.plain (OpenSpec.upto acceptHeadsSpec)) acceptHeadsUptoCard

/-- THE SECOND FORM's CARD OF 'lamplighterlaw11.AcceptDrops'. -/
def acceptDropsUptoCard : Claim7 := { stood := { row := acceptDropsUptoRow, standIns := [], harness := (true, "f1ada2cfc49f1d3c1f4bd266ca85d5151d5300d13557dd84ec3922a7963ca3d7"), looks := false }, kinds := [], alts := [], laidByText := true, laidKinds := [.data, .data, .data], laidTests := true, laidLooks := .later }
def AcceptDropsUptoCardSaid : Prop := Claim7.holds Tryd.pinned (.plain (OpenSpec.upto acceptDropsSpec)) acceptDropsUptoCard

/-- THE SECOND FORM's CARD OF 'lamplighterlaw11.AcceptCodes'. -/
def acceptCodesUptoCard : Claim7 := { stood := { row := acceptCodesUptoRow, standIns := [], harness := (true, "f1ada2cfc49f1d3c1f4bd266ca85d5151d5300d13557dd84ec3922a7963ca3d7"), looks := false }, kinds := [], alts := [], laidByText := true, laidKinds := [.data, .data, .data], laidTests := true, laidLooks := .later }
def AcceptCodesUptoCardSaid : Prop := Claim7.holds Tryd.pinned (.plain (OpenSpec.upto acceptCodesSpec)) acceptCodesUptoCard

/-- THE SECOND FORM's CARD OF 'lamplighterlaw11.AcceptPure'. -/
def acceptPureUptoCard : Claim7 := { stood := { row := acceptPureUptoRow, standIns := [], harness := (true, "f1ada2cfc49f1d3c1f4bd266ca85d5151d5300d13557dd84ec3922a7963ca3d7"), looks := false }, kinds := [], alts := [], laidByText := true, laidKinds := [.data, .data, .data], laidTests := true, laidLooks := .later }
def AcceptPureUptoCardSaid : Prop := Claim7.holds Tryd.pinned (.plain (OpenSpec.upto acceptPureSpec)) acceptPureUptoCard
end Rows
end Go.Proofs.YtgffamdlnacamaaDoor
