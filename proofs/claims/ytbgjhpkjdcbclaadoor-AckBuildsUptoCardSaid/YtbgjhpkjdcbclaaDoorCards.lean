/-
  DERIVED. GIVEN WITH THE SEED: THE CARDS: each row of YtbgjhpkjdcbclaaDoorRows.lean that lists a variable, with what it lists TIED to the program's text (the seventh form; the later family's looks); each row that meets fmt, with fmt's text TOLD by the authors' own Lean function (tested against real Go, not proved from fmt's source: count such statements apart). THE CARD IS WHAT COUNTS. Prove the row's statement (the work); the ties are given (YtbgjhpkjdcbclaaDoorTie.lean); close each card by the builder's one call (the guide's Derived/Test/ToyasCard.lean, 'card_holds'). Laid BY PROGRAM, IN A SANDBOX (cutbox-door.mjs). By AI agents, Wed Nov 11 2026. No macro, syntax, notation, axiom, sorry.
-/
import Derived.Test.YtbgjhpkjdcbclaaDoorRows
import GoSem.ClaimSeven
namespace Go.Proofs.YtbgjhpkjdcbclaaDoor
namespace Rows

/-- THE TIED CARD OF 'lamplighterlaw10.AckBuilds'. -/
def ackBuildsCard : Claim7 := { stood := { row := ackBuildsRow, standIns := [], harness := (true, "751121f7289fb78d0337d74a05ee7e287f4d2a06628c87b726574da38f90b9b7"), looks := false }, kinds := [], alts := [], laidByText := true, laidKinds := [.data], laidTests := true, laidLooks := .later }
def AckBuildsCardSaid : Prop := Claim7.holds Tryd.pinned (.plain (OpenSpec.ofChange ackBuildsSpec)) ackBuildsCard

/-- THE TIED CARD OF 'lamplighterlaw10.AckReads'. -/
def ackReadsCard : Claim7 := { stood := { row := ackReadsRow, standIns := [], harness := (true, "751121f7289fb78d0337d74a05ee7e287f4d2a06628c87b726574da38f90b9b7"), looks := false }, kinds := [], alts := [], laidByText := true, laidKinds := [.data], laidTests := true, laidLooks := .later }
def AckReadsCardSaid : Prop := Claim7.holds Tryd.pinned (.plain (OpenSpec.ofChange ackReadsSpec)) ackReadsCard

/-- THE TIED CARD OF 'lamplighterlaw10.AckBack'. -/
def ackBackCard : Claim7 := { stood := { row := ackBackRow, standIns := [], harness := (true, "751121f7289fb78d0337d74a05ee7e287f4d2a06628c87b726574da38f90b9b7"), looks := false }, kinds := [], alts := [], laidByText := true, laidKinds := [.data], laidTests := true, laidLooks := .later }
def AckBackCardSaid : Prop := Claim7.holds Tryd.pinned (.plain (OpenSpec.ofChange ackBackSpec)) ackBackCard

/-- THE TIED CARD OF 'lamplighterlaw10.AckTwice'. -/
def ackTwiceCard : Claim7 := { stood := { row := ackTwiceRow, standIns := [], harness := (true, "751121f7289fb78d0337d74a05ee7e287f4d2a06628c87b726574da38f90b9b7"), looks := false }, kinds := [], alts := [], laidByText := true, laidKinds := [.data], laidTests := true, laidLooks := .later }
def AckTwiceCardSaid : Prop := Claim7.holds Tryd.pinned (.plain (OpenSpec.ofChange ackTwiceSpec)) ackTwiceCard

/-- THE TIED CARD OF 'lamplighterlaw10.AckBehind'. -/
def ackBehindCard : Claim7 := { stood := { row := ackBehindRow, standIns := [], harness := (true, "751121f7289fb78d0337d74a05ee7e287f4d2a06628c87b726574da38f90b9b7"), looks := false }, kinds := [], alts := [], laidByText := true, laidKinds := [.data], laidTests := true, laidLooks := .later }
def AckBehindCardSaid : Prop := Claim7.holds Tryd.pinned (.plain (OpenSpec.ofChange ackBehindSpec)) ackBehindCard

/-- THE TIED CARD OF 'lamplighterlaw10.AckForms'. -/
def ackFormsCard : Claim7 := { stood := { row := ackFormsRow, standIns := [], harness := (true, "751121f7289fb78d0337d74a05ee7e287f4d2a06628c87b726574da38f90b9b7"), looks := false }, kinds := [], alts := [], laidByText := true, laidKinds := [.data], laidTests := true, laidLooks := .later }
def AckFormsCardSaid : Prop := Claim7.holds Tryd.pinned (.plain (OpenSpec.ofChange ackFormsSpec)) ackFormsCard

/-- THE SECOND FORM's CARD OF 'lamplighterlaw10.AckBuilds'. -/
def ackBuildsUptoCard : Claim7 := { stood := { row := ackBuildsUptoRow, standIns := [], harness := (true, "751121f7289fb78d0337d74a05ee7e287f4d2a06628c87b726574da38f90b9b7"), looks := false }, kinds := [], alts := [], laidByText := true, laidKinds := [.data], laidTests := true, laidLooks := .later }
def AckBuildsUptoCardSaid : Prop := Claim7.holds Tryd.pinned (.plain (OpenSpec.upto ackBuildsSpec)) ackBuildsUptoCard

/-- THE SECOND FORM's CARD OF 'lamplighterlaw10.AckReads'. -/
def ackReadsUptoCard : Claim7 := { stood := { row := ackReadsUptoRow, standIns := [], harness := (true, "751121f7289fb78d0337d74a05ee7e287f4d2a06628c87b726574da38f90b9b7"), looks := false }, kinds := [], alts := [], laidByText := true, laidKinds := [.data], laidTests := true, laidLooks := .later }
def AckReadsUptoCardSaid : Prop := Claim7.holds Tryd.pinned (.plain (OpenSpec.upto ackReadsSpec)) ackReadsUptoCard

/-- THE SECOND FORM's CARD OF 'lamplighterlaw10.AckBack'. -/
def ackBackUptoCard : Claim7 := { stood := { row := ackBackUptoRow, standIns := [], harness := (true, "751121f7289fb78d0337d74a05ee7e287f4d2a06628c87b726574da38f90b9b7"), looks := false }, kinds := [], alts := [], laidByText := true, laidKinds := [.data], laidTests := true, laidLooks := .later }
def AckBackUptoCardSaid : Prop := Claim7.holds Tryd.pinned (.plain (OpenSpec.upto ackBackSpec)) ackBackUptoCard

/-- THE SECOND FORM's CARD OF 'lamplighterlaw10.AckTwice'. -/
def ackTwiceUptoCard : Claim7 := { stood := { row := ackTwiceUptoRow, standIns := [], harness := (true, "751121f7289fb78d0337d74a05ee7e287f4d2a06628c87b726574da38f90b9b7"), looks := false }, kinds := [], alts := [], laidByText := true, laidKinds := [.data], laidTests := true, laidLooks := .later }
def AckTwiceUptoCardSaid : Prop := Claim7.holds Tryd.pinned (.plain (OpenSpec.upto ackTwiceSpec)) ackTwiceUptoCard

/-- THE SECOND FORM's CARD OF 'lamplighterlaw10.AckBehind'. -/
def ackBehindUptoCard : Claim7 := { stood := { row := ackBehindUptoRow, standIns := [], harness := (true, "751121f7289fb78d0337d74a05ee7e287f4d2a06628c87b726574da38f90b9b7"), looks := false }, kinds := [], alts := [], laidByText := true, laidKinds := [.data], laidTests := true, laidLooks := .later }
def AckBehindUptoCardSaid : Prop := Claim7.holds Tryd.pinned (.plain (OpenSpec.upto ackBehindSpec)) ackBehindUptoCard

/-- THE SECOND FORM's CARD OF 'lamplighterlaw10.AckForms'. -/
def ackFormsUptoCard : Claim7 := { stood := { row := ackFormsUptoRow, standIns := [], harness := (true, "751121f7289fb78d0337d74a05ee7e287f4d2a06628c87b726574da38f90b9b7"), looks := false }, kinds := [], alts := [], laidByText := true, laidKinds := [.data], laidTests := true, laidLooks := .later }
def AckFormsUptoCardSaid : Prop := Claim7.holds Tryd.pinned (.plain (OpenSpec.upto ackFormsSpec)) ackFormsUptoCard
end Rows
end Go.Proofs.YtbgjhpkjdcbclaaDoor
