/- Layer 2: Remove and Truncate, walked. -/
import Derived.Test.YthblbmbefhlbjaaDk6
namespace Go.Proofs.Ythblbmbefhlbjaa
open Go.RowKit Go.MapKept

/-- how a change ends: done, or lost: then it is done, or isn't -/
def ChOut (ok : Value) (d : Dk) (Rgo Rno : World → Prop) (e : Ending) (w' : World) : Prop :=
  (d.armedIn ≠ 1 ∧ e = .returned ok ∧ Rgo w') ∨ (d.armedIn = 1 ∧ e = .panicked [{ v := crashI (d.ops + 1), recovered := false }] ∧ ((dOdd d = true ∧ Rgo w') ∨ (dOdd d = false ∧ Rno w')))
section
variable {w w' : World} {B D M : Nat} {d : Dk} {F : List Ent}
theorem dkChange (h : DkAt w B D M d F) (ok : d.Ok) (k : FuncId) (caps : Array Value) (hk : FnOk k) (R : World → Prop)
    (hdo : ∀ w1, DkAt w1 B D M d.begin F → Ch (At1 D) w w1 → Calls Try.prog k caps w1 fun e w2 => e = .returned (.tuple #[]) ∧ R w2) (hR : ∀ w2, R w2 → w2.cell? ⟨D, 3, none⟩ = some (.int .i64 (d.ops + 1))) :
    Calls Try.prog 68 #[pD D, fnV k caps] w (ChOut (.tuple #[]) d R fun w' => DkAt w' B D M d.begin F ∧ Ch (At1 D) w w') := by
  by_cases ha : d.armedIn = 1
  · cases ho : dOdd d
    · exact (dkChange_even h ok ha ho k caps).mono fun e w' ⟨h1, h2⟩ => .inr ⟨ha, h1, .inr ⟨ho, h2⟩⟩
    · exact (dkChange_odd h ok ha ho k caps hk R hdo hR).mono fun e w' ⟨h1, h2⟩ => .inr ⟨ha, h1, .inl ⟨ho, h2⟩⟩
  · exact (dkChange_go h ok ha k caps hk R hdo).mono fun e w' ⟨h1, h2⟩ => .inl ⟨ha, h1, h2⟩

/-- a file gone: what is left -/
def DelR (B D M : Nat) (d : Dk) (F : List Ent) (w : World) (P Q : List Ent) (n : Nat) (w' : World) : Prop := DkAt w' B D M { d.begin with used := d.used - (n : Int) } (P ++ Q) ∧ DkCh D M F (P ++ Q) w w'
/-- nothing done -/
def NoR (B D M : Nat) (d : Dk) (F : List Ent) (w : World) (w' : World) : Prop := DkAt w' B D M d.begin F ∧ DkCh D M F F w w'

end
end Go.Proofs.Ythblbmbefhlbjaa
