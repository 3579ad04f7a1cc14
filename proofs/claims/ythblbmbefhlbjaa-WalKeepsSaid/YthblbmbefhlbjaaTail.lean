/- A region that draws its order, whose first operations only read, and whose last ones do what they like: one walk, in the order of the text, by the cheap step. -/
import Derived.Test.YthblbmbefhlbjaaLater
import Derived.StillTail
import Derived.BigQuiet
namespace Go.Proofs.Ythblbmbefhlbjaa
open Go.RowKit

/-- this world -/
structure Here (w : World) where
  u : World
  h : u = w
instance (w : World) : Nonempty (Here w) := ⟨⟨w, rfl⟩⟩
theorem still_of_quiet {P : Program} {o : Oper} {a : Act} {W : World} {K : Act → Prop} (h : o.quiet P a (fun w' => ∃ m : Here W, w' = m.u) K) : o.still P a W K := by
  obtain ⟨v, h1, h2⟩ := h
  have h3 := h1 W ⟨⟨W, rfl⟩, rfl⟩
  unfold Oper.quietAt at h3
  unfold Oper.still
  generalize (execOp a.eval o).run P W = r at *
  cases r with
  | ok n w' =>
    cases n with
    | value u => obtain ⟨rfl, rfl⟩ := h3; exact ⟨rfl, h2⟩
    | skip => obtain ⟨rfl, rfl⟩ := h3; exact ⟨rfl, h2⟩
    | enter f args =>
      obtain ⟨rfl, hc⟩ := h3
      exact ⟨rfl, v, hc.mono (fun e w'' hh => ⟨hh.1, by obtain ⟨m, rfl⟩ := hh.2; exact m.h⟩), h2⟩
    | _ => cases h3
  | halt x w' => cases h3
theorem wpStill_of_quiet {P : Program} {ops : Array Oper} {W : World} {Q : Act → Prop} : ∀ (l : List Oper) (a : Act), wpQuiet P ops (fun w' => ∃ m : Here W, w' = m.u) Q l a → wpStill P ops W Q l a
  | [], _, h => h
  | o :: rest, a, h => by
    unfold wpQuiet at h
    unfold wpStill
    split
    · rename_i hw
      rw [if_pos hw] at h
      exact Oper.still_mono (fun a1 ha => wpStill_of_quiet rest a1 ha) (still_of_quiet h)
    · rename_i hw
      rw [if_neg hw] at h
      exact wpStill_of_quiet rest _ h
theorem region_tail {P : Program} {id : Nat} {Q : Exit → Act → World → Prop} {a : Act} {w : World} {l : List Oper} (n : Nat) (hm : P.follows .mixedOrders = true) (hB : Region.lexTailB .any l.toArray n = true)
    (h : wpQuiet P l.toArray (fun w' => ∃ m : Here w.drew, w' = m.u) (fun a' => wpList P l.toArray Q (l.drop n) a' w.drew) (l.take n) a) : (Code.region id l.toArray true).wp P Q a w :=
  wp_region_still_tail n hm hB (wpStill_of_quiet _ _ h)
theorem Here.cell {w : World} {a : Addr} {v : Value} (h : w.cell? a = some v) (n : Here w.drew) : n.u.cell? a = some v := by
  rw [n.h]; exact h
end Go.Proofs.Ythblbmbefhlbjaa
