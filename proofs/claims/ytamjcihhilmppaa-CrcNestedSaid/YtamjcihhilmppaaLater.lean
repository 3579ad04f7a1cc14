/- A region that draws its order, whose operations only read, and whose callees hand back one value and leave all that was there: one walk, in the order of the text. -/
import Derived.Test.YtamjcihhilmppaaBase
namespace Go.Proofs.Ytamjcihhilmppaa
open Go.RowKit

theorem byteInfo : (Try.prog.info? 5).map (fun i => (i.zero, i.size, i.bytes)) = some (some (.int .u8 0), 1, 1) := by kernel_rfl

/-- a world that comes behind w: all that was there is as it was -/
structure Later (w : World) where
  u : World
  h : Below w.heap.size w u
instance (w : World) : Nonempty (Later w) := ⟨⟨w, Below.refl _ _⟩⟩

theorem region_later {P : Program} {id : Nat} {Q : Exit → Act → World → Prop} {a : Act} {w : World} {l : List Oper} (hm : P.follows .mixedOrders = true) (hB : Region.lexB .any l.toArray = true)
    (h : wpQuiet P l.toArray (fun w' => ∃ n : Later w, w' = n.u) (fun a' => ∀ n : Later w, Q .normal a' n.u) l a) : (Code.region id l.toArray true).wp P Q a w :=
  wp_region_quiet (C := fun w' => ∃ n : Later w, w' = n.u) hm hB ⟨⟨{ w with drawn := w.drawn + 1 }, ⟨rfl, rfl, rfl, Nat.le_refl _, fun _ _ => rfl⟩⟩, rfl⟩ (by
    have e : (fun a' => ∀ w', (∃ n : Later w, w' = n.u) → Q .normal a' w') = fun a' => ∀ n : Later w, Q .normal a' n.u :=
      funext fun a' => propext ⟨fun h n => h _ ⟨n, rfl⟩, fun h w' ⟨n, e⟩ => e ▸ h n⟩
    rw [e]
    simpa using h)

theorem Calls.later {P : Program} {f : FuncId} {args : Array Value} {w : World} {n : Later w} {v : Value}
    (h : Calls P f args n.u fun e w' => e = .returned v ∧ Below n.u.heap.size n.u w') : Calls P f args n.u fun e w'' => e = .returned v ∧ ∃ m : Later w, w'' = m.u :=
  h.mono fun _ w' ⟨he, hb⟩ => ⟨he, ⟨w', n.h.trans (hb.mono n.h.size)⟩, rfl⟩
theorem Calls.later_same {P : Program} {f : FuncId} {args : Array Value} {w : World} {n : Later w} {v : Value}
    (h : Calls P f args n.u fun e w' => e = .returned v ∧ n.u = w') : Calls P f args n.u fun e w'' => e = .returned v ∧ ∃ m : Later w, w'' = m.u :=
  h.mono fun _ _ ⟨he, hb⟩ => ⟨he, n, hb.symm⟩
theorem Later.bs {w : World} (n : Later w) {A : Option Addr} {k c : Nat} {l : List UInt8} (h : Bs w A k c l) : Bs n.u A k c l := h.below n.h
/-- what a law comes to -/
def True_ (w : World) (e : Ending) (w' : World) : Prop := e = .returned (.bool true) ∧ Below w.heap.size w w'
end Go.Proofs.Ytamjcihhilmppaa
