/- A region that draws its order, whose operations only read, and whose callees hand back one value and leave all that was there: one walk, in the order of the text. -/
import Derived.Test.YtamjcihhilmppaaBase
namespace Go.Proofs.Ytamjcihhilmppaa
open Go.RowKit

theorem byteInfo : (Try.prog.info? 5).map (fun i => (i.zero, i.size, i.bytes)) = some (some (.int .u8 0), 1, 1) := by kernel_rfl

/-- a world that comes behind w: all that was there is as it was -/
structure Later (w : World) where
  u : World
  h : Below w.heap.size w u
instance (w : World) : Nonempty (Later w) := ⟨⟨w, Below.refl _ _⟩⟩

theorem region_later {P : Program} {id : Nat} {Q : Exit → Act → World → Prop} {a : Act} {w : World} {l : List Oper} (hm : P.follows .mixedOrders = true) (hB : Region.lexB .any l.toArray = true)
    (h : wpQuiet P l.toArray (fun w' => ∃ n : Later w, w' = n.u) (fun a' => ∀ n : Later w, Q .normal a' n.u) l a) : (Code.region id l.toArray true).wp P Q a w :=
  wp_region_quiet (C := fun w' => ∃ n : Later w, w' = n.u) hm hB ⟨⟨{ w with drawn := w.drawn + 1 }, ⟨rfl, rfl, rfl, Nat.le_refl _, fun _ _ => rfl⟩⟩, rfl⟩ (by
    have e : (fun a' => ∀ w', (∃ n : Later w, w' = n.u) → Q .normal a' w') = fun a' => ∀ n : Later w, Q .normal a' n.u :=
      funext fun a' => propext ⟨fun h n => h _ ⟨n, rfl⟩, fun h w' ⟨n, e⟩ => e ▸ h n⟩
    rw [e]
    simpa using h)

theorem Calls.later {P : Program} {f : FuncId} {args : Array Value} {w : World} {n : Later w} {v : Value}
    (h : Calls P f args n.u fun e w' => e = .returned v ∧ Below n.u.heap.size n.u w') : Calls P f args n.u fun e w'' => e = .returned v ∧ ∃ m : Later w, w'' = m.u :=
  h.mono fun _ w' ⟨he, hb⟩ => ⟨he, ⟨w', n.h.trans (hb.mono n.h.size)⟩, rfl⟩
theorem Calls.later_same {P : Program} {f : FuncId} {args : Array Value} {w : World} {n : Later w} {v : Value}
    (h : Calls P f args n.u fun e w' => e = .returned v ∧ n.u = w') : Calls P f args n.u fun e w'' => e = .returned v ∧ ∃ m : Later w, w'' = m.u :=
  h.mono fun _ _ ⟨he, hb⟩ => ⟨he, n, hb.symm⟩
theorem Later.bs {w : World} (n : Later w) {A : Option Addr} {k c : Nat} {l : List UInt8} (h : Bs w A k c l) : Bs n.u A k c l := h.below n.h
theorem Bs.take {w : World} {A : Option Addr} {n c : Nat} {l : List UInt8} (h : Bs w A n c l) {j : Nat} (hj : j ≤ n) : Bs w A j c (l.take j) :=
  ⟨by rw [List.length_take, h.1]; omega, Nat.le_trans hj h.le, h.2.2.1, fun h0 => by
    obtain ⟨b, o, e, hc⟩ := h.2.2.2 (by omega)
    refine ⟨b, o, e, fun i x hx => hc i x ?_⟩
    rw [List.getElem?_take] at hx
    split at hx
    · exact hx
    · cases hx⟩
/-- the whole of a block -/
theorem Bs.block {w : World} {g n : Nat} {t : TypeId} {f : Nat × Nat} {l : List UInt8} (h : w.heap[g]? = some (.cells (u8s l).toArray t f)) (hn : l.length = n) (hm : n ≤ maxLen) : Bs w (some ⟨g, 0, none⟩) n n l :=
  Bs.of_block h (by rw [List.take_of_length_le (by simp)]) hn (Nat.le_refl _) hm
theorem u8s_set (l : List UInt8) (j : Nat) (x : UInt8) : (u8s l).toArray.setIfInBounds j (.int .u8 (x.toNat : Int)) = (u8s (l.set j x)).toArray := by
  simp [u8s]
/-- what a law comes to -/
def True_ (w : World) (e : Ending) (w' : World) : Prop := e = .returned (.bool true) ∧ Below w.heap.size w w'
end Go.Proofs.Ytamjcihhilmppaa
