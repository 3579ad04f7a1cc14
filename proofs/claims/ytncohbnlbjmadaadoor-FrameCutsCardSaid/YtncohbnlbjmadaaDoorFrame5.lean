/- Layer 4: the examples, and the laws' walks. -/
import Derived.Test.YtncohbnlbjmadaaDoorFrame4
namespace Go.Proofs.YtncohbnlbjmadaaDoor
open Go.RowKit

/-- frame.Good of a literal -/
theorem goodLit (w : World) (l : List UInt8) (C : Array Value) (g n : Nat) (r : Bool) (hS : Signs w) (hg : g = w.heap.size) (hC : C = (u8s l).toArray) (hn : n = l.length) (hm : l.length ≤ maxLen) (hr : good l = r) :
    Calls Tryd.prog 19 #[.slice (some ⟨g, 0, none⟩) n n] (w.alloc (.cells C 5)) fun e w' => e = .returned (.bool r) ∧ Below w.heap.size w w' := by
  refine (frameGood_b _ n n l _ (hS.alloc _) (Bs.lit w l 5 C g hg hC hn hm) r hr).mono fun e w' ⟨he, hb⟩ => ⟨he, ?_⟩
  exact ((Below.refl _ _).alloc (Nat.le_refl _) _).trans (hb.mono (by simp))

theorem Bs.str' {w : World} {A : Option Addr} {n c : Nat} {l : List UInt8} (h : Bs w A n c l) : (convert 22 9 (.slice A n c)).run Tryd.prog w = .ok (.string (txt l)) w :=
  h.str _ _ _ Tryd.underlying22 Tryd.underlying5 Tryd.underlying9

/-- the document's examples hold -/
def Alive (w : World) (e : Ending) (w' : World) : Prop := e = .returned (.bool true) ∧ Below w.heap.size w w'

set_option maxRecDepth 100000 in
set_option maxHeartbeats 1000000 in
theorem alive_any (w : World) (hS : Signs w) : Calls Tryd.prog 7 #[] w (Alive w) := by
  have HS := Lib.hid hS
  clear hS
  go_enter Tryd.func7, Tryd.ntmps7
  go_wp2_with (fail)
  refine (frameWrap_yes _ 2 2 [65, 66] _ (HS.out.alloc _) (Bs.lit w [65, 66] 5 _ _ rfl rfl rfl (by simp [maxLen])) (by decide) (by omega)).mono ?_
  rintro e w1 ⟨A1, c1, rfl, hB1, hb1⟩
  have b1 : Below w.heap.size w w1 := ((Below.refl _ _).alloc (Nat.le_refl _) _).trans (hb1.mono (by simp))
  have cv1 := hB1.str'
  have S1 := Lib.hid (HS.out.below b1)
  clear hb1
  simp only [List.cons_append, List.nil_append, List.length_cons, List.length_nil] at cv1 ⊢
  go_wp2_with (fail)
  refine (goodLit w1 [28, 13] _ _ _ false S1.out rfl rfl rfl (by simp [maxLen]) (by decide)).mono ?_
  rintro e w2 ⟨rfl, hb2⟩
  have S2 := Lib.hid (S1.out.below hb2)
  go_wp2_with (fail)
  refine (goodLit w2 [28] _ _ _ false S2.out rfl rfl rfl (by simp [maxLen]) (by decide)).mono ?_
  rintro e w3 ⟨rfl, hb3⟩
  have S3 := Lib.hid (S2.out.below hb3)
  go_wp2_with (fail)
  refine (goodLit w3 [11] _ _ _ false S3.out rfl rfl rfl (by simp [maxLen]) (by decide)).mono ?_
  rintro e w4 ⟨rfl, hb4⟩
  have S4 := Lib.hid (S3.out.below hb4)
  go_wp2_with (fail)
  refine (goodLit w4 [28, 65] _ _ _ true S4.out rfl rfl rfl (by simp [maxLen]) (by decide)).mono ?_
  rintro e w5 ⟨rfl, hb5⟩
  go_wp2
  go_ret
  have b2 := b1.trans (hb2.mono b1.size)
  have b3 := b2.trans (hb3.mono b2.size)
  have b4 := b3.trans (hb4.mono b3.size)
  exact ⟨rfl, b4.trans (hb5.mono b4.size)⟩
end Go.Proofs.YtncohbnlbjmadaaDoor
