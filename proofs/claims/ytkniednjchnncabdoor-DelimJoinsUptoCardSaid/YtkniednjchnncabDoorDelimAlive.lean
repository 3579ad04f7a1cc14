/- Layer 6: the examples. -/
import Derived.Test.YtkniednjchnncabDoorDelim4
import Derived.Test.YtkniednjchnncabDoorCrcLit
import Derived.Lib.SlBytesConst
namespace Go.Proofs.YtkniednjchnncabDoor
open Go.RowKit

theorem read_plain : readD [77, 83, 72, 124, 94, 126, 92, 38, 124] = (⟨124, 94, 126, 92, 38⟩, 0) := by kernel_rfl
theorem read_twice : readD [77, 83, 72, 124, 94, 94, 92, 38, 124] = (⟨0, 0, 0, 0, 0⟩, 11) := by kernel_rfl

set_option maxRecDepth 100000 in
theorem lawPlain (w : World) : Calls Tryd.prog 13 #[] w fun x w' => x = .returned (dlm 124 94 126 92 38) ∧ Below w.heap.size w w' := by
  go_enter Tryd.func13, Tryd.ntmps13
  go_wp2
  exact bodyPost_ret (v := dlm 124 94 126 92 38) (by simp [results, Tryd.results13, go_sem]) rfl ⟨rfl, (Below.refl _ w).alloc (Nat.le_refl _) _⟩

theorem plain_eq (w : World) : (binOp .eql 32 (dlm 124 94 126 92 38) (dlm 124 94 126 92 38)).run Tryd.prog w = .ok (.bool true) w := delims_eq ⟨124, 94, 126, 92, 38⟩ w

set_option maxRecDepth 100000 in
theorem delimAlive (w : World) : Calls Tryd.prog 6 #[] w (True_ w) := by
  have hcv := fun w C n c => Lib.run_convert_bytes_const (P := Tryd.prog) w 29 5 C n c Tryd.underlying29 Tryd.underlying5
  have heq := plain_eq
  go_enter Tryd.func6, Tryd.ntmps6
  go_wp2_with (fail)
  refine (delimRead _ _ _ [77, 83, 72, 124, 94, 126, 92, 38, 124] _ (Bs.litText w [77, 83, 72, 124, 94, 126, 92, 38, 124] 5 _ _ _ _ rfl rfl rfl (by simp [maxLen]))).mono ?_
  rw [read_plain]
  rintro e w1 ⟨rfl, hb1⟩
  have HB1 : Hid (Below w.heap.size w w1) := Lib.hid (((Below.refl _ w).alloc (Nat.le_refl _) _).trans (hb1.mono (by simp)))
  clear hb1
  go_wp2_with (fail)
  have hr := heap_alloc_new w1 (.cells #[.int .u8 124, .int .u8 94, .int .u8 126, .int .u8 92, .int .u8 38] 32)
  have hg : w1.heap.size < (w1.alloc (.cells #[.int .u8 124, .int .u8 94, .int .u8 126, .int .u8 92, .int .u8 38] 32)).heap.size := by simp
  have HB2 : Hid (Below w.heap.size w (w1.alloc (.cells #[.int .u8 124, .int .u8 94, .int .u8 126, .int .u8 92, .int .u8 38] 32))) := Lib.hid (HB1.out.alloc HB1.out.size _)
  have hs : w1.heap.size + 1 = (w1.alloc (.cells #[.int .u8 124, .int .u8 94, .int .u8 126, .int .u8 92, .int .u8 38] 32)).heap.size := by simp
  rw [hs]
  obtain ⟨G1, hG⟩ : ∃ G, G = w1.heap.size := ⟨_, rfl⟩
  rw [← hG] at hr hg ⊢
  clear HB1 hs
  generalize w1.alloc (.cells #[.int .u8 124, .int .u8 94, .int .u8 126, .int .u8 92, .int .u8 38] 32) = W1 at *
  clear hG
  have HR := Lib.hid hr
  have HG := Lib.hid hg
  clear hr hg
  have hcv2 := hcv W1
  clear hcv
  rw [hcv2]
  go_wp2_with (fail)
  refine (delimRead _ _ _ [77, 83, 72, 124, 94, 94, 92, 38, 124] _ (Bs.litText W1 [77, 83, 72, 124, 94, 94, 92, 38, 124] 5 _ _ _ _ rfl rfl rfl (by simp [maxLen]))).mono ?_
  rw [read_twice]
  rintro e w2 ⟨rfl, hb2⟩
  have hb3 : Below W1.heap.size W1 w2 := ((Below.refl _ W1).alloc (Nat.le_refl _) _).trans (hb2.mono (by simp))
  have HB3 : Hid (Below w.heap.size w w2) := Lib.hid (HB2.out.trans (hb3.mono HB2.out.size))
  have HR2 : Hid (w2.heap[G1]? = some (.cells #[.int .u8 124, .int .u8 94, .int .u8 126, .int .u8 92, .int .u8 38] 32)) := Lib.hid (by rw [hb3.block _ HG.out]; exact HR.out)
  have HG2 : Hid (G1 < w2.heap.size) := Lib.hid (Nat.lt_of_lt_of_le HG.out hb3.size)
  clear hb2 hb3 HB2 HR HG hcv2
  go_wp2_with (fail)
  have hb4 := (Below.refl w2.heap.size w2).alloc (Nat.le_refl _) (.cells #[.int .u8 0, .int .u8 0, .int .u8 0, .int .u8 0, .int .u8 0] 32)
  have HB4 : Hid (Below w.heap.size w (w2.alloc (.cells #[.int .u8 0, .int .u8 0, .int .u8 0, .int .u8 0, .int .u8 0] 32))) := Lib.hid (HB3.out.trans (hb4.mono HB3.out.size))
  have HR3 : Hid ((w2.alloc (.cells #[.int .u8 0, .int .u8 0, .int .u8 0, .int .u8 0, .int .u8 0] 32)).heap[G1]? = some (.cells #[.int .u8 124, .int .u8 94, .int .u8 126, .int .u8 92, .int .u8 38] 32)) := Lib.hid (by rw [hb4.block _ HG2.out]; exact HR2.out)
  have HG3 : Hid (G1 < (w2.alloc (.cells #[.int .u8 0, .int .u8 0, .int .u8 0, .int .u8 0, .int .u8 0] 32)).heap.size) := Lib.hid (Nat.lt_of_lt_of_le HG2.out hb4.size)
  clear hb4 HB3 HR2 HG2
  generalize w2.alloc (.cells #[.int .u8 0, .int .u8 0, .int .u8 0, .int .u8 0, .int .u8 0] 32) = W3 at *
  have L : ∀ (k : Nat) (x : Value), (#[.int .u8 124, .int .u8 94, .int .u8 126, .int .u8 92, .int .u8 38] : Array Value)[k]? = some x → ∀ n : Later W3, n.u.cell? ⟨G1, k, none⟩ = some x := fun k x hx n => by
    rw [cell_of_row _ _ _ _ _ _ (by rw [n.h.block _ HG3.out]; exact HR3.out)]; exact hx
  have L0 := L 0 _ rfl
  have L1 := L 1 _ rfl
  have L2 := L 2 _ rfl
  have L3 := L 3 _ rfl
  have L4 := L 4 _ rfl
  clear L HR3 HG3
  refine region_later (by kernel_rfl) (by kernel_rfl) ?_
  repeat (go_big_quiet_step ((first
    | (go_at_call 13; exact Calls.later (lawPlain _))
    | (go_at_call 14; exact Calls.later (delimPlain _)))))
  refine wpQuiet_nil ?_
  intro nq
  have HB5 : Hid (Below w.heap.size w nq.u) := Lib.hid (HB4.out.trans (nq.h.mono HB4.out.size))
  generalize nq.u = W4 at *
  clear L0 L1 L2 L3 L4 HB4
  clear nq
  go_wp2_with (fail)
  go_ret
  exact ⟨rfl, HB5.out⟩
end Go.Proofs.YtkniednjchnncabDoor
