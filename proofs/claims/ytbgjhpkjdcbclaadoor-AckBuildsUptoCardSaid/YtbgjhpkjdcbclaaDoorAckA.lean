/- Layer 10: the document's example of an answer, walked. -/
import Derived.Test.YtbgjhpkjdcbclaaDoorAckP
import Derived.Test.YtbgjhpkjdcbclaaDoorRef09
import Derived.Test.YtbgjhpkjdcbclaaDoorCrcLit
import Derived.Laws.StructEq
namespace Go.Proofs.YtbgjhpkjdcbclaaDoor
open Go.RowKit

set_option maxHeartbeats 4000000 in
set_option maxRecDepth 100000 in
theorem great10 {f : Nat} {lim : Nat} (h : Hd) (w : World) (hs : h.sum ≤ 1048576) (hf : f = 9) (hl : lim = 2000) :
    Calls Tryd.prog f #[h.v] w fun e w' => e = .returned (.bool (decide (lim < h.sum))) ∧ Below w.heap.size w w' := by
  subst hf hl
  have HX0 := Lib.hid (BoxH.new h w)
  have HB0 := Lib.hid (boxHd_below h w)
  obtain ⟨z1, e1⟩ : ∃ z, z = h.a0.size + h.a1.size := ⟨_, rfl⟩
  obtain ⟨z2, e2⟩ : ∃ z, z = z1 + h.a2.size := ⟨_, rfl⟩
  obtain ⟨z3, e3⟩ : ∃ z, z = z2 + h.a3.size := ⟨_, rfl⟩
  obtain ⟨z4, e4⟩ : ∃ z, z = z3 + h.a4.size := ⟨_, rfl⟩
  obtain ⟨z5, e5⟩ : ∃ z, z = z4 + h.a5.size := ⟨_, rfl⟩
  obtain ⟨z6, e6⟩ : ∃ z, z = z5 + h.a6.size := ⟨_, rfl⟩
  obtain ⟨z7, e7⟩ : ∃ z, z = z6 + h.a7.size := ⟨_, rfl⟩
  obtain ⟨z8, e8⟩ : ∃ z, z = z7 + h.a8.size := ⟨_, rfl⟩
  obtain ⟨z9, e9⟩ : ∃ z, z = z8 + h.a9.size := ⟨_, rfl⟩
  have hz : h.sum = z9 := by rw [e9, e8, e7, e6, e5, e4, e3, e2, e1]; rfl
  have b9 : z9 ≤ 1048576 := by rw [← hz]; exact hs
  have b8 := le_of_add e9 b9
  have b7 := le_of_add e8 b8
  have b6 := le_of_add e7 b7
  have b5 := le_of_add e6 b6
  have b4 := le_of_add e5 b5
  have b3 := le_of_add e4 b4
  have b2 := le_of_add e3 b3
  have b1 := le_of_add e2 b2
  have k1 : wrap64 (((h.a0.size) : Int) + (h.a1.size : Int)) = (z1 : Int) := wrap_add e1 b1
  have k2 : wrap64 (((z1) : Int) + (h.a2.size : Int)) = (z2 : Int) := wrap_add e2 b2
  have k3 : wrap64 (((z2) : Int) + (h.a3.size : Int)) = (z3 : Int) := wrap_add e3 b3
  have k4 : wrap64 (((z3) : Int) + (h.a4.size : Int)) = (z4 : Int) := wrap_add e4 b4
  have k5 : wrap64 (((z4) : Int) + (h.a5.size : Int)) = (z5 : Int) := wrap_add e5 b5
  have k6 : wrap64 (((z5) : Int) + (h.a6.size : Int)) = (z6 : Int) := wrap_add e6 b6
  have k7 : wrap64 (((z6) : Int) + (h.a7.size : Int)) = (z7 : Int) := wrap_add e7 b7
  have k8 : wrap64 (((z7) : Int) + (h.a8.size : Int)) = (z8 : Int) := wrap_add e8 b8
  have k9 : wrap64 (((z8) : Int) + (h.a9.size : Int)) = (z9 : Int) := wrap_add e9 b9
  have HZ : Hid (decide (2000 < h.sum) = decide ((2000 : Int) < (z9 : Int))) := Lib.hid (by rw [hz, decide_eq_decide]; exact (Int.ofNat_lt (n := 2000) (m := z9)).symm)
  clear e1 e2 e3 e4 e5 e6 e7 e8 e9 hz hs b1 b2 b3 b4 b5 b6 b7 b8 b9
  go_enter Tryd.func9, Tryd.ntmps9
  obtain ⟨c0, c1, c2, c3, c4, c5, c6, c7, c8, c9, c10, c11, c12, c13, c14⟩ := HX0.out.cells
  go_wp2_with (fail)
  go_ret
  rw [HZ.out]
  exact ⟨rfl, HB0.out⟩

theorem ack_self (x y : ByteArray) (w : World) : (binOp .eql 39 (ackV x y) (ackV x y)).run Tryd.prog w = .ok (.bool true) w := by
  rw [run_eql_struct, run_equalIn_agg (ht := by kernel_rfl) (hp := by kernel_rfl)]
  simp [Op.eqFields, Program.fieldsOf, Tryd.underlying39, part, go_sem]
theorem sgn_eq (s : Sgn) (w : World) : (binOp .eql 23 s.v s.v).run Tryd.prog w = .ok (.bool true) w := by
  rw [run_eql_struct, run_equalIn_agg (ht := by kernel_rfl) (hp := by kernel_rfl)]
  simp [Op.eqFields, Program.fieldsOf, Tryd.underlying23, part, go_sem]
abbrev liveT : List UInt8 := [77, 83, 72, 124, 94, 126, 92, 38, 124, 65, 124, 66, 124, 67, 124, 68, 124, 49, 124, 124, 65, 68, 84, 124, 55, 124, 80, 124, 50, 46, 53]
abbrev liveO : List UInt8 := [77, 83, 72, 124, 94, 126, 92, 38, 124, 67, 124, 68, 124, 65, 124, 66, 124, 49, 124, 124, 65, 67, 75, 124, 55, 124, 80, 124, 50, 46, 53, 13, 77, 83, 65, 124, 65, 69, 124, 55, 13]
theorem live_ack : buildD (readH liveT).1 (cB 1) = (liveO, 0) ∧ (readH liveT).1.sum ≤ 100 := by
  decide +kernel

set_option maxHeartbeats 8000000 in
set_option maxRecDepth 100000 in
theorem alive10 (w : World) (hv : Cds w) : Calls Tryd.prog 10 #[] w (True_ w) := by
  have HV := Lib.hid hv
  clear hv
  go_enter Tryd.func10, Tryd.ntmps10
  have hcv := fun w C n c => Lib.run_convert_bytes_const (P := Tryd.prog) w 28 5 C n c Tryd.underlying28 Tryd.underlying5
  have HBS : Hid (Bs (w.alloc (.cells #[.int .u8 77, .int .u8 83, .int .u8 72, .int .u8 124, .int .u8 94, .int .u8 126, .int .u8 92, .int .u8 38, .int .u8 124, .int .u8 65, .int .u8 124, .int .u8 66, .int .u8 124, .int .u8 67, .int .u8 124, .int .u8 68, .int .u8 124, .int .u8 49, .int .u8 124, .int .u8 124, .int .u8 65, .int .u8 68, .int .u8 84, .int .u8 124, .int .u8 55, .int .u8 124, .int .u8 80, .int .u8 124, .int .u8 50, .int .u8 46, .int .u8 53] 5 (31, 32))) (some ⟨w.heap.size, 0, none⟩) 31 31 liveT) := Lib.hid (Bs.litText w liveT 5 _ _ _ _ rfl rfl rfl (by simp [maxLen]))
  have HB0 : Hid (Below w.heap.size w (w.alloc (.cells #[.int .u8 77, .int .u8 83, .int .u8 72, .int .u8 124, .int .u8 94, .int .u8 126, .int .u8 92, .int .u8 38, .int .u8 124, .int .u8 65, .int .u8 124, .int .u8 66, .int .u8 124, .int .u8 67, .int .u8 124, .int .u8 68, .int .u8 124, .int .u8 49, .int .u8 124, .int .u8 124, .int .u8 65, .int .u8 68, .int .u8 84, .int .u8 124, .int .u8 55, .int .u8 124, .int .u8 80, .int .u8 124, .int .u8 50, .int .u8 46, .int .u8 53] 5 (31, 32)))) := Lib.hid ((Below.refl _ w).alloc (Nat.le_refl _) _)
  go_wp2_with (fail)
  generalize w.alloc (.cells #[.int .u8 77, .int .u8 83, .int .u8 72, .int .u8 124, .int .u8 94, .int .u8 126, .int .u8 92, .int .u8 38, .int .u8 124, .int .u8 65, .int .u8 124, .int .u8 66, .int .u8 124, .int .u8 67, .int .u8 124, .int .u8 68, .int .u8 124, .int .u8 49, .int .u8 124, .int .u8 124, .int .u8 65, .int .u8 68, .int .u8 84, .int .u8 124, .int .u8 55, .int .u8 124, .int .u8 80, .int .u8 124, .int .u8 50, .int .u8 46, .int .u8 53] 5 (31, 32)) = w0 at *
  clear hcv
  refine (refRead09 _ 31 31 liveT w0 HBS.out (by omega)).mono ?_
  rintro e w1 ⟨rfl, hb1⟩
  obtain ⟨k1, k2⟩ := live_ack
  obtain ⟨h, hh⟩ : ∃ h, h = (readH liveT).1 := ⟨_, rfl⟩
  rw [← hh] at k1 k2 ⊢
  have HB1 := Lib.hid (HB0.out.trans (hb1.mono HB0.out.size))
  have K1 := Lib.hid k1
  have K2 := Lib.hid k2
  obtain ⟨x, hx⟩ : ∃ x, x = (readH liveT).2 := ⟨_, rfl⟩
  rw [← hx]
  have HX1 : Hid (BoxH h w1.heap.size (w1.alloc (.cells h.cells TH))) := Lib.hid (heap_alloc_new w1 _)
  have HB2 : Hid (Below w.heap.size w (w1.alloc (.cells h.cells TH))) := Lib.hid (HB1.out.alloc HB1.out.size _)
  clear hb1 hh hx k1 k2 HB0 HBS HB1
  obtain ⟨c0, c1, c2, c3, c4, c5, c6, c7, c8, c9, c10, c11, c12, c13, c14⟩ := HX1.out.cells
  go_wp2_with (fail)
  generalize w1.alloc (.cells #[u8 h.d.a, u8 h.d.b, u8 h.d.c, u8 h.d.d, u8 h.d.e, .string h.a0, .string h.a1, .string h.a2, .string h.a3, .string h.a4, .string h.a5, .string h.a6, .string h.a7, .string h.a8, .string h.a9] TH) = w2 at *
  clear c0 c1 c2 c3 c4 c5 c6 c7 c8 c9 c10 c11 c12 c13 c14
  refine (ackBuild h (cB 1) w2 (HV.out.below HB2.out) (by have := K2.out; omega) (by decide)).mono ?_
  rintro e w3 ⟨A3, c3, rfl, hB3, hb3⟩
  rw [K1.out] at hB3 ⊢
  have HB3 := Lib.hid (HB2.out.trans (hb3.mono HB2.out.size))
  have hB4 : Bs w3 A3 41 c3 liveO := hB3
  have hcs := hB4.str (P := Tryd.prog) 28 5 9 Tryd.underlying28 Tryd.underlying5 Tryd.underlying9
  have ds : ((txt liveO).toList == [77, 83, 72, 124, 94, 126, 92, 38, 124, 67, 124, 68, 124, 65, 124, 66, 124, 49, 124, 124, 65, 67, 75, 124, 55, 124, 80, 124, 50, 46, 53, 13, 77, 83, 65, 124, 65, 69, 124, 55, 13]) = true := by rw [Go.ByteArray.toList_eq]; decide
  obtain ⟨S, hS⟩ : ∃ S, S = txt liveO := ⟨_, rfl⟩
  rw [← hS] at hcs
  rw [← hS] at ds
  clear hB3 hB4 hb3 hS
  go_wp2_with (fail)
  go_ret
  exact ⟨rfl, HB3.out⟩
end Go.Proofs.YtbgjhpkjdcbclaaDoor
