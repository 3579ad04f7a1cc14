/- Layer 9: the document's examples, walked. -/
import Derived.Test.YtodgcmjdnfbegaaDoorMsh4
import Derived.Test.YtodgcmjdnfbegaaDoorCrcLit
import Derived.Lib.SlBytesConst
namespace Go.Proofs.YtodgcmjdnfbegaaDoor
open Go.RowKit

theorem BoxH.set0 {h : Hd} {G : Nat} {W : World} (k : BoxH h G W) (x : ByteArray) : BoxH { h with a0 := x } G (W.setCell ⟨G, 5, none⟩ (.string x)) := by
  have r := heap_set_rowH (j := 5) k (.string x)
  have e : (Hd.cells h).setIfInBounds 5 (.string x) = (Hd.cells { h with a0 := x }) := by kernel_rfl
  rw [e] at r
  exact r
theorem BoxH.set1 {h : Hd} {G : Nat} {W : World} (k : BoxH h G W) (x : ByteArray) : BoxH { h with a1 := x } G (W.setCell ⟨G, 6, none⟩ (.string x)) := by
  have r := heap_set_rowH (j := 6) k (.string x)
  have e : (Hd.cells h).setIfInBounds 6 (.string x) = (Hd.cells { h with a1 := x }) := by kernel_rfl
  rw [e] at r
  exact r
theorem BoxH.set2 {h : Hd} {G : Nat} {W : World} (k : BoxH h G W) (x : ByteArray) : BoxH { h with a2 := x } G (W.setCell ⟨G, 7, none⟩ (.string x)) := by
  have r := heap_set_rowH (j := 7) k (.string x)
  have e : (Hd.cells h).setIfInBounds 7 (.string x) = (Hd.cells { h with a2 := x }) := by kernel_rfl
  rw [e] at r
  exact r
theorem BoxH.set3 {h : Hd} {G : Nat} {W : World} (k : BoxH h G W) (x : ByteArray) : BoxH { h with a3 := x } G (W.setCell ⟨G, 8, none⟩ (.string x)) := by
  have r := heap_set_rowH (j := 8) k (.string x)
  have e : (Hd.cells h).setIfInBounds 8 (.string x) = (Hd.cells { h with a3 := x }) := by kernel_rfl
  rw [e] at r
  exact r
theorem BoxH.set4 {h : Hd} {G : Nat} {W : World} (k : BoxH h G W) (x : ByteArray) : BoxH { h with a4 := x } G (W.setCell ⟨G, 9, none⟩ (.string x)) := by
  have r := heap_set_rowH (j := 9) k (.string x)
  have e : (Hd.cells h).setIfInBounds 9 (.string x) = (Hd.cells { h with a4 := x }) := by kernel_rfl
  rw [e] at r
  exact r
theorem BoxH.set5 {h : Hd} {G : Nat} {W : World} (k : BoxH h G W) (x : ByteArray) : BoxH { h with a5 := x } G (W.setCell ⟨G, 10, none⟩ (.string x)) := by
  have r := heap_set_rowH (j := 10) k (.string x)
  have e : (Hd.cells h).setIfInBounds 10 (.string x) = (Hd.cells { h with a5 := x }) := by kernel_rfl
  rw [e] at r
  exact r
theorem BoxH.set6 {h : Hd} {G : Nat} {W : World} (k : BoxH h G W) (x : ByteArray) : BoxH { h with a6 := x } G (W.setCell ⟨G, 11, none⟩ (.string x)) := by
  have r := heap_set_rowH (j := 11) k (.string x)
  have e : (Hd.cells h).setIfInBounds 11 (.string x) = (Hd.cells { h with a6 := x }) := by kernel_rfl
  rw [e] at r
  exact r
theorem BoxH.set7 {h : Hd} {G : Nat} {W : World} (k : BoxH h G W) (x : ByteArray) : BoxH { h with a7 := x } G (W.setCell ⟨G, 12, none⟩ (.string x)) := by
  have r := heap_set_rowH (j := 12) k (.string x)
  have e : (Hd.cells h).setIfInBounds 12 (.string x) = (Hd.cells { h with a7 := x }) := by kernel_rfl
  rw [e] at r
  exact r
theorem BoxH.set8 {h : Hd} {G : Nat} {W : World} (k : BoxH h G W) (x : ByteArray) : BoxH { h with a8 := x } G (W.setCell ⟨G, 13, none⟩ (.string x)) := by
  have r := heap_set_rowH (j := 13) k (.string x)
  have e : (Hd.cells h).setIfInBounds 13 (.string x) = (Hd.cells { h with a8 := x }) := by kernel_rfl
  rw [e] at r
  exact r
theorem BoxH.set9 {h : Hd} {G : Nat} {W : World} (k : BoxH h G W) (x : ByteArray) : BoxH { h with a9 := x } G (W.setCell ⟨G, 14, none⟩ (.string x)) := by
  have r := heap_set_rowH (j := 14) k (.string x)
  have e : (Hd.cells h).setIfInBounds 14 (.string x) = (Hd.cells { h with a9 := x }) := by kernel_rfl
  rw [e] at r
  exact r
abbrev liveL : List UInt8 := [77, 83, 72, 124, 94, 126, 92, 38, 124, 65, 124, 66, 124, 67, 124, 68, 124, 49, 124, 124, 65, 68, 84, 94, 65, 48, 49, 124, 55, 124, 80, 124, 50, 46, 53]
theorem live_read : (readH liveL).2 = 0 ∧ (readH liveL).1.a7 = ⟨#[55]⟩ ∧ (readH liveL).1.a9 = ⟨#[50, 46, 53]⟩ ∧ checkD (readH liveL).1 = 0 ∧ checkD { (readH liveL).1 with a7 := ⟨#[]⟩ } = 14 ∧ checkD { (readH liveL).1 with a9 := ⟨#[57]⟩ } = 12 ∧ (readH liveL).1.a8.size ≤ 100 := by
  decide +kernel

set_option maxHeartbeats 8000000 in
set_option maxRecDepth 100000 in
theorem alive09 (w : World) (hv : Vers w) : Calls Tryd.prog 10 #[] w (True_ w) := by
  have HV := Lib.hid hv
  clear hv
  go_enter Tryd.func10, Tryd.ntmps10
  have hcv := fun w C n c => Lib.run_convert_bytes_const (P := Tryd.prog) w 22 5 C n c Tryd.underlying22 Tryd.underlying5
  have HBS : Hid (Bs (w.alloc (.cells #[.int .u8 77, .int .u8 83, .int .u8 72, .int .u8 124, .int .u8 94, .int .u8 126, .int .u8 92, .int .u8 38, .int .u8 124, .int .u8 65, .int .u8 124, .int .u8 66, .int .u8 124, .int .u8 67, .int .u8 124, .int .u8 68, .int .u8 124, .int .u8 49, .int .u8 124, .int .u8 124, .int .u8 65, .int .u8 68, .int .u8 84, .int .u8 94, .int .u8 65, .int .u8 48, .int .u8 49, .int .u8 124, .int .u8 55, .int .u8 124, .int .u8 80, .int .u8 124, .int .u8 50, .int .u8 46, .int .u8 53] 5 (35, 36))) (some ⟨w.heap.size, 0, none⟩) 35 35 liveL) := Lib.hid (Bs.litText w liveL 5 _ _ _ _ rfl rfl rfl (by simp [maxLen]))
  have HB0 : Hid (Below w.heap.size w (w.alloc (.cells #[.int .u8 77, .int .u8 83, .int .u8 72, .int .u8 124, .int .u8 94, .int .u8 126, .int .u8 92, .int .u8 38, .int .u8 124, .int .u8 65, .int .u8 124, .int .u8 66, .int .u8 124, .int .u8 67, .int .u8 124, .int .u8 68, .int .u8 124, .int .u8 49, .int .u8 124, .int .u8 124, .int .u8 65, .int .u8 68, .int .u8 84, .int .u8 94, .int .u8 65, .int .u8 48, .int .u8 49, .int .u8 124, .int .u8 55, .int .u8 124, .int .u8 80, .int .u8 124, .int .u8 50, .int .u8 46, .int .u8 53] 5 (35, 36)))) := Lib.hid ((Below.refl _ w).alloc (Nat.le_refl _) _)
  go_wp2_with (fail)
  generalize w.alloc (.cells #[.int .u8 77, .int .u8 83, .int .u8 72, .int .u8 124, .int .u8 94, .int .u8 126, .int .u8 92, .int .u8 38, .int .u8 124, .int .u8 65, .int .u8 124, .int .u8 66, .int .u8 124, .int .u8 67, .int .u8 124, .int .u8 68, .int .u8 124, .int .u8 49, .int .u8 124, .int .u8 124, .int .u8 65, .int .u8 68, .int .u8 84, .int .u8 94, .int .u8 65, .int .u8 48, .int .u8 49, .int .u8 124, .int .u8 55, .int .u8 124, .int .u8 80, .int .u8 124, .int .u8 50, .int .u8 46, .int .u8 53] 5 (35, 36)) = w0 at *
  clear hcv
  refine (read_ _ 35 35 liveL w0 HBS.out (by omega)).mono ?_
  rintro e w1 ⟨rfl, hb1⟩
  obtain ⟨h2, h7, h9, k1, k2, k3, k4⟩ := live_read
  rw [h2]
  obtain ⟨h, hh⟩ : ∃ h, h = (readH liveL).1 := ⟨_, rfl⟩
  rw [← hh] at h7 h9 k1 k2 k3 k4 ⊢
  have HB1 := Lib.hid (HB0.out.trans (hb1.mono HB0.out.size))
  have HV1 := Lib.hid (HV.out.below HB1.out)
  have d7 : (h.a7.toList == [55]) = true := by rw [h7, Go.ByteArray.toList_eq]; rfl
  have d9 : (h.a9.toList == [50, 46, 53]) = true := by rw [h9, Go.ByteArray.toList_eq]; rfl
  have K1 := Lib.hid k1
  have K2 := Lib.hid k2
  have K3 := Lib.hid k3
  have K4 := Lib.hid k4
  have K9 : Hid (h.a9.size ≤ 100) := Lib.hid (by rw [h9]; decide)
  have HX1 : Hid (BoxH h w1.heap.size (w1.alloc (.cells #[u8 h.d.a, u8 h.d.b, u8 h.d.c, u8 h.d.d, u8 h.d.e, .string h.a0, .string h.a1, .string h.a2, .string h.a3, .string h.a4, .string h.a5, .string h.a6, .string h.a7, .string h.a8, .string h.a9] TH))) := Lib.hid (heap_alloc_new w1 _)
  have HB2 : Hid (Below w.heap.size w (w1.alloc (.cells #[u8 h.d.a, u8 h.d.b, u8 h.d.c, u8 h.d.d, u8 h.d.e, .string h.a0, .string h.a1, .string h.a2, .string h.a3, .string h.a4, .string h.a5, .string h.a6, .string h.a7, .string h.a8, .string h.a9] TH))) := Lib.hid (HB1.out.alloc HB1.out.size _)
  have HV2 : Hid (Vers (w1.alloc (.cells #[u8 h.d.a, u8 h.d.b, u8 h.d.c, u8 h.d.d, u8 h.d.e, .string h.a0, .string h.a1, .string h.a2, .string h.a3, .string h.a4, .string h.a5, .string h.a6, .string h.a7, .string h.a8, .string h.a9] TH))) := Lib.hid (HV1.out.below ((Below.refl _ _).alloc (Nat.le_refl _) _))
  clear hb1 hh h2 h7 h9 k1 k2 k3 k4 HB0 HBS
  go_wp2_with (fail)
  generalize w1.alloc (.cells #[u8 h.d.a, u8 h.d.b, u8 h.d.c, u8 h.d.d, u8 h.d.e, .string h.a0, .string h.a1, .string h.a2, .string h.a3, .string h.a4, .string h.a5, .string h.a6, .string h.a7, .string h.a8, .string h.a9] TH) = w2 at *
  generalize w1.heap.size = g at *
  have HN3 : Hid (g < w2.heap.size ∧ w.heap.size ≤ w2.heap.size) := Lib.hid ⟨(Array.getElem?_eq_some_iff.1 HX1.out).1, HB2.out.size⟩
  have HG0 : Hid (∀ o1 o2 : Obj, BoxH h g ((w2.alloc o1).alloc o2)) := Lib.hid (fun o1 o2 => HX1.out.below (((Below.refl _ _).alloc (Nat.le_refl _) _).alloc (by simp) _))
  have HG1 : Hid (∀ o1 : Obj, BoxH h g (w2.alloc o1)) := Lib.hid (fun o1 => HX1.out.below ((Below.refl _ _).alloc (Nat.le_refl _) _))
  obtain ⟨c0, c1, c2, c3, c4, c5, c6, c7, c8, c9, c10, c11, c12, c13, c14⟩ := HX1.out.cells
  have p0 : ∀ o1 o2 : Obj, ((w2.alloc o1).alloc o2).cell? ⟨g, 0, none⟩ = some (u8 h.d.a) := fun o1 o2 => cell_of_row _ g 0 _ _ _ (HG0.out o1 o2)
  have q0 : ∀ o1 : Obj, (w2.alloc o1).cell? ⟨g, 0, none⟩ = some (u8 h.d.a) := fun o1 => cell_of_row _ g 0 _ _ _ (HG1.out o1)
  have p1 : ∀ o1 o2 : Obj, ((w2.alloc o1).alloc o2).cell? ⟨g, 1, none⟩ = some (u8 h.d.b) := fun o1 o2 => cell_of_row _ g 1 _ _ _ (HG0.out o1 o2)
  have q1 : ∀ o1 : Obj, (w2.alloc o1).cell? ⟨g, 1, none⟩ = some (u8 h.d.b) := fun o1 => cell_of_row _ g 1 _ _ _ (HG1.out o1)
  have p2 : ∀ o1 o2 : Obj, ((w2.alloc o1).alloc o2).cell? ⟨g, 2, none⟩ = some (u8 h.d.c) := fun o1 o2 => cell_of_row _ g 2 _ _ _ (HG0.out o1 o2)
  have q2 : ∀ o1 : Obj, (w2.alloc o1).cell? ⟨g, 2, none⟩ = some (u8 h.d.c) := fun o1 => cell_of_row _ g 2 _ _ _ (HG1.out o1)
  have p3 : ∀ o1 o2 : Obj, ((w2.alloc o1).alloc o2).cell? ⟨g, 3, none⟩ = some (u8 h.d.d) := fun o1 o2 => cell_of_row _ g 3 _ _ _ (HG0.out o1 o2)
  have q3 : ∀ o1 : Obj, (w2.alloc o1).cell? ⟨g, 3, none⟩ = some (u8 h.d.d) := fun o1 => cell_of_row _ g 3 _ _ _ (HG1.out o1)
  have p4 : ∀ o1 o2 : Obj, ((w2.alloc o1).alloc o2).cell? ⟨g, 4, none⟩ = some (u8 h.d.e) := fun o1 o2 => cell_of_row _ g 4 _ _ _ (HG0.out o1 o2)
  have q4 : ∀ o1 : Obj, (w2.alloc o1).cell? ⟨g, 4, none⟩ = some (u8 h.d.e) := fun o1 => cell_of_row _ g 4 _ _ _ (HG1.out o1)
  have p5 : ∀ o1 o2 : Obj, ((w2.alloc o1).alloc o2).cell? ⟨g, 5, none⟩ = some (.string h.a0) := fun o1 o2 => cell_of_row _ g 5 _ _ _ (HG0.out o1 o2)
  have q5 : ∀ o1 : Obj, (w2.alloc o1).cell? ⟨g, 5, none⟩ = some (.string h.a0) := fun o1 => cell_of_row _ g 5 _ _ _ (HG1.out o1)
  have p6 : ∀ o1 o2 : Obj, ((w2.alloc o1).alloc o2).cell? ⟨g, 6, none⟩ = some (.string h.a1) := fun o1 o2 => cell_of_row _ g 6 _ _ _ (HG0.out o1 o2)
  have q6 : ∀ o1 : Obj, (w2.alloc o1).cell? ⟨g, 6, none⟩ = some (.string h.a1) := fun o1 => cell_of_row _ g 6 _ _ _ (HG1.out o1)
  have p7 : ∀ o1 o2 : Obj, ((w2.alloc o1).alloc o2).cell? ⟨g, 7, none⟩ = some (.string h.a2) := fun o1 o2 => cell_of_row _ g 7 _ _ _ (HG0.out o1 o2)
  have q7 : ∀ o1 : Obj, (w2.alloc o1).cell? ⟨g, 7, none⟩ = some (.string h.a2) := fun o1 => cell_of_row _ g 7 _ _ _ (HG1.out o1)
  have p8 : ∀ o1 o2 : Obj, ((w2.alloc o1).alloc o2).cell? ⟨g, 8, none⟩ = some (.string h.a3) := fun o1 o2 => cell_of_row _ g 8 _ _ _ (HG0.out o1 o2)
  have q8 : ∀ o1 : Obj, (w2.alloc o1).cell? ⟨g, 8, none⟩ = some (.string h.a3) := fun o1 => cell_of_row _ g 8 _ _ _ (HG1.out o1)
  have p9 : ∀ o1 o2 : Obj, ((w2.alloc o1).alloc o2).cell? ⟨g, 9, none⟩ = some (.string h.a4) := fun o1 o2 => cell_of_row _ g 9 _ _ _ (HG0.out o1 o2)
  have q9 : ∀ o1 : Obj, (w2.alloc o1).cell? ⟨g, 9, none⟩ = some (.string h.a4) := fun o1 => cell_of_row _ g 9 _ _ _ (HG1.out o1)
  have p10 : ∀ o1 o2 : Obj, ((w2.alloc o1).alloc o2).cell? ⟨g, 10, none⟩ = some (.string h.a5) := fun o1 o2 => cell_of_row _ g 10 _ _ _ (HG0.out o1 o2)
  have q10 : ∀ o1 : Obj, (w2.alloc o1).cell? ⟨g, 10, none⟩ = some (.string h.a5) := fun o1 => cell_of_row _ g 10 _ _ _ (HG1.out o1)
  have p11 : ∀ o1 o2 : Obj, ((w2.alloc o1).alloc o2).cell? ⟨g, 11, none⟩ = some (.string h.a6) := fun o1 o2 => cell_of_row _ g 11 _ _ _ (HG0.out o1 o2)
  have q11 : ∀ o1 : Obj, (w2.alloc o1).cell? ⟨g, 11, none⟩ = some (.string h.a6) := fun o1 => cell_of_row _ g 11 _ _ _ (HG1.out o1)
  have p12 : ∀ o1 o2 : Obj, ((w2.alloc o1).alloc o2).cell? ⟨g, 12, none⟩ = some (.string h.a7) := fun o1 o2 => cell_of_row _ g 12 _ _ _ (HG0.out o1 o2)
  have q12 : ∀ o1 : Obj, (w2.alloc o1).cell? ⟨g, 12, none⟩ = some (.string h.a7) := fun o1 => cell_of_row _ g 12 _ _ _ (HG1.out o1)
  have p13 : ∀ o1 o2 : Obj, ((w2.alloc o1).alloc o2).cell? ⟨g, 13, none⟩ = some (.string h.a8) := fun o1 o2 => cell_of_row _ g 13 _ _ _ (HG0.out o1 o2)
  have q13 : ∀ o1 : Obj, (w2.alloc o1).cell? ⟨g, 13, none⟩ = some (.string h.a8) := fun o1 => cell_of_row _ g 13 _ _ _ (HG1.out o1)
  have p14 : ∀ o1 o2 : Obj, ((w2.alloc o1).alloc o2).cell? ⟨g, 14, none⟩ = some (.string h.a9) := fun o1 o2 => cell_of_row _ g 14 _ _ _ (HG0.out o1 o2)
  have q14 : ∀ o1 : Obj, (w2.alloc o1).cell? ⟨g, 14, none⟩ = some (.string h.a9) := fun o1 => cell_of_row _ g 14 _ _ _ (HG1.out o1)
  have HPP : Hid (BoxH h w2.heap.size ((w2.alloc (.cells #[u8 h.d.a, u8 h.d.b, u8 h.d.c, u8 h.d.d, u8 h.d.e, .string h.a0, .string h.a1, .string h.a2, .string h.a3, .string h.a4, .string h.a5, .string h.a6, .string h.a7, .string h.a8, .string h.a9] TH)).alloc (.cells #[u8 h.d.a, u8 h.d.b, u8 h.d.c, u8 h.d.d, u8 h.d.e, .string h.a0, .string h.a1, .string h.a2, .string h.a3, .string h.a4, .string h.a5, .string h.a6, .string h.a7, .string h.a8, .string h.a9] TH)).drew) := Lib.hid (BoxH.below (w := w2.alloc (.cells #[u8 h.d.a, u8 h.d.b, u8 h.d.c, u8 h.d.d, u8 h.d.e, .string h.a0, .string h.a1, .string h.a2, .string h.a3, .string h.a4, .string h.a5, .string h.a6, .string h.a7, .string h.a8, .string h.a9] TH)) (heap_alloc_new w2 _) ((Below.refl _ _).alloc (Nat.le_refl _) _).drew)
  have HQQ : Hid (BoxH h (w2.heap.size + 1) ((w2.alloc (.cells #[u8 h.d.a, u8 h.d.b, u8 h.d.c, u8 h.d.d, u8 h.d.e, .string h.a0, .string h.a1, .string h.a2, .string h.a3, .string h.a4, .string h.a5, .string h.a6, .string h.a7, .string h.a8, .string h.a9] TH)).alloc (.cells #[u8 h.d.a, u8 h.d.b, u8 h.d.c, u8 h.d.d, u8 h.d.e, .string h.a0, .string h.a1, .string h.a2, .string h.a3, .string h.a4, .string h.a5, .string h.a6, .string h.a7, .string h.a8, .string h.a9] TH)).drew) := Lib.hid (by
    have := heap_alloc_new (w2.alloc (.cells #[u8 h.d.a, u8 h.d.b, u8 h.d.c, u8 h.d.d, u8 h.d.e, .string h.a0, .string h.a1, .string h.a2, .string h.a3, .string h.a4, .string h.a5, .string h.a6, .string h.a7, .string h.a8, .string h.a9] TH)) (.cells #[u8 h.d.a, u8 h.d.b, u8 h.d.c, u8 h.d.d, u8 h.d.e, .string h.a0, .string h.a1, .string h.a2, .string h.a3, .string h.a4, .string h.a5, .string h.a6, .string h.a7, .string h.a8, .string h.a9] TH)
    simp only [World.size_alloc] at this
    exact this)
  have HGG : Hid (BoxH h g ((w2.alloc (.cells #[u8 h.d.a, u8 h.d.b, u8 h.d.c, u8 h.d.d, u8 h.d.e, .string h.a0, .string h.a1, .string h.a2, .string h.a3, .string h.a4, .string h.a5, .string h.a6, .string h.a7, .string h.a8, .string h.a9] TH)).alloc (.cells #[u8 h.d.a, u8 h.d.b, u8 h.d.c, u8 h.d.d, u8 h.d.e, .string h.a0, .string h.a1, .string h.a2, .string h.a3, .string h.a4, .string h.a5, .string h.a6, .string h.a7, .string h.a8, .string h.a9] TH)).drew) := Lib.hid (HG0.out _ _)
  have HBB : Hid (Below w.heap.size w ((w2.alloc (.cells #[u8 h.d.a, u8 h.d.b, u8 h.d.c, u8 h.d.d, u8 h.d.e, .string h.a0, .string h.a1, .string h.a2, .string h.a3, .string h.a4, .string h.a5, .string h.a6, .string h.a7, .string h.a8, .string h.a9] TH)).alloc (.cells #[u8 h.d.a, u8 h.d.b, u8 h.d.c, u8 h.d.d, u8 h.d.e, .string h.a0, .string h.a1, .string h.a2, .string h.a3, .string h.a4, .string h.a5, .string h.a6, .string h.a7, .string h.a8, .string h.a9] TH)).drew) := Lib.hid ((HB2.out.alloc HB2.out.size _).alloc (Nat.le_trans HB2.out.size (by simp)) _).drew
  have HVV : Hid (Vers ((w2.alloc (.cells #[u8 h.d.a, u8 h.d.b, u8 h.d.c, u8 h.d.d, u8 h.d.e, .string h.a0, .string h.a1, .string h.a2, .string h.a3, .string h.a4, .string h.a5, .string h.a6, .string h.a7, .string h.a8, .string h.a9] TH)).alloc (.cells #[u8 h.d.a, u8 h.d.b, u8 h.d.c, u8 h.d.d, u8 h.d.e, .string h.a0, .string h.a1, .string h.a2, .string h.a3, .string h.a4, .string h.a5, .string h.a6, .string h.a7, .string h.a8, .string h.a9] TH)).drew) := Lib.hid (HV2.out.below (((Below.refl _ _).alloc (Nat.le_refl _) _).alloc (by simp) _).drew)
  go_region
  · as_aux_lemma =>
      clear c0 p0 q0 c1 p1 q1 c2 p2 q2 c3 p3 q3 c4 p4 q4 c5 p5 q5 c6 p6 q6 c7 p7 q7 c8 p8 q8 c9 p9 q9 c10 p10 q10 c11 p11 q11 c12 p12 q12 c13 p13 q13 c14 p14 q14 HG0 HG1 HX1
      generalize ((w2.alloc (.cells #[u8 h.d.a, u8 h.d.b, u8 h.d.c, u8 h.d.d, u8 h.d.e, .string h.a0, .string h.a1, .string h.a2, .string h.a3, .string h.a4, .string h.a5, .string h.a6, .string h.a7, .string h.a8, .string h.a9] TH)).alloc (.cells #[u8 h.d.a, u8 h.d.b, u8 h.d.c, u8 h.d.d, u8 h.d.e, .string h.a0, .string h.a1, .string h.a2, .string h.a3, .string h.a4, .string h.a5, .string h.a6, .string h.a7, .string h.a8, .string h.a9] TH)).drew = W at *
      obtain ⟨n3, e3⟩ : ∃ n, n = w2.heap.size := ⟨_, rfl⟩
      obtain ⟨n4, e4⟩ : ∃ n, n = w2.heap.size + 1 := ⟨_, rfl⟩
      have HL3 : Hid (n3 ≠ n4 ∧ g ≠ n3 ∧ g ≠ n4 ∧ w.heap.size ≤ n3 ∧ w.heap.size ≤ n4) := Lib.hid (by have := HN3.out; omega)
      have H3 : Hid (BoxH h n3 W) := Lib.hid (by rw [e3]; exact HPP.out)
      have H4 : Hid (BoxH h n4 W) := Lib.hid (by rw [e4]; exact HQQ.out)
      rw [← e4, ← e3]
      clear e3 e4 HPP HQQ
      obtain ⟨c0, c1, c2, c3, c4, c5, c6, c7, c8, c9, c10, c11, c12, c13, c14⟩ := H3.out.cells
      obtain ⟨f0, f1, f2, f3, f4, f5, f6, f7, f8, f9, f10, f11, f12, f13, f14⟩ := H3.out.frz
      obtain ⟨p0, p1, p2, p3, p4, p5, p6, p7, p8, p9, p10, p11, p12, p13, p14⟩ := H4.out.cells
      obtain ⟨r0, r1, r2, r3, r4, r5, r6, r7, r8, r9, r10, r11, r12, r13, r14⟩ := H4.out.frz
      have HE3 : Hid (BoxH { h with a7 := ⟨#[]⟩ } n3 ((W.setCell ⟨n3, 12, none⟩ (.string ⟨#[]⟩)).setCell ⟨n4, 14, none⟩ (.string ⟨#[57]⟩))) := Lib.hid ((H3.out.set7 _).other HL3.out.1 _ _)
      have HE4 : Hid (BoxH { h with a9 := ⟨#[57]⟩ } n4 ((W.setCell ⟨n3, 12, none⟩ (.string ⟨#[]⟩)).setCell ⟨n4, 14, none⟩ (.string ⟨#[57]⟩))) := Lib.hid ((H4.out.other (fun e => HL3.out.1 e.symm) _ _).set9 _)
      have HEG : Hid (BoxH h g ((W.setCell ⟨n3, 12, none⟩ (.string ⟨#[]⟩)).setCell ⟨n4, 14, none⟩ (.string ⟨#[57]⟩))) := Lib.hid ((HGG.out.other HL3.out.2.1 _ _).other HL3.out.2.2.1 _ _)
      have HEB : Hid (Below w.heap.size w ((W.setCell ⟨n3, 12, none⟩ (.string ⟨#[]⟩)).setCell ⟨n4, 14, none⟩ (.string ⟨#[57]⟩))) := Lib.hid ((HBB.out.setCell (p := ⟨n3, 12, none⟩) HL3.out.2.2.2.1 _).setCell (p := ⟨n4, 14, none⟩) HL3.out.2.2.2.2 _)
      have HEV : Hid (Vers ((W.setCell ⟨n3, 12, none⟩ (.string ⟨#[]⟩)).setCell ⟨n4, 14, none⟩ (.string ⟨#[57]⟩))) := Lib.hid (HV.out.below HEB.out)
      obtain ⟨q0, q1, q2, q3, q4, q5, q6, q7, q8, q9, q10, q11, q12, q13, q14⟩ := HEG.out.cells
      have HW : Hid True := Lib.hid trivial
      go_wp2_with (fail)
      generalize ((W.setCell ⟨n3, 12, none⟩ (.string ⟨#[]⟩)).setCell ⟨n4, 14, none⟩ (.string ⟨#[57]⟩)) = w5 at *
      refine (check_ h w5 HEV.out (by have := K4.out; omega) (by have := K9.out; omega)).mono ?_
      rintro e w6 ⟨rfl, hb6⟩
      rw [K1.out]
      have H36 := Lib.hid (HE3.out.below hb6)
      have H46 := Lib.hid (HE4.out.below hb6)
      have HB6 := Lib.hid (HEB.out.trans (hb6.mono HEB.out.size))
      clear hb6 c0 c1 c2 c3 c4 c5 c6 c7 c8 c9 c10 c11 c12 c13 c14 f0 f1 f2 f3 f4 f5 f6 f7 f8 f9 f10 f11 f12 f13 f14 p0 p1 p2 p3 p4 p5 p6 p7 p8 p9 p10 p11 p12 p13 p14 r0 r1 r2 r3 r4 r5 r6 r7 r8 r9 r10 r11 r12 r13 r14 q0 q1 q2 q3 q4 q5 q6 q7 q8 q9 q10 q11 q12 q13 q14
      obtain ⟨c0, c1, c2, c3, c4, c5, c6, c7, c8, c9, c10, c11, c12, c13, c14⟩ := H36.out.cells
      go_wp2_with (fail)
      refine (check_ { h with a7 := ⟨#[]⟩ } w6 (HV.out.below HB6.out) (by show h.a8.size ≤ 1000000000; have := K4.out; omega) (by show h.a9.size ≤ 1000000000; have := K9.out; omega)).mono ?_
      rintro e w7 ⟨rfl, hb7⟩
      rw [K2.out]
      have H47 := Lib.hid (H46.out.below hb7)
      have HB7 := Lib.hid (HB6.out.trans (hb7.mono HB6.out.size))
      clear hb7 c0 c1 c2 c3 c4 c5 c6 c7 c8 c9 c10 c11 c12 c13 c14
      obtain ⟨c0, c1, c2, c3, c4, c5, c6, c7, c8, c9, c10, c11, c12, c13, c14⟩ := H47.out.cells
      go_wp2_with (fail)
      refine (check_ { h with a9 := ⟨#[57]⟩ } w7 (HV.out.below HB7.out) (by show h.a8.size ≤ 1000000000; have := K4.out; omega) (by show (1 : Nat) ≤ 1000000000; omega)).mono ?_
      rintro e w8 ⟨rfl, hb8⟩
      rw [K3.out]
      have HB8 := Lib.hid (HB7.out.trans (hb8.mono HB7.out.size))
      clear hb8 c0 c1 c2 c3 c4 c5 c6 c7 c8 c9 c10 c11 c12 c13 c14
      go_wp2_with (fail)
      go_ret
      exact ⟨rfl, HB8.out⟩
  · as_aux_lemma =>
      clear c0 p0 q0 c1 p1 q1 c2 p2 q2 c3 p3 q3 c4 p4 q4 c5 p5 q5 c6 p6 q6 c7 p7 q7 c8 p8 q8 c9 p9 q9 c10 p10 q10 c11 p11 q11 c12 p12 q12 c13 p13 q13 c14 p14 q14 HG0 HG1 HX1
      generalize ((w2.alloc (.cells #[u8 h.d.a, u8 h.d.b, u8 h.d.c, u8 h.d.d, u8 h.d.e, .string h.a0, .string h.a1, .string h.a2, .string h.a3, .string h.a4, .string h.a5, .string h.a6, .string h.a7, .string h.a8, .string h.a9] TH)).alloc (.cells #[u8 h.d.a, u8 h.d.b, u8 h.d.c, u8 h.d.d, u8 h.d.e, .string h.a0, .string h.a1, .string h.a2, .string h.a3, .string h.a4, .string h.a5, .string h.a6, .string h.a7, .string h.a8, .string h.a9] TH)).drew = W at *
      obtain ⟨n3, e3⟩ : ∃ n, n = w2.heap.size + 1 := ⟨_, rfl⟩
      obtain ⟨n4, e4⟩ : ∃ n, n = w2.heap.size := ⟨_, rfl⟩
      have HL3 : Hid (n3 ≠ n4 ∧ g ≠ n3 ∧ g ≠ n4 ∧ w.heap.size ≤ n3 ∧ w.heap.size ≤ n4) := Lib.hid (by have := HN3.out; omega)
      have H3 : Hid (BoxH h n3 W) := Lib.hid (by rw [e3]; exact HQQ.out)
      have H4 : Hid (BoxH h n4 W) := Lib.hid (by rw [e4]; exact HPP.out)
      rw [← e3, ← e4]
      clear e3 e4 HPP HQQ
      obtain ⟨c0, c1, c2, c3, c4, c5, c6, c7, c8, c9, c10, c11, c12, c13, c14⟩ := H3.out.cells
      obtain ⟨f0, f1, f2, f3, f4, f5, f6, f7, f8, f9, f10, f11, f12, f13, f14⟩ := H3.out.frz
      obtain ⟨p0, p1, p2, p3, p4, p5, p6, p7, p8, p9, p10, p11, p12, p13, p14⟩ := H4.out.cells
      obtain ⟨r0, r1, r2, r3, r4, r5, r6, r7, r8, r9, r10, r11, r12, r13, r14⟩ := H4.out.frz
      have HE3 : Hid (BoxH { h with a7 := ⟨#[]⟩ } n3 ((W.setCell ⟨n3, 12, none⟩ (.string ⟨#[]⟩)).setCell ⟨n4, 14, none⟩ (.string ⟨#[57]⟩))) := Lib.hid ((H3.out.set7 _).other HL3.out.1 _ _)
      have HE4 : Hid (BoxH { h with a9 := ⟨#[57]⟩ } n4 ((W.setCell ⟨n3, 12, none⟩ (.string ⟨#[]⟩)).setCell ⟨n4, 14, none⟩ (.string ⟨#[57]⟩))) := Lib.hid ((H4.out.other (fun e => HL3.out.1 e.symm) _ _).set9 _)
      have HEG : Hid (BoxH h g ((W.setCell ⟨n3, 12, none⟩ (.string ⟨#[]⟩)).setCell ⟨n4, 14, none⟩ (.string ⟨#[57]⟩))) := Lib.hid ((HGG.out.other HL3.out.2.1 _ _).other HL3.out.2.2.1 _ _)
      have HEB : Hid (Below w.heap.size w ((W.setCell ⟨n3, 12, none⟩ (.string ⟨#[]⟩)).setCell ⟨n4, 14, none⟩ (.string ⟨#[57]⟩))) := Lib.hid ((HBB.out.setCell (p := ⟨n3, 12, none⟩) HL3.out.2.2.2.1 _).setCell (p := ⟨n4, 14, none⟩) HL3.out.2.2.2.2 _)
      have HEV : Hid (Vers ((W.setCell ⟨n3, 12, none⟩ (.string ⟨#[]⟩)).setCell ⟨n4, 14, none⟩ (.string ⟨#[57]⟩))) := Lib.hid (HV.out.below HEB.out)
      obtain ⟨q0, q1, q2, q3, q4, q5, q6, q7, q8, q9, q10, q11, q12, q13, q14⟩ := HEG.out.cells
      have HW : Hid True := Lib.hid trivial
      go_wp2_with (fail)
      generalize ((W.setCell ⟨n3, 12, none⟩ (.string ⟨#[]⟩)).setCell ⟨n4, 14, none⟩ (.string ⟨#[57]⟩)) = w5 at *
      refine (check_ h w5 HEV.out (by have := K4.out; omega) (by have := K9.out; omega)).mono ?_
      rintro e w6 ⟨rfl, hb6⟩
      rw [K1.out]
      have H36 := Lib.hid (HE3.out.below hb6)
      have H46 := Lib.hid (HE4.out.below hb6)
      have HB6 := Lib.hid (HEB.out.trans (hb6.mono HEB.out.size))
      clear hb6 c0 c1 c2 c3 c4 c5 c6 c7 c8 c9 c10 c11 c12 c13 c14 f0 f1 f2 f3 f4 f5 f6 f7 f8 f9 f10 f11 f12 f13 f14 p0 p1 p2 p3 p4 p5 p6 p7 p8 p9 p10 p11 p12 p13 p14 r0 r1 r2 r3 r4 r5 r6 r7 r8 r9 r10 r11 r12 r13 r14 q0 q1 q2 q3 q4 q5 q6 q7 q8 q9 q10 q11 q12 q13 q14
      obtain ⟨c0, c1, c2, c3, c4, c5, c6, c7, c8, c9, c10, c11, c12, c13, c14⟩ := H36.out.cells
      go_wp2_with (fail)
      refine (check_ { h with a7 := ⟨#[]⟩ } w6 (HV.out.below HB6.out) (by show h.a8.size ≤ 1000000000; have := K4.out; omega) (by show h.a9.size ≤ 1000000000; have := K9.out; omega)).mono ?_
      rintro e w7 ⟨rfl, hb7⟩
      rw [K2.out]
      have H47 := Lib.hid (H46.out.below hb7)
      have HB7 := Lib.hid (HB6.out.trans (hb7.mono HB6.out.size))
      clear hb7 c0 c1 c2 c3 c4 c5 c6 c7 c8 c9 c10 c11 c12 c13 c14
      obtain ⟨c0, c1, c2, c3, c4, c5, c6, c7, c8, c9, c10, c11, c12, c13, c14⟩ := H47.out.cells
      go_wp2_with (fail)
      refine (check_ { h with a9 := ⟨#[57]⟩ } w7 (HV.out.below HB7.out) (by show h.a8.size ≤ 1000000000; have := K4.out; omega) (by show (1 : Nat) ≤ 1000000000; omega)).mono ?_
      rintro e w8 ⟨rfl, hb8⟩
      rw [K3.out]
      have HB8 := Lib.hid (HB7.out.trans (hb8.mono HB7.out.size))
      clear hb8 c0 c1 c2 c3 c4 c5 c6 c7 c8 c9 c10 c11 c12 c13 c14
      go_wp2_with (fail)
      go_ret
      exact ⟨rfl, HB8.out⟩
end Go.Proofs.YtodgcmjdnfbegaaDoor
