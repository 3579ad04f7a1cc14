/- Layer 19's answers: an event read. -/
import Derived.Test.YtnoppnnpennddaaDoorTrR
import Derived.Test.YtnoppnnpennddaaDoorTr5
import Derived.Test.YtnoppnnpennddaaDoorTr11
import Derived.Test.YtnoppnnpennddaaDoorRefCut
namespace Go.Proofs.YtnoppnnpennddaaDoor
open Go.RowKit

theorem cut_join (l : List UInt8) {W : List (List UInt8)} (h : cutAt 32 l = W) : Lib.join W [32] = l := by rw [← h]; exact cutAt_join 32 l

theorem two_three {W : List (List UInt8)} (h2 : ¬ W.length < 2) (h3 : ¬ 3 < W.length) : (∃ a b c, W = [a, b, c]) ∨ (∃ a b, W = [a, b]) := by
  match W with
  | [] => simp at h2
  | [_] => simp at h2
  | [a, b] => exact .inr ⟨a, b, rfl⟩
  | [a, b, c] => exact .inl ⟨a, b, c, rfl⟩
  | _ :: _ :: _ :: _ :: _ => simp at h3

set_option maxHeartbeats 16000000 in
set_option maxRecDepth 100000 in
theorem refRead19 (s : ByteArray) (w : World) (hs : s.size ≤ 100000000) : Calls Tryd.prog 14 #[.string s] w (RetRd (readW (wordsN s.data.toList)) w) := by
  have HZ0 : Hid ((w.alloc (.cells (evC 0 0 0 nilE) TE)).heap[w.heap.size]? = some (.cells (evC 0 0 0 nilE) TE)) := Lib.hid (heap_alloc_new w _)
  have HB0 : Hid (Below w.heap.size w (w.alloc (.cells (evC 0 0 0 nilE) TE))) := Lib.hid ((Below.refl _ w).alloc (Nat.le_refl _) _)
  have HS := Lib.hid hs
  obtain ⟨T, hT⟩ : ∃ T, T = wordsN s.data.toList := ⟨_, rfl⟩
  rw [← hT]
  have HT := Lib.hid hT
  clear hT hs
  go_enter Tryd.func14, Tryd.ntmps14
  go_wp2_with (fail)
  generalize w.alloc (.cells (evC 0 0 0 nilE) TE) = w0 at *
  obtain ⟨G, hG⟩ : ∃ G, G = w.heap.size := ⟨_, rfl⟩
  have HG := Lib.hid hG
  rw [← hG] at HZ0 ⊢
  clear hG
  refine (refCut s 32 w0 (by have := HS.out; omega)).mono ?_
  rintro e w1 ⟨A, c, rfl, hS, hb⟩
  have hl0 := (Array.getElem?_eq_some_iff.1 HZ0.out).1
  have HZ1 := Lib.hid (heap_keep ((hb.block _ hl0).trans HZ0.out) (.cells (evC 0 0 0 nilE) TE))
  have hb1 := (HB0.out.trans (hb.mono HB0.out.size))
  have HB1 := Lib.hid (hb1.alloc hb1.size (.cells (evC 0 0 0 nilE) TE))
  have HS1 := Lib.hid (hS.below ((Below.refl _ w1).alloc (Nat.le_refl _) (.cells (evC 0 0 0 nilE) TE)))
  have HZ5' : Hid ((w1.alloc (.cells (evC 0 0 0 nilE) TE)).heap[w1.heap.size]? = some (.cells (evC 0 0 0 nilE) TE)) := Lib.hid (heap_alloc_new w1 _)
  clear hb hS HZ0 HB0 hl0 hb1
  obtain ⟨W, hW⟩ : ∃ W, W = cutAt 32 s.data.toList := ⟨_, rfl⟩
  have HW := Lib.hid hW
  have HPL : Hid (∀ x ∈ W, x.length ≤ 100000000) := Lib.hid (fun x hx => by have := cutAt_mem_le 32 s.data.toList x (hW ▸ hx); have e : s.data.toList.length = s.size := by simp
                                                                            have := HS.out; omega)
  rw [← hW] at HS1 ⊢
  clear hW
  have HWN : Hid (W.length ≤ 1000000000) := Lib.hid (by rw [HW.out, cutAt_length]; have := List.count_le_length (a := (32 : UInt8)) (l := s.data.toList); have e : s.data.toList.length = s.size := by simp
                                                        have := HS.out; omega)
  by_cases hdin : s.data.toList = [100, 114, 111, 112, 32, 105, 110]
  · as_aux_lemma =>
    have HNR : Hid (readW T = some (2, 0, 0, [])) := Lib.hid (by rw [HT.out, hdin]; decide +kernel)
    have c1 : (s.toList == [100, 114, 111, 112, 32, 105, 110]) = true := by rw [Go.ByteArray.toList_eq, hdin]; rfl
    clear hdin
    obtain ⟨G5, hG5⟩ : ∃ G5, G5 = w1.heap.size := ⟨_, rfl⟩
    have HZF := Lib.hid HZ1.out
    have HBX := Lib.hid HB1.out
    have HZ5 := Lib.hid HZ5'.out
    rw [← hG5] at HZ5
    clear hG5
    have z0 : (w1.alloc (.cells (evC 0 0 0 nilE) TE)).cell? ⟨G, 0, none⟩ = some (.int .i64 0) := cell_of_row _ G 0 _ _ _ HZF.out
    have z1 : (w1.alloc (.cells (evC 0 0 0 nilE) TE)).cell? ⟨G, 1, none⟩ = some (.int .i64 0) := cell_of_row _ G 1 _ _ _ HZF.out
    have z2 : (w1.alloc (.cells (evC 0 0 0 nilE) TE)).cell? ⟨G, 2, none⟩ = some (.int .i64 0) := cell_of_row _ G 2 _ _ _ HZF.out
    have z3 : (w1.alloc (.cells (evC 0 0 0 nilE) TE)).cell? ⟨G, 3, none⟩ = some nilE := cell_of_row _ G 3 _ _ _ HZF.out
    have y0 := frozen_row (j := 0) HZF.out
    have y1 := frozen_row (j := 1) HZF.out
    have y2 := frozen_row (j := 2) HZF.out
    have y3 := frozen_row (j := 3) HZF.out
    have HBF : Hid (Below w.heap.size w (((((w1.alloc (.cells (evC 0 0 0 nilE) TE)).setCell ⟨G, 0, none⟩ (.int .i64 (2))).setCell ⟨G, 1, none⟩ (.int .i64 (0))).setCell ⟨G, 2, none⟩ (.int .i64 (0))).setCell ⟨G, 3, none⟩ (nilE))) := Lib.hid ((((HBX.out.setCell (p := ⟨G, 0, none⟩) (Nat.le_of_eq HG.out.symm) _).setCell (p := ⟨G, 1, none⟩) (Nat.le_of_eq HG.out.symm) _).setCell (p := ⟨G, 2, none⟩) (Nat.le_of_eq HG.out.symm) _).setCell (p := ⟨G, 3, none⟩) (Nat.le_of_eq HG.out.symm) _)
    have e0 : (w1.alloc (.cells (evC 0 0 0 nilE) TE)).cell? ⟨G5, 0, none⟩ = some (.int .i64 0) := cell_of_row _ G5 0 _ _ _ HZ5.out
    have e1 : (w1.alloc (.cells (evC 0 0 0 nilE) TE)).cell? ⟨G5, 1, none⟩ = some (.int .i64 0) := cell_of_row _ G5 1 _ _ _ HZ5.out
    have e2 : (w1.alloc (.cells (evC 0 0 0 nilE) TE)).cell? ⟨G5, 2, none⟩ = some (.int .i64 0) := cell_of_row _ G5 2 _ _ _ HZ5.out
    have e3 : (w1.alloc (.cells (evC 0 0 0 nilE) TE)).cell? ⟨G5, 3, none⟩ = some nilE := cell_of_row _ G5 3 _ _ _ HZ5.out
    go_wp2_with (fail)
    refine bodyPost_ret (v := .tuple #[evV (2) (0) (0) (nilE), .int .i64 0]) ?_ rfl (.inr ⟨_, _, _, _, _, _, _, HNR.out, rfl, Bs.none_ _, (fun x hx => by cases hx), HBF.out⟩)
    exact resultsE Tryd.results14 _ _ G _ _ _ _ _ _ _ (by kernel_rfl) (by kernel_rfl) (finish_heap HZF.out rfl)
  have c1 : (s.toList == [100, 114, 111, 112, 32, 105, 110]) = false := by rw [Go.ByteArray.toList_eq, beq_eq_false_iff_ne]; exact hdin
  by_cases hdout : s.data.toList = [100, 114, 111, 112, 32, 111, 117, 116]
  · as_aux_lemma =>
    have HNR : Hid (readW T = some (3, 0, 0, [])) := Lib.hid (by rw [HT.out, hdout]; decide +kernel)
    have c2 : (s.toList == [100, 114, 111, 112, 32, 105, 110]) = false := by rw [Go.ByteArray.toList_eq, hdout]; rfl
    have c1 : (s.toList == [100, 114, 111, 112, 32, 111, 117, 116]) = true := by rw [Go.ByteArray.toList_eq, hdout]; rfl
    clear hdout hdin
    obtain ⟨G5, hG5⟩ : ∃ G5, G5 = w1.heap.size := ⟨_, rfl⟩
    have HZF := Lib.hid HZ1.out
    have HBX := Lib.hid HB1.out
    have HZ5 := Lib.hid HZ5'.out
    rw [← hG5] at HZ5
    clear hG5
    have z0 : (w1.alloc (.cells (evC 0 0 0 nilE) TE)).cell? ⟨G, 0, none⟩ = some (.int .i64 0) := cell_of_row _ G 0 _ _ _ HZF.out
    have z1 : (w1.alloc (.cells (evC 0 0 0 nilE) TE)).cell? ⟨G, 1, none⟩ = some (.int .i64 0) := cell_of_row _ G 1 _ _ _ HZF.out
    have z2 : (w1.alloc (.cells (evC 0 0 0 nilE) TE)).cell? ⟨G, 2, none⟩ = some (.int .i64 0) := cell_of_row _ G 2 _ _ _ HZF.out
    have z3 : (w1.alloc (.cells (evC 0 0 0 nilE) TE)).cell? ⟨G, 3, none⟩ = some nilE := cell_of_row _ G 3 _ _ _ HZF.out
    have y0 := frozen_row (j := 0) HZF.out
    have y1 := frozen_row (j := 1) HZF.out
    have y2 := frozen_row (j := 2) HZF.out
    have y3 := frozen_row (j := 3) HZF.out
    have HBF : Hid (Below w.heap.size w (((((w1.alloc (.cells (evC 0 0 0 nilE) TE)).setCell ⟨G, 0, none⟩ (.int .i64 (3))).setCell ⟨G, 1, none⟩ (.int .i64 (0))).setCell ⟨G, 2, none⟩ (.int .i64 (0))).setCell ⟨G, 3, none⟩ (nilE))) := Lib.hid ((((HBX.out.setCell (p := ⟨G, 0, none⟩) (Nat.le_of_eq HG.out.symm) _).setCell (p := ⟨G, 1, none⟩) (Nat.le_of_eq HG.out.symm) _).setCell (p := ⟨G, 2, none⟩) (Nat.le_of_eq HG.out.symm) _).setCell (p := ⟨G, 3, none⟩) (Nat.le_of_eq HG.out.symm) _)
    have e0 : (w1.alloc (.cells (evC 0 0 0 nilE) TE)).cell? ⟨G5, 0, none⟩ = some (.int .i64 0) := cell_of_row _ G5 0 _ _ _ HZ5.out
    have e1 : (w1.alloc (.cells (evC 0 0 0 nilE) TE)).cell? ⟨G5, 1, none⟩ = some (.int .i64 0) := cell_of_row _ G5 1 _ _ _ HZ5.out
    have e2 : (w1.alloc (.cells (evC 0 0 0 nilE) TE)).cell? ⟨G5, 2, none⟩ = some (.int .i64 0) := cell_of_row _ G5 2 _ _ _ HZ5.out
    have e3 : (w1.alloc (.cells (evC 0 0 0 nilE) TE)).cell? ⟨G5, 3, none⟩ = some nilE := cell_of_row _ G5 3 _ _ _ HZ5.out
    go_wp2_with (fail)
    refine bodyPost_ret (v := .tuple #[evV (3) (0) (0) (nilE), .int .i64 0]) ?_ rfl (.inr ⟨_, _, _, _, _, _, _, HNR.out, rfl, Bs.none_ _, (fun x hx => by cases hx), HBF.out⟩)
    exact resultsE Tryd.results14 _ _ G _ _ _ _ _ _ _ (by kernel_rfl) (by kernel_rfl) (finish_heap HZF.out rfl)
  have c2 : (s.toList == [100, 114, 111, 112, 32, 111, 117, 116]) = false := by rw [Go.ByteArray.toList_eq, beq_eq_false_iff_ne]; exact hdout
  have HDI := Lib.hid hdin
  have HDO := Lib.hid hdout
  clear hdin hdout
  by_cases hn2 : W.length < 2
  · as_aux_lemma =>
    have HNR : Hid (readW T = none) := Lib.hid (by
      rw [HT.out, cut_few (by rw [← HW.out]; omega), ← HW.out]
      match W, hn2, HW.out with
      | [], _, h => exact absurd h.symm (cutAt_ne 32 _)
      | [a], _, _ => exact readW_one a)
    have d1 : decide ((W.length : Int) < 2) = true := by rw [decide_eq_true_iff]; omega
    obtain ⟨G5, hG5⟩ : ∃ G5, G5 = w1.heap.size := ⟨_, rfl⟩
    have HZF := Lib.hid HZ1.out
    have HBX := Lib.hid HB1.out
    have HZ5 := Lib.hid HZ5'.out
    rw [← hG5] at HZ5
    clear hG5
    have z0 : (w1.alloc (.cells (evC 0 0 0 nilE) TE)).cell? ⟨G, 0, none⟩ = some (.int .i64 0) := cell_of_row _ G 0 _ _ _ HZF.out
    have z1 : (w1.alloc (.cells (evC 0 0 0 nilE) TE)).cell? ⟨G, 1, none⟩ = some (.int .i64 0) := cell_of_row _ G 1 _ _ _ HZF.out
    have z2 : (w1.alloc (.cells (evC 0 0 0 nilE) TE)).cell? ⟨G, 2, none⟩ = some (.int .i64 0) := cell_of_row _ G 2 _ _ _ HZF.out
    have z3 : (w1.alloc (.cells (evC 0 0 0 nilE) TE)).cell? ⟨G, 3, none⟩ = some nilE := cell_of_row _ G 3 _ _ _ HZF.out
    have y0 := frozen_row (j := 0) HZF.out
    have y1 := frozen_row (j := 1) HZF.out
    have y2 := frozen_row (j := 2) HZF.out
    have y3 := frozen_row (j := 3) HZF.out
    have HBF : Hid (Below w.heap.size w (((((w1.alloc (.cells (evC 0 0 0 nilE) TE)).setCell ⟨G, 0, none⟩ (.int .i64 (0))).setCell ⟨G, 1, none⟩ (.int .i64 (0))).setCell ⟨G, 2, none⟩ (.int .i64 (0))).setCell ⟨G, 3, none⟩ (nilE))) := Lib.hid ((((HBX.out.setCell (p := ⟨G, 0, none⟩) (Nat.le_of_eq HG.out.symm) _).setCell (p := ⟨G, 1, none⟩) (Nat.le_of_eq HG.out.symm) _).setCell (p := ⟨G, 2, none⟩) (Nat.le_of_eq HG.out.symm) _).setCell (p := ⟨G, 3, none⟩) (Nat.le_of_eq HG.out.symm) _)
    have e0 : (w1.alloc (.cells (evC 0 0 0 nilE) TE)).cell? ⟨G5, 0, none⟩ = some (.int .i64 0) := cell_of_row _ G5 0 _ _ _ HZ5.out
    have e1 : (w1.alloc (.cells (evC 0 0 0 nilE) TE)).cell? ⟨G5, 1, none⟩ = some (.int .i64 0) := cell_of_row _ G5 1 _ _ _ HZ5.out
    have e2 : (w1.alloc (.cells (evC 0 0 0 nilE) TE)).cell? ⟨G5, 2, none⟩ = some (.int .i64 0) := cell_of_row _ G5 2 _ _ _ HZ5.out
    have e3 : (w1.alloc (.cells (evC 0 0 0 nilE) TE)).cell? ⟨G5, 3, none⟩ = some nilE := cell_of_row _ G5 3 _ _ _ HZ5.out
    go_wp2_with (fail)
    refine bodyPost_ret (v := .tuple #[evV (0) (0) (0) (nilE), .int .i64 10]) ?_ rfl (.inl ⟨HNR.out, rfl, HBF.out⟩)
    exact resultsE Tryd.results14 _ _ G _ _ _ _ _ _ _ (by kernel_rfl) (by kernel_rfl) (finish_heap HZF.out rfl)
  by_cases hn3 : 3 < W.length
  · as_aux_lemma =>
    have HNR : Hid (readW T = none) := Lib.hid (by rw [HT.out]; exact cut_many (by rw [← HW.out]; exact hn3))
    have d1 : decide ((W.length : Int) < 2) = false := by rw [decide_eq_false_iff_not]; omega
    have d2 : decide ((3 : Int) < (W.length : Int)) = true := by rw [decide_eq_true_iff]; omega
    have d3 : ¬ ((W.length : Int) < 2) := by omega
    have d4 : (3 : Int) < (W.length : Int) := by omega
    obtain ⟨G5, hG5⟩ : ∃ G5, G5 = w1.heap.size := ⟨_, rfl⟩
    have HZF := Lib.hid HZ1.out
    have HBX := Lib.hid HB1.out
    have HZ5 := Lib.hid HZ5'.out
    rw [← hG5] at HZ5
    clear hG5
    have z0 : (w1.alloc (.cells (evC 0 0 0 nilE) TE)).cell? ⟨G, 0, none⟩ = some (.int .i64 0) := cell_of_row _ G 0 _ _ _ HZF.out
    have z1 : (w1.alloc (.cells (evC 0 0 0 nilE) TE)).cell? ⟨G, 1, none⟩ = some (.int .i64 0) := cell_of_row _ G 1 _ _ _ HZF.out
    have z2 : (w1.alloc (.cells (evC 0 0 0 nilE) TE)).cell? ⟨G, 2, none⟩ = some (.int .i64 0) := cell_of_row _ G 2 _ _ _ HZF.out
    have z3 : (w1.alloc (.cells (evC 0 0 0 nilE) TE)).cell? ⟨G, 3, none⟩ = some nilE := cell_of_row _ G 3 _ _ _ HZF.out
    have y0 := frozen_row (j := 0) HZF.out
    have y1 := frozen_row (j := 1) HZF.out
    have y2 := frozen_row (j := 2) HZF.out
    have y3 := frozen_row (j := 3) HZF.out
    have HBF : Hid (Below w.heap.size w (((((w1.alloc (.cells (evC 0 0 0 nilE) TE)).setCell ⟨G, 0, none⟩ (.int .i64 (0))).setCell ⟨G, 1, none⟩ (.int .i64 (0))).setCell ⟨G, 2, none⟩ (.int .i64 (0))).setCell ⟨G, 3, none⟩ (nilE))) := Lib.hid ((((HBX.out.setCell (p := ⟨G, 0, none⟩) (Nat.le_of_eq HG.out.symm) _).setCell (p := ⟨G, 1, none⟩) (Nat.le_of_eq HG.out.symm) _).setCell (p := ⟨G, 2, none⟩) (Nat.le_of_eq HG.out.symm) _).setCell (p := ⟨G, 3, none⟩) (Nat.le_of_eq HG.out.symm) _)
    have e0 : (w1.alloc (.cells (evC 0 0 0 nilE) TE)).cell? ⟨G5, 0, none⟩ = some (.int .i64 0) := cell_of_row _ G5 0 _ _ _ HZ5.out
    have e1 : (w1.alloc (.cells (evC 0 0 0 nilE) TE)).cell? ⟨G5, 1, none⟩ = some (.int .i64 0) := cell_of_row _ G5 1 _ _ _ HZ5.out
    have e2 : (w1.alloc (.cells (evC 0 0 0 nilE) TE)).cell? ⟨G5, 2, none⟩ = some (.int .i64 0) := cell_of_row _ G5 2 _ _ _ HZ5.out
    have e3 : (w1.alloc (.cells (evC 0 0 0 nilE) TE)).cell? ⟨G5, 3, none⟩ = some nilE := cell_of_row _ G5 3 _ _ _ HZ5.out
    go_wp2_with (fail)
    refine bodyPost_ret (v := .tuple #[evV (0) (0) (0) (nilE), .int .i64 10]) ?_ rfl (.inl ⟨HNR.out, rfl, HBF.out⟩)
    exact resultsE Tryd.results14 _ _ G _ _ _ _ _ _ _ (by kernel_rfl) (by kernel_rfl) (finish_heap HZF.out rfl)
  have HTW : Hid (T = W) := Lib.hid (by rw [HT.out, cut_few (by rw [← HW.out]; omega), ← HW.out])
  have HJ := Lib.hid (cut_join _ HW.out.symm)
  rcases two_three hn2 hn3 with ⟨wa, wb, wc, rfl⟩ | ⟨wa, wb, rfl⟩
  · clear hn2 hn3
    simp only [List.length_cons, List.length_nil]
    obtain ⟨b, o, rfl, _, hc⟩ := HS1.out.at_ (by simp)
    have x0 := hc 0 _ rfl
    have x1 := hc 1 _ rfl
    have x2 := hc 2 _ rfl
    rw [Nat.add_zero] at x0
    clear hc
    by_cases harm : wa = [97, 114, 109]
    · subst harm
      go_wp2_with (fail)
      obtain ⟨G5, hG5⟩ : ∃ G5, G5 = w1.heap.size := ⟨_, rfl⟩
      rw [← hG5] at HZ5' ⊢
      clear hG5
      generalize w1.alloc (.cells (evC 0 0 0 nilE) TE) = w2 at *
      refine (refBytes19 (txt wb) w2 (by rw [size_txt]; exact HPL.out wb (by simp))).mono ?_
      rw [show bytesD (txt wb).data.toList = bytesD wb from rfl]
      rintro e w3 ⟨A5, m5, c5, rfl, hB5, hf5, hb3⟩
      have HF5 : Hid (∀ x, A5 = some x → w.heap.size ≤ x.block) := Lib.hid (fun x hx => Nat.le_trans HB1.out.size (hf5 x hx))
      clear hf5
      have hl1 := (Array.getElem?_eq_some_iff.1 HZ1.out).1
      have hl5 := (Array.getElem?_eq_some_iff.1 HZ5'.out).1
      have HZF := Lib.hid ((hb3.block _ hl1).trans HZ1.out)
      have HZ5 := Lib.hid ((hb3.block _ hl5).trans HZ5'.out)
      have HBX := Lib.hid (HB1.out.trans (hb3.mono HB1.out.size))
      have hS3 := HS1.out.below hb3
      have HB5 := Lib.hid hB5
      clear x0 x1 x2
      obtain ⟨b', o', e', _, hc⟩ := hS3.at_ (by simp)
      injection e' with e'
      injection e' with e1' e2'
      subst e1' e2'
      have x0 := hc 0 _ rfl
      have x1 := hc 1 _ rfl
      have x2 := hc 2 _ rfl
      rw [Nat.add_zero] at x0
      clear hc hS3 hl1 hl5 hb3 hB5
      go_wp2_with (fail)
      refine (refNumber (txt wb) w3 (by rw [size_txt]; exact HPL.out wb (by simp))).mono ?_
      rw [show (txt wb).data.toList = wb from rfl]
      rintro e w4 ⟨rfl, hw4⟩
      obtain rfl := hw4.symm
      clear hw4
      rcases hnb : numT wb with ⟨zb, ob⟩
      rcases ob with _ | _
      · as_aux_lemma =>
        have HNR : Hid (readW T = none) := Lib.hid (by rw [HTW.out, readW_arm]; simp [fieldsE, hnb])
        have z0 : w3.cell? ⟨G, 0, none⟩ = some (.int .i64 0) := cell_of_row _ G 0 _ _ _ HZF.out
        have z1 : w3.cell? ⟨G, 1, none⟩ = some (.int .i64 0) := cell_of_row _ G 1 _ _ _ HZF.out
        have z2 : w3.cell? ⟨G, 2, none⟩ = some (.int .i64 0) := cell_of_row _ G 2 _ _ _ HZF.out
        have z3 : w3.cell? ⟨G, 3, none⟩ = some nilE := cell_of_row _ G 3 _ _ _ HZF.out
        have y0 := frozen_row (j := 0) HZF.out
        have y1 := frozen_row (j := 1) HZF.out
        have y2 := frozen_row (j := 2) HZF.out
        have y3 := frozen_row (j := 3) HZF.out
        have HBF : Hid (Below w.heap.size w ((((w3.setCell ⟨G, 0, none⟩ (.int .i64 (0))).setCell ⟨G, 1, none⟩ (.int .i64 (0))).setCell ⟨G, 2, none⟩ (.int .i64 (0))).setCell ⟨G, 3, none⟩ (nilE))) := Lib.hid ((((HBX.out.setCell (p := ⟨G, 0, none⟩) (Nat.le_of_eq HG.out.symm) _).setCell (p := ⟨G, 1, none⟩) (Nat.le_of_eq HG.out.symm) _).setCell (p := ⟨G, 2, none⟩) (Nat.le_of_eq HG.out.symm) _).setCell (p := ⟨G, 3, none⟩) (Nat.le_of_eq HG.out.symm) _)
        have e0 : w3.cell? ⟨G5, 0, none⟩ = some (.int .i64 0) := cell_of_row _ G5 0 _ _ _ HZ5.out
        have e1 : w3.cell? ⟨G5, 1, none⟩ = some (.int .i64 0) := cell_of_row _ G5 1 _ _ _ HZ5.out
        have e2 : w3.cell? ⟨G5, 2, none⟩ = some (.int .i64 0) := cell_of_row _ G5 2 _ _ _ HZ5.out
        have e3 : w3.cell? ⟨G5, 3, none⟩ = some nilE := cell_of_row _ G5 3 _ _ _ HZ5.out
        go_wp2_with (fail)
        refine bodyPost_ret (v := .tuple #[evV (0) (0) (0) (nilE), .int .i64 10]) ?_ rfl (.inl ⟨HNR.out, rfl, HBF.out⟩)
        exact resultsE Tryd.results14 _ _ G _ _ _ _ _ _ _ (by kernel_rfl) (by kernel_rfl) (finish_heap HZF.out rfl)
      · go_wp2_with (fail)
        refine (refNumber (txt wc) w3 (by rw [size_txt]; exact HPL.out wc (by simp))).mono ?_
        rw [show (txt wc).data.toList = wc from rfl]
        rintro e w4 ⟨rfl, hw4⟩
        obtain rfl := hw4.symm
        clear hw4
        rcases hnc : numT wc with ⟨zc, oc⟩
        rcases oc with _ | _
        · as_aux_lemma =>
          have HNR : Hid (readW T = none) := Lib.hid (by rw [HTW.out, readW_arm]; simp [fieldsE, hnb, hnc])
          have z0 : w3.cell? ⟨G, 0, none⟩ = some (.int .i64 0) := cell_of_row _ G 0 _ _ _ HZF.out
          have z1 : w3.cell? ⟨G, 1, none⟩ = some (.int .i64 0) := cell_of_row _ G 1 _ _ _ HZF.out
          have z2 : w3.cell? ⟨G, 2, none⟩ = some (.int .i64 0) := cell_of_row _ G 2 _ _ _ HZF.out
          have z3 : w3.cell? ⟨G, 3, none⟩ = some nilE := cell_of_row _ G 3 _ _ _ HZF.out
          have y0 := frozen_row (j := 0) HZF.out
          have y1 := frozen_row (j := 1) HZF.out
          have y2 := frozen_row (j := 2) HZF.out
          have y3 := frozen_row (j := 3) HZF.out
          have HBF : Hid (Below w.heap.size w ((((w3.setCell ⟨G, 0, none⟩ (.int .i64 (0))).setCell ⟨G, 1, none⟩ (.int .i64 (0))).setCell ⟨G, 2, none⟩ (.int .i64 (0))).setCell ⟨G, 3, none⟩ (nilE))) := Lib.hid ((((HBX.out.setCell (p := ⟨G, 0, none⟩) (Nat.le_of_eq HG.out.symm) _).setCell (p := ⟨G, 1, none⟩) (Nat.le_of_eq HG.out.symm) _).setCell (p := ⟨G, 2, none⟩) (Nat.le_of_eq HG.out.symm) _).setCell (p := ⟨G, 3, none⟩) (Nat.le_of_eq HG.out.symm) _)
          have e0 : w3.cell? ⟨G5, 0, none⟩ = some (.int .i64 0) := cell_of_row _ G5 0 _ _ _ HZ5.out
          have e1 : w3.cell? ⟨G5, 1, none⟩ = some (.int .i64 0) := cell_of_row _ G5 1 _ _ _ HZ5.out
          have e2 : w3.cell? ⟨G5, 2, none⟩ = some (.int .i64 0) := cell_of_row _ G5 2 _ _ _ HZ5.out
          have e3 : w3.cell? ⟨G5, 3, none⟩ = some nilE := cell_of_row _ G5 3 _ _ _ HZ5.out
          go_wp2_with (fail)
          refine bodyPost_ret (v := .tuple #[evV (0) (0) (0) (nilE), .int .i64 10]) ?_ rfl (.inl ⟨HNR.out, rfl, HBF.out⟩)
          exact resultsE Tryd.results14 _ _ G _ _ _ _ _ _ _ (by kernel_rfl) (by kernel_rfl) (finish_heap HZF.out rfl)
        · as_aux_lemma =>
          have HNR : Hid (readW T = some (7, zb, zc, [])) := Lib.hid (by rw [HTW.out, readW_arm]; simp [fieldsE, hnb, hnc])
          have z0 : w3.cell? ⟨G, 0, none⟩ = some (.int .i64 0) := cell_of_row _ G 0 _ _ _ HZF.out
          have z1 : w3.cell? ⟨G, 1, none⟩ = some (.int .i64 0) := cell_of_row _ G 1 _ _ _ HZF.out
          have z2 : w3.cell? ⟨G, 2, none⟩ = some (.int .i64 0) := cell_of_row _ G 2 _ _ _ HZF.out
          have z3 : w3.cell? ⟨G, 3, none⟩ = some nilE := cell_of_row _ G 3 _ _ _ HZF.out
          have y0 := frozen_row (j := 0) HZF.out
          have y1 := frozen_row (j := 1) HZF.out
          have y2 := frozen_row (j := 2) HZF.out
          have y3 := frozen_row (j := 3) HZF.out
          have HBF : Hid (Below w.heap.size w ((((w3.setCell ⟨G, 0, none⟩ (.int .i64 (7))).setCell ⟨G, 1, none⟩ (.int .i64 (zb))).setCell ⟨G, 2, none⟩ (.int .i64 (zc))).setCell ⟨G, 3, none⟩ (nilE))) := Lib.hid ((((HBX.out.setCell (p := ⟨G, 0, none⟩) (Nat.le_of_eq HG.out.symm) _).setCell (p := ⟨G, 1, none⟩) (Nat.le_of_eq HG.out.symm) _).setCell (p := ⟨G, 2, none⟩) (Nat.le_of_eq HG.out.symm) _).setCell (p := ⟨G, 3, none⟩) (Nat.le_of_eq HG.out.symm) _)
          have e0 : w3.cell? ⟨G5, 0, none⟩ = some (.int .i64 0) := cell_of_row _ G5 0 _ _ _ HZ5.out
          have e1 : w3.cell? ⟨G5, 1, none⟩ = some (.int .i64 0) := cell_of_row _ G5 1 _ _ _ HZ5.out
          have e2 : w3.cell? ⟨G5, 2, none⟩ = some (.int .i64 0) := cell_of_row _ G5 2 _ _ _ HZ5.out
          have e3 : w3.cell? ⟨G5, 3, none⟩ = some nilE := cell_of_row _ G5 3 _ _ _ HZ5.out
          go_wp2_with (fail)
          refine bodyPost_ret (v := .tuple #[evV (7) (zb) (zc) (nilE), .int .i64 0]) ?_ rfl (.inr ⟨_, _, _, _, _, _, _, HNR.out, rfl, Bs.none_ _, (fun x hx => by cases hx), HBF.out⟩)
          exact resultsE Tryd.results14 _ _ G _ _ _ _ _ _ _ (by kernel_rfl) (by kernel_rfl) (finish_heap HZF.out rfl)
    · as_aux_lemma =>
      have HNR : Hid (readW T = none) := Lib.hid (by rw [HTW.out]; exact readW_three _ _ _ harm)
      have d1 : (wa == [97, 114, 109]) = false := by rw [beq_eq_false_iff_ne]; exact harm
      have d2 : (wa != [97, 114, 109]) = true := by rw [bne, d1]; rfl
      obtain ⟨G5, hG5⟩ : ∃ G5, G5 = w1.heap.size := ⟨_, rfl⟩
      have HZF := Lib.hid HZ1.out
      have HBX := Lib.hid HB1.out
      have HZ5 := Lib.hid HZ5'.out
      rw [← hG5] at HZ5
      clear hG5
      have z0 : (w1.alloc (.cells (evC 0 0 0 nilE) TE)).cell? ⟨G, 0, none⟩ = some (.int .i64 0) := cell_of_row _ G 0 _ _ _ HZF.out
      have z1 : (w1.alloc (.cells (evC 0 0 0 nilE) TE)).cell? ⟨G, 1, none⟩ = some (.int .i64 0) := cell_of_row _ G 1 _ _ _ HZF.out
      have z2 : (w1.alloc (.cells (evC 0 0 0 nilE) TE)).cell? ⟨G, 2, none⟩ = some (.int .i64 0) := cell_of_row _ G 2 _ _ _ HZF.out
      have z3 : (w1.alloc (.cells (evC 0 0 0 nilE) TE)).cell? ⟨G, 3, none⟩ = some nilE := cell_of_row _ G 3 _ _ _ HZF.out
      have y0 := frozen_row (j := 0) HZF.out
      have y1 := frozen_row (j := 1) HZF.out
      have y2 := frozen_row (j := 2) HZF.out
      have y3 := frozen_row (j := 3) HZF.out
      have HBF : Hid (Below w.heap.size w (((((w1.alloc (.cells (evC 0 0 0 nilE) TE)).setCell ⟨G, 0, none⟩ (.int .i64 (0))).setCell ⟨G, 1, none⟩ (.int .i64 (0))).setCell ⟨G, 2, none⟩ (.int .i64 (0))).setCell ⟨G, 3, none⟩ (nilE))) := Lib.hid ((((HBX.out.setCell (p := ⟨G, 0, none⟩) (Nat.le_of_eq HG.out.symm) _).setCell (p := ⟨G, 1, none⟩) (Nat.le_of_eq HG.out.symm) _).setCell (p := ⟨G, 2, none⟩) (Nat.le_of_eq HG.out.symm) _).setCell (p := ⟨G, 3, none⟩) (Nat.le_of_eq HG.out.symm) _)
      have e0 : (w1.alloc (.cells (evC 0 0 0 nilE) TE)).cell? ⟨G5, 0, none⟩ = some (.int .i64 0) := cell_of_row _ G5 0 _ _ _ HZ5.out
      have e1 : (w1.alloc (.cells (evC 0 0 0 nilE) TE)).cell? ⟨G5, 1, none⟩ = some (.int .i64 0) := cell_of_row _ G5 1 _ _ _ HZ5.out
      have e2 : (w1.alloc (.cells (evC 0 0 0 nilE) TE)).cell? ⟨G5, 2, none⟩ = some (.int .i64 0) := cell_of_row _ G5 2 _ _ _ HZ5.out
      have e3 : (w1.alloc (.cells (evC 0 0 0 nilE) TE)).cell? ⟨G5, 3, none⟩ = some nilE := cell_of_row _ G5 3 _ _ _ HZ5.out
      go_wp2_with (fail)
      refine bodyPost_ret (v := .tuple #[evV (0) (0) (0) (nilE), .int .i64 10]) ?_ rfl (.inl ⟨HNR.out, rfl, HBF.out⟩)
      exact resultsE Tryd.results14 _ _ G _ _ _ _ _ _ _ (by kernel_rfl) (by kernel_rfl) (finish_heap HZF.out rfl)
  · clear hn2 hn3
    simp only [List.length_cons, List.length_nil]
    obtain ⟨b, o, rfl, _, hc⟩ := HS1.out.at_ (by simp)
    have x0 := hc 0 _ rfl
    have x1 := hc 1 _ rfl
    rw [Nat.add_zero] at x0
    clear hc
    by_cases harm : wa = [97, 114, 109]
    · as_aux_lemma =>
      subst harm
      have HNR : Hid (readW T = none) := Lib.hid (by rw [HTW.out, readW_arm]; simp [fieldsE, numT_nil])
      obtain ⟨G5, hG5⟩ : ∃ G5, G5 = w1.heap.size := ⟨_, rfl⟩
      have HZF := Lib.hid HZ1.out
      have HBX := Lib.hid HB1.out
      have HZ5 := Lib.hid HZ5'.out
      rw [← hG5] at HZ5
      clear hG5
      have z0 : (w1.alloc (.cells (evC 0 0 0 nilE) TE)).cell? ⟨G, 0, none⟩ = some (.int .i64 0) := cell_of_row _ G 0 _ _ _ HZF.out
      have z1 : (w1.alloc (.cells (evC 0 0 0 nilE) TE)).cell? ⟨G, 1, none⟩ = some (.int .i64 0) := cell_of_row _ G 1 _ _ _ HZF.out
      have z2 : (w1.alloc (.cells (evC 0 0 0 nilE) TE)).cell? ⟨G, 2, none⟩ = some (.int .i64 0) := cell_of_row _ G 2 _ _ _ HZF.out
      have z3 : (w1.alloc (.cells (evC 0 0 0 nilE) TE)).cell? ⟨G, 3, none⟩ = some nilE := cell_of_row _ G 3 _ _ _ HZF.out
      have y0 := frozen_row (j := 0) HZF.out
      have y1 := frozen_row (j := 1) HZF.out
      have y2 := frozen_row (j := 2) HZF.out
      have y3 := frozen_row (j := 3) HZF.out
      have HBF : Hid (Below w.heap.size w (((((w1.alloc (.cells (evC 0 0 0 nilE) TE)).setCell ⟨G, 0, none⟩ (.int .i64 (0))).setCell ⟨G, 1, none⟩ (.int .i64 (0))).setCell ⟨G, 2, none⟩ (.int .i64 (0))).setCell ⟨G, 3, none⟩ (nilE))) := Lib.hid ((((HBX.out.setCell (p := ⟨G, 0, none⟩) (Nat.le_of_eq HG.out.symm) _).setCell (p := ⟨G, 1, none⟩) (Nat.le_of_eq HG.out.symm) _).setCell (p := ⟨G, 2, none⟩) (Nat.le_of_eq HG.out.symm) _).setCell (p := ⟨G, 3, none⟩) (Nat.le_of_eq HG.out.symm) _)
      have e0 : (w1.alloc (.cells (evC 0 0 0 nilE) TE)).cell? ⟨G5, 0, none⟩ = some (.int .i64 0) := cell_of_row _ G5 0 _ _ _ HZ5.out
      have e1 : (w1.alloc (.cells (evC 0 0 0 nilE) TE)).cell? ⟨G5, 1, none⟩ = some (.int .i64 0) := cell_of_row _ G5 1 _ _ _ HZ5.out
      have e2 : (w1.alloc (.cells (evC 0 0 0 nilE) TE)).cell? ⟨G5, 2, none⟩ = some (.int .i64 0) := cell_of_row _ G5 2 _ _ _ HZ5.out
      have e3 : (w1.alloc (.cells (evC 0 0 0 nilE) TE)).cell? ⟨G5, 3, none⟩ = some nilE := cell_of_row _ G5 3 _ _ _ HZ5.out
      go_wp2_with (fail)
      refine bodyPost_ret (v := .tuple #[evV (0) (0) (0) (nilE), .int .i64 10]) ?_ rfl (.inl ⟨HNR.out, rfl, HBF.out⟩)
      exact resultsE Tryd.results14 _ _ G _ _ _ _ _ _ _ (by kernel_rfl) (by kernel_rfl) (finish_heap HZF.out rfl)
    have HDD : Hid (¬ (wa = [100, 114, 111, 112] ∧ (wb = [105, 110] ∨ wb = [111, 117, 116]))) := Lib.hid (by
      rintro ⟨rfl, rfl | rfl⟩
      · exact HDI.out (by rw [← HJ.out]; rfl)
      · exact HDO.out (by rw [← HJ.out]; rfl))
    have d1 : (wa == [97, 114, 109]) = false := by rw [beq_eq_false_iff_ne]; exact harm
    have d2 : (wa != [97, 114, 109]) = true := by rw [bne, d1]; rfl
    go_wp2_with (fail)
    obtain ⟨G5, hG5⟩ : ∃ G5, G5 = w1.heap.size := ⟨_, rfl⟩
    rw [← hG5] at HZ5' ⊢
    clear hG5
    generalize w1.alloc (.cells (evC 0 0 0 nilE) TE) = w2 at *
    refine (refBytes19 (txt wb) w2 (by rw [size_txt]; exact HPL.out wb (by simp))).mono ?_
    rw [show bytesD (txt wb).data.toList = bytesD wb from rfl]
    rintro e w3 ⟨A5, m5, c5, rfl, hB5, hf5, hb3⟩
    have HF5 : Hid (∀ x, A5 = some x → w.heap.size ≤ x.block) := Lib.hid (fun x hx => Nat.le_trans HB1.out.size (hf5 x hx))
    clear hf5
    have hl1 := (Array.getElem?_eq_some_iff.1 HZ1.out).1
    have hl5 := (Array.getElem?_eq_some_iff.1 HZ5'.out).1
    have HZF := Lib.hid ((hb3.block _ hl1).trans HZ1.out)
    have HZ5 := Lib.hid ((hb3.block _ hl5).trans HZ5'.out)
    have HBX := Lib.hid (HB1.out.trans (hb3.mono HB1.out.size))
    have hS3 := HS1.out.below hb3
    have HB5 := Lib.hid hB5
    clear x0 x1
    obtain ⟨b', o', e', _, hc⟩ := hS3.at_ (by simp)
    injection e' with e'
    injection e' with e1' e2'
    subst e1' e2'
    have x0 := hc 0 _ rfl
    have x1 := hc 1 _ rfl
    rw [Nat.add_zero] at x0
    clear hc hS3 hl1 hl5 hb3 hB5
    go_wp2_with (fail)
    refine (refNumber (txt wb) w3 (by rw [size_txt]; exact HPL.out wb (by simp))).mono ?_
    rw [show (txt wb).data.toList = wb from rfl]
    rintro e w4 ⟨rfl, hw4⟩
    obtain rfl := hw4.symm
    clear hw4
    obtain ⟨r, hr⟩ : ∃ r, r = bytesD wb := ⟨_, rfl⟩
    rw [← hr] at HB5 ⊢
    have HRR := Lib.hid hr
    clear hr
    rcases hnb : numT wb with ⟨zb, ob⟩
    dsimp only
    by_cases h_in : wa = [105, 110]
    · subst h_in
      rcases r with _ | l5
      · as_aux_lemma =>
        have HNR : Hid (readW T = none) := Lib.hid (by rw [HTW.out, readW_in]; simp [fieldsE, ← HRR.out])
        have z0 : w3.cell? ⟨G, 0, none⟩ = some (.int .i64 0) := cell_of_row _ G 0 _ _ _ HZF.out
        have z1 : w3.cell? ⟨G, 1, none⟩ = some (.int .i64 0) := cell_of_row _ G 1 _ _ _ HZF.out
        have z2 : w3.cell? ⟨G, 2, none⟩ = some (.int .i64 0) := cell_of_row _ G 2 _ _ _ HZF.out
        have z3 : w3.cell? ⟨G, 3, none⟩ = some nilE := cell_of_row _ G 3 _ _ _ HZF.out
        have y0 := frozen_row (j := 0) HZF.out
        have y1 := frozen_row (j := 1) HZF.out
        have y2 := frozen_row (j := 2) HZF.out
        have y3 := frozen_row (j := 3) HZF.out
        have HBF : Hid (Below w.heap.size w ((((w3.setCell ⟨G, 0, none⟩ (.int .i64 (0))).setCell ⟨G, 1, none⟩ (.int .i64 (0))).setCell ⟨G, 2, none⟩ (.int .i64 (0))).setCell ⟨G, 3, none⟩ (nilE))) := Lib.hid ((((HBX.out.setCell (p := ⟨G, 0, none⟩) (Nat.le_of_eq HG.out.symm) _).setCell (p := ⟨G, 1, none⟩) (Nat.le_of_eq HG.out.symm) _).setCell (p := ⟨G, 2, none⟩) (Nat.le_of_eq HG.out.symm) _).setCell (p := ⟨G, 3, none⟩) (Nat.le_of_eq HG.out.symm) _)
        have e0 : w3.cell? ⟨G5, 0, none⟩ = some (.int .i64 0) := cell_of_row _ G5 0 _ _ _ HZ5.out
        have e1 : w3.cell? ⟨G5, 1, none⟩ = some (.int .i64 0) := cell_of_row _ G5 1 _ _ _ HZ5.out
        have e2 : w3.cell? ⟨G5, 2, none⟩ = some (.int .i64 0) := cell_of_row _ G5 2 _ _ _ HZ5.out
        have e3 : w3.cell? ⟨G5, 3, none⟩ = some nilE := cell_of_row _ G5 3 _ _ _ HZ5.out
        go_wp2_with (fail)
        refine bodyPost_ret (v := .tuple #[evV (0) (0) (0) (nilE), .int .i64 10]) ?_ rfl (.inl ⟨HNR.out, rfl, HBF.out⟩)
        exact resultsE Tryd.results14 _ _ G _ _ _ _ _ _ _ (by kernel_rfl) (by kernel_rfl) (finish_heap HZF.out rfl)
      · as_aux_lemma =>
        have HNR : Hid (readW T = some (0, 0, 0, l5)) := Lib.hid (by rw [HTW.out, readW_in]; simp [fieldsE, ← HRR.out])
        have z0 : w3.cell? ⟨G, 0, none⟩ = some (.int .i64 0) := cell_of_row _ G 0 _ _ _ HZF.out
        have z1 : w3.cell? ⟨G, 1, none⟩ = some (.int .i64 0) := cell_of_row _ G 1 _ _ _ HZF.out
        have z2 : w3.cell? ⟨G, 2, none⟩ = some (.int .i64 0) := cell_of_row _ G 2 _ _ _ HZF.out
        have z3 : w3.cell? ⟨G, 3, none⟩ = some nilE := cell_of_row _ G 3 _ _ _ HZF.out
        have y0 := frozen_row (j := 0) HZF.out
        have y1 := frozen_row (j := 1) HZF.out
        have y2 := frozen_row (j := 2) HZF.out
        have y3 := frozen_row (j := 3) HZF.out
        have HBF : Hid (Below w.heap.size w ((((w3.setCell ⟨G, 0, none⟩ (.int .i64 (0))).setCell ⟨G, 1, none⟩ (.int .i64 (0))).setCell ⟨G, 2, none⟩ (.int .i64 (0))).setCell ⟨G, 3, none⟩ (.slice A5 m5 c5))) := Lib.hid ((((HBX.out.setCell (p := ⟨G, 0, none⟩) (Nat.le_of_eq HG.out.symm) _).setCell (p := ⟨G, 1, none⟩) (Nat.le_of_eq HG.out.symm) _).setCell (p := ⟨G, 2, none⟩) (Nat.le_of_eq HG.out.symm) _).setCell (p := ⟨G, 3, none⟩) (Nat.le_of_eq HG.out.symm) _)
        have e0 : w3.cell? ⟨G5, 0, none⟩ = some (.int .i64 0) := cell_of_row _ G5 0 _ _ _ HZ5.out
        have e1 : w3.cell? ⟨G5, 1, none⟩ = some (.int .i64 0) := cell_of_row _ G5 1 _ _ _ HZ5.out
        have e2 : w3.cell? ⟨G5, 2, none⟩ = some (.int .i64 0) := cell_of_row _ G5 2 _ _ _ HZ5.out
        have e3 : w3.cell? ⟨G5, 3, none⟩ = some nilE := cell_of_row _ G5 3 _ _ _ HZ5.out
        go_wp2_with (fail)
        refine bodyPost_ret (v := .tuple #[evV (0) (0) (0) (.slice A5 m5 c5), .int .i64 0]) ?_ rfl (.inr ⟨_, _, _, _, _, _, _, HNR.out, rfl, HB5.out.ev4 HZF.out _ _ _ _, HF5.out, HBF.out⟩)
        exact resultsE Tryd.results14 _ _ G _ _ _ _ _ _ _ (by kernel_rfl) (by kernel_rfl) (finish_heap HZF.out rfl)
    have q_in : (wa == [105, 110]) = false := by rw [beq_eq_false_iff_ne]; exact h_in
    by_cases h_out : wa = [111, 117, 116]
    · subst h_out
      rcases r with _ | l5
      · as_aux_lemma =>
        have HNR : Hid (readW T = none) := Lib.hid (by rw [HTW.out, readW_out]; simp [fieldsE, ← HRR.out])
        have z0 : w3.cell? ⟨G, 0, none⟩ = some (.int .i64 0) := cell_of_row _ G 0 _ _ _ HZF.out
        have z1 : w3.cell? ⟨G, 1, none⟩ = some (.int .i64 0) := cell_of_row _ G 1 _ _ _ HZF.out
        have z2 : w3.cell? ⟨G, 2, none⟩ = some (.int .i64 0) := cell_of_row _ G 2 _ _ _ HZF.out
        have z3 : w3.cell? ⟨G, 3, none⟩ = some nilE := cell_of_row _ G 3 _ _ _ HZF.out
        have y0 := frozen_row (j := 0) HZF.out
        have y1 := frozen_row (j := 1) HZF.out
        have y2 := frozen_row (j := 2) HZF.out
        have y3 := frozen_row (j := 3) HZF.out
        have HBF : Hid (Below w.heap.size w ((((w3.setCell ⟨G, 0, none⟩ (.int .i64 (0))).setCell ⟨G, 1, none⟩ (.int .i64 (0))).setCell ⟨G, 2, none⟩ (.int .i64 (0))).setCell ⟨G, 3, none⟩ (nilE))) := Lib.hid ((((HBX.out.setCell (p := ⟨G, 0, none⟩) (Nat.le_of_eq HG.out.symm) _).setCell (p := ⟨G, 1, none⟩) (Nat.le_of_eq HG.out.symm) _).setCell (p := ⟨G, 2, none⟩) (Nat.le_of_eq HG.out.symm) _).setCell (p := ⟨G, 3, none⟩) (Nat.le_of_eq HG.out.symm) _)
        have e0 : w3.cell? ⟨G5, 0, none⟩ = some (.int .i64 0) := cell_of_row _ G5 0 _ _ _ HZ5.out
        have e1 : w3.cell? ⟨G5, 1, none⟩ = some (.int .i64 0) := cell_of_row _ G5 1 _ _ _ HZ5.out
        have e2 : w3.cell? ⟨G5, 2, none⟩ = some (.int .i64 0) := cell_of_row _ G5 2 _ _ _ HZ5.out
        have e3 : w3.cell? ⟨G5, 3, none⟩ = some nilE := cell_of_row _ G5 3 _ _ _ HZ5.out
        go_wp2_with (fail)
        refine bodyPost_ret (v := .tuple #[evV (0) (0) (0) (nilE), .int .i64 10]) ?_ rfl (.inl ⟨HNR.out, rfl, HBF.out⟩)
        exact resultsE Tryd.results14 _ _ G _ _ _ _ _ _ _ (by kernel_rfl) (by kernel_rfl) (finish_heap HZF.out rfl)
      · as_aux_lemma =>
        have HNR : Hid (readW T = some (1, 0, 0, l5)) := Lib.hid (by rw [HTW.out, readW_out]; simp [fieldsE, ← HRR.out])
        have z0 : w3.cell? ⟨G, 0, none⟩ = some (.int .i64 0) := cell_of_row _ G 0 _ _ _ HZF.out
        have z1 : w3.cell? ⟨G, 1, none⟩ = some (.int .i64 0) := cell_of_row _ G 1 _ _ _ HZF.out
        have z2 : w3.cell? ⟨G, 2, none⟩ = some (.int .i64 0) := cell_of_row _ G 2 _ _ _ HZF.out
        have z3 : w3.cell? ⟨G, 3, none⟩ = some nilE := cell_of_row _ G 3 _ _ _ HZF.out
        have y0 := frozen_row (j := 0) HZF.out
        have y1 := frozen_row (j := 1) HZF.out
        have y2 := frozen_row (j := 2) HZF.out
        have y3 := frozen_row (j := 3) HZF.out
        have HBF : Hid (Below w.heap.size w ((((w3.setCell ⟨G, 0, none⟩ (.int .i64 (1))).setCell ⟨G, 1, none⟩ (.int .i64 (0))).setCell ⟨G, 2, none⟩ (.int .i64 (0))).setCell ⟨G, 3, none⟩ (.slice A5 m5 c5))) := Lib.hid ((((HBX.out.setCell (p := ⟨G, 0, none⟩) (Nat.le_of_eq HG.out.symm) _).setCell (p := ⟨G, 1, none⟩) (Nat.le_of_eq HG.out.symm) _).setCell (p := ⟨G, 2, none⟩) (Nat.le_of_eq HG.out.symm) _).setCell (p := ⟨G, 3, none⟩) (Nat.le_of_eq HG.out.symm) _)
        have e0 : w3.cell? ⟨G5, 0, none⟩ = some (.int .i64 0) := cell_of_row _ G5 0 _ _ _ HZ5.out
        have e1 : w3.cell? ⟨G5, 1, none⟩ = some (.int .i64 0) := cell_of_row _ G5 1 _ _ _ HZ5.out
        have e2 : w3.cell? ⟨G5, 2, none⟩ = some (.int .i64 0) := cell_of_row _ G5 2 _ _ _ HZ5.out
        have e3 : w3.cell? ⟨G5, 3, none⟩ = some nilE := cell_of_row _ G5 3 _ _ _ HZ5.out
        go_wp2_with (fail)
        refine bodyPost_ret (v := .tuple #[evV (1) (0) (0) (.slice A5 m5 c5), .int .i64 0]) ?_ rfl (.inr ⟨_, _, _, _, _, _, _, HNR.out, rfl, HB5.out.ev4 HZF.out _ _ _ _, HF5.out, HBF.out⟩)
        exact resultsE Tryd.results14 _ _ G _ _ _ _ _ _ _ (by kernel_rfl) (by kernel_rfl) (finish_heap HZF.out rfl)
    have q_out : (wa == [111, 117, 116]) = false := by rw [beq_eq_false_iff_ne]; exact h_out
    by_cases h_tick : wa = [116, 105, 99, 107]
    · subst h_tick
      rcases ob with _ | _
      · as_aux_lemma =>
        have HNR : Hid (readW T = none) := Lib.hid (by rw [HTW.out, readW_tick]; simp [fieldsE, hnb])
        have z0 : w3.cell? ⟨G, 0, none⟩ = some (.int .i64 0) := cell_of_row _ G 0 _ _ _ HZF.out
        have z1 : w3.cell? ⟨G, 1, none⟩ = some (.int .i64 0) := cell_of_row _ G 1 _ _ _ HZF.out
        have z2 : w3.cell? ⟨G, 2, none⟩ = some (.int .i64 0) := cell_of_row _ G 2 _ _ _ HZF.out
        have z3 : w3.cell? ⟨G, 3, none⟩ = some nilE := cell_of_row _ G 3 _ _ _ HZF.out
        have y0 := frozen_row (j := 0) HZF.out
        have y1 := frozen_row (j := 1) HZF.out
        have y2 := frozen_row (j := 2) HZF.out
        have y3 := frozen_row (j := 3) HZF.out
        have HBF : Hid (Below w.heap.size w ((((w3.setCell ⟨G, 0, none⟩ (.int .i64 (0))).setCell ⟨G, 1, none⟩ (.int .i64 (0))).setCell ⟨G, 2, none⟩ (.int .i64 (0))).setCell ⟨G, 3, none⟩ (nilE))) := Lib.hid ((((HBX.out.setCell (p := ⟨G, 0, none⟩) (Nat.le_of_eq HG.out.symm) _).setCell (p := ⟨G, 1, none⟩) (Nat.le_of_eq HG.out.symm) _).setCell (p := ⟨G, 2, none⟩) (Nat.le_of_eq HG.out.symm) _).setCell (p := ⟨G, 3, none⟩) (Nat.le_of_eq HG.out.symm) _)
        have e0 : w3.cell? ⟨G5, 0, none⟩ = some (.int .i64 0) := cell_of_row _ G5 0 _ _ _ HZ5.out
        have e1 : w3.cell? ⟨G5, 1, none⟩ = some (.int .i64 0) := cell_of_row _ G5 1 _ _ _ HZ5.out
        have e2 : w3.cell? ⟨G5, 2, none⟩ = some (.int .i64 0) := cell_of_row _ G5 2 _ _ _ HZ5.out
        have e3 : w3.cell? ⟨G5, 3, none⟩ = some nilE := cell_of_row _ G5 3 _ _ _ HZ5.out
        go_wp2_with (fail)
        refine bodyPost_ret (v := .tuple #[evV (0) (0) (0) (nilE), .int .i64 10]) ?_ rfl (.inl ⟨HNR.out, rfl, HBF.out⟩)
        exact resultsE Tryd.results14 _ _ G _ _ _ _ _ _ _ (by kernel_rfl) (by kernel_rfl) (finish_heap HZF.out rfl)
      · as_aux_lemma =>
        have HNR : Hid (readW T = some (4, zb, 0, [])) := Lib.hid (by rw [HTW.out, readW_tick]; simp [fieldsE, hnb])
        have z0 : w3.cell? ⟨G, 0, none⟩ = some (.int .i64 0) := cell_of_row _ G 0 _ _ _ HZF.out
        have z1 : w3.cell? ⟨G, 1, none⟩ = some (.int .i64 0) := cell_of_row _ G 1 _ _ _ HZF.out
        have z2 : w3.cell? ⟨G, 2, none⟩ = some (.int .i64 0) := cell_of_row _ G 2 _ _ _ HZF.out
        have z3 : w3.cell? ⟨G, 3, none⟩ = some nilE := cell_of_row _ G 3 _ _ _ HZF.out
        have y0 := frozen_row (j := 0) HZF.out
        have y1 := frozen_row (j := 1) HZF.out
        have y2 := frozen_row (j := 2) HZF.out
        have y3 := frozen_row (j := 3) HZF.out
        have HBF : Hid (Below w.heap.size w ((((w3.setCell ⟨G, 0, none⟩ (.int .i64 (4))).setCell ⟨G, 1, none⟩ (.int .i64 (zb))).setCell ⟨G, 2, none⟩ (.int .i64 (0))).setCell ⟨G, 3, none⟩ (nilE))) := Lib.hid ((((HBX.out.setCell (p := ⟨G, 0, none⟩) (Nat.le_of_eq HG.out.symm) _).setCell (p := ⟨G, 1, none⟩) (Nat.le_of_eq HG.out.symm) _).setCell (p := ⟨G, 2, none⟩) (Nat.le_of_eq HG.out.symm) _).setCell (p := ⟨G, 3, none⟩) (Nat.le_of_eq HG.out.symm) _)
        have e0 : w3.cell? ⟨G5, 0, none⟩ = some (.int .i64 0) := cell_of_row _ G5 0 _ _ _ HZ5.out
        have e1 : w3.cell? ⟨G5, 1, none⟩ = some (.int .i64 0) := cell_of_row _ G5 1 _ _ _ HZ5.out
        have e2 : w3.cell? ⟨G5, 2, none⟩ = some (.int .i64 0) := cell_of_row _ G5 2 _ _ _ HZ5.out
        have e3 : w3.cell? ⟨G5, 3, none⟩ = some nilE := cell_of_row _ G5 3 _ _ _ HZ5.out
        go_wp2_with (fail)
        refine bodyPost_ret (v := .tuple #[evV (4) (zb) (0) (nilE), .int .i64 0]) ?_ rfl (.inr ⟨_, _, _, _, _, _, _, HNR.out, rfl, Bs.none_ _, (fun x hx => by cases hx), HBF.out⟩)
        exact resultsE Tryd.results14 _ _ G _ _ _ _ _ _ _ (by kernel_rfl) (by kernel_rfl) (finish_heap HZF.out rfl)
    have q_tick : (wa == [116, 105, 99, 107]) = false := by rw [beq_eq_false_iff_ne]; exact h_tick
    by_cases h_room : wa = [114, 111, 111, 109]
    · subst h_room
      rcases ob with _ | _
      · as_aux_lemma =>
        have HNR : Hid (readW T = none) := Lib.hid (by rw [HTW.out, readW_room]; simp [fieldsE, hnb])
        have z0 : w3.cell? ⟨G, 0, none⟩ = some (.int .i64 0) := cell_of_row _ G 0 _ _ _ HZF.out
        have z1 : w3.cell? ⟨G, 1, none⟩ = some (.int .i64 0) := cell_of_row _ G 1 _ _ _ HZF.out
        have z2 : w3.cell? ⟨G, 2, none⟩ = some (.int .i64 0) := cell_of_row _ G 2 _ _ _ HZF.out
        have z3 : w3.cell? ⟨G, 3, none⟩ = some nilE := cell_of_row _ G 3 _ _ _ HZF.out
        have y0 := frozen_row (j := 0) HZF.out
        have y1 := frozen_row (j := 1) HZF.out
        have y2 := frozen_row (j := 2) HZF.out
        have y3 := frozen_row (j := 3) HZF.out
        have HBF : Hid (Below w.heap.size w ((((w3.setCell ⟨G, 0, none⟩ (.int .i64 (0))).setCell ⟨G, 1, none⟩ (.int .i64 (0))).setCell ⟨G, 2, none⟩ (.int .i64 (0))).setCell ⟨G, 3, none⟩ (nilE))) := Lib.hid ((((HBX.out.setCell (p := ⟨G, 0, none⟩) (Nat.le_of_eq HG.out.symm) _).setCell (p := ⟨G, 1, none⟩) (Nat.le_of_eq HG.out.symm) _).setCell (p := ⟨G, 2, none⟩) (Nat.le_of_eq HG.out.symm) _).setCell (p := ⟨G, 3, none⟩) (Nat.le_of_eq HG.out.symm) _)
        have e0 : w3.cell? ⟨G5, 0, none⟩ = some (.int .i64 0) := cell_of_row _ G5 0 _ _ _ HZ5.out
        have e1 : w3.cell? ⟨G5, 1, none⟩ = some (.int .i64 0) := cell_of_row _ G5 1 _ _ _ HZ5.out
        have e2 : w3.cell? ⟨G5, 2, none⟩ = some (.int .i64 0) := cell_of_row _ G5 2 _ _ _ HZ5.out
        have e3 : w3.cell? ⟨G5, 3, none⟩ = some nilE := cell_of_row _ G5 3 _ _ _ HZ5.out
        go_wp2_with (fail)
        refine bodyPost_ret (v := .tuple #[evV (0) (0) (0) (nilE), .int .i64 10]) ?_ rfl (.inl ⟨HNR.out, rfl, HBF.out⟩)
        exact resultsE Tryd.results14 _ _ G _ _ _ _ _ _ _ (by kernel_rfl) (by kernel_rfl) (finish_heap HZF.out rfl)
      · as_aux_lemma =>
        have HNR : Hid (readW T = some (5, zb, 0, [])) := Lib.hid (by rw [HTW.out, readW_room]; simp [fieldsE, hnb])
        have z0 : w3.cell? ⟨G, 0, none⟩ = some (.int .i64 0) := cell_of_row _ G 0 _ _ _ HZF.out
        have z1 : w3.cell? ⟨G, 1, none⟩ = some (.int .i64 0) := cell_of_row _ G 1 _ _ _ HZF.out
        have z2 : w3.cell? ⟨G, 2, none⟩ = some (.int .i64 0) := cell_of_row _ G 2 _ _ _ HZF.out
        have z3 : w3.cell? ⟨G, 3, none⟩ = some nilE := cell_of_row _ G 3 _ _ _ HZF.out
        have y0 := frozen_row (j := 0) HZF.out
        have y1 := frozen_row (j := 1) HZF.out
        have y2 := frozen_row (j := 2) HZF.out
        have y3 := frozen_row (j := 3) HZF.out
        have HBF : Hid (Below w.heap.size w ((((w3.setCell ⟨G, 0, none⟩ (.int .i64 (5))).setCell ⟨G, 1, none⟩ (.int .i64 (zb))).setCell ⟨G, 2, none⟩ (.int .i64 (0))).setCell ⟨G, 3, none⟩ (nilE))) := Lib.hid ((((HBX.out.setCell (p := ⟨G, 0, none⟩) (Nat.le_of_eq HG.out.symm) _).setCell (p := ⟨G, 1, none⟩) (Nat.le_of_eq HG.out.symm) _).setCell (p := ⟨G, 2, none⟩) (Nat.le_of_eq HG.out.symm) _).setCell (p := ⟨G, 3, none⟩) (Nat.le_of_eq HG.out.symm) _)
        have e0 : w3.cell? ⟨G5, 0, none⟩ = some (.int .i64 0) := cell_of_row _ G5 0 _ _ _ HZ5.out
        have e1 : w3.cell? ⟨G5, 1, none⟩ = some (.int .i64 0) := cell_of_row _ G5 1 _ _ _ HZ5.out
        have e2 : w3.cell? ⟨G5, 2, none⟩ = some (.int .i64 0) := cell_of_row _ G5 2 _ _ _ HZ5.out
        have e3 : w3.cell? ⟨G5, 3, none⟩ = some nilE := cell_of_row _ G5 3 _ _ _ HZ5.out
        go_wp2_with (fail)
        refine bodyPost_ret (v := .tuple #[evV (5) (zb) (0) (nilE), .int .i64 0]) ?_ rfl (.inr ⟨_, _, _, _, _, _, _, HNR.out, rfl, Bs.none_ _, (fun x hx => by cases hx), HBF.out⟩)
        exact resultsE Tryd.results14 _ _ G _ _ _ _ _ _ _ (by kernel_rfl) (by kernel_rfl) (finish_heap HZF.out rfl)
    have q_room : (wa == [114, 111, 111, 109]) = false := by rw [beq_eq_false_iff_ne]; exact h_room
    by_cases h_failsync : wa = [102, 97, 105, 108, 115, 121, 110, 99]
    · subst h_failsync
      rcases ob with _ | _
      · as_aux_lemma =>
        have HNR : Hid (readW T = none) := Lib.hid (by rw [HTW.out, readW_failsync]; simp [fieldsE, hnb])
        have z0 : w3.cell? ⟨G, 0, none⟩ = some (.int .i64 0) := cell_of_row _ G 0 _ _ _ HZF.out
        have z1 : w3.cell? ⟨G, 1, none⟩ = some (.int .i64 0) := cell_of_row _ G 1 _ _ _ HZF.out
        have z2 : w3.cell? ⟨G, 2, none⟩ = some (.int .i64 0) := cell_of_row _ G 2 _ _ _ HZF.out
        have z3 : w3.cell? ⟨G, 3, none⟩ = some nilE := cell_of_row _ G 3 _ _ _ HZF.out
        have y0 := frozen_row (j := 0) HZF.out
        have y1 := frozen_row (j := 1) HZF.out
        have y2 := frozen_row (j := 2) HZF.out
        have y3 := frozen_row (j := 3) HZF.out
        have HBF : Hid (Below w.heap.size w ((((w3.setCell ⟨G, 0, none⟩ (.int .i64 (0))).setCell ⟨G, 1, none⟩ (.int .i64 (0))).setCell ⟨G, 2, none⟩ (.int .i64 (0))).setCell ⟨G, 3, none⟩ (nilE))) := Lib.hid ((((HBX.out.setCell (p := ⟨G, 0, none⟩) (Nat.le_of_eq HG.out.symm) _).setCell (p := ⟨G, 1, none⟩) (Nat.le_of_eq HG.out.symm) _).setCell (p := ⟨G, 2, none⟩) (Nat.le_of_eq HG.out.symm) _).setCell (p := ⟨G, 3, none⟩) (Nat.le_of_eq HG.out.symm) _)
        have e0 : w3.cell? ⟨G5, 0, none⟩ = some (.int .i64 0) := cell_of_row _ G5 0 _ _ _ HZ5.out
        have e1 : w3.cell? ⟨G5, 1, none⟩ = some (.int .i64 0) := cell_of_row _ G5 1 _ _ _ HZ5.out
        have e2 : w3.cell? ⟨G5, 2, none⟩ = some (.int .i64 0) := cell_of_row _ G5 2 _ _ _ HZ5.out
        have e3 : w3.cell? ⟨G5, 3, none⟩ = some nilE := cell_of_row _ G5 3 _ _ _ HZ5.out
        go_wp2_with (fail)
        refine bodyPost_ret (v := .tuple #[evV (0) (0) (0) (nilE), .int .i64 10]) ?_ rfl (.inl ⟨HNR.out, rfl, HBF.out⟩)
        exact resultsE Tryd.results14 _ _ G _ _ _ _ _ _ _ (by kernel_rfl) (by kernel_rfl) (finish_heap HZF.out rfl)
      · as_aux_lemma =>
        have HNR : Hid (readW T = some (6, zb, 0, [])) := Lib.hid (by rw [HTW.out, readW_failsync]; simp [fieldsE, hnb])
        have z0 : w3.cell? ⟨G, 0, none⟩ = some (.int .i64 0) := cell_of_row _ G 0 _ _ _ HZF.out
        have z1 : w3.cell? ⟨G, 1, none⟩ = some (.int .i64 0) := cell_of_row _ G 1 _ _ _ HZF.out
        have z2 : w3.cell? ⟨G, 2, none⟩ = some (.int .i64 0) := cell_of_row _ G 2 _ _ _ HZF.out
        have z3 : w3.cell? ⟨G, 3, none⟩ = some nilE := cell_of_row _ G 3 _ _ _ HZF.out
        have y0 := frozen_row (j := 0) HZF.out
        have y1 := frozen_row (j := 1) HZF.out
        have y2 := frozen_row (j := 2) HZF.out
        have y3 := frozen_row (j := 3) HZF.out
        have HBF : Hid (Below w.heap.size w ((((w3.setCell ⟨G, 0, none⟩ (.int .i64 (6))).setCell ⟨G, 1, none⟩ (.int .i64 (zb))).setCell ⟨G, 2, none⟩ (.int .i64 (0))).setCell ⟨G, 3, none⟩ (nilE))) := Lib.hid ((((HBX.out.setCell (p := ⟨G, 0, none⟩) (Nat.le_of_eq HG.out.symm) _).setCell (p := ⟨G, 1, none⟩) (Nat.le_of_eq HG.out.symm) _).setCell (p := ⟨G, 2, none⟩) (Nat.le_of_eq HG.out.symm) _).setCell (p := ⟨G, 3, none⟩) (Nat.le_of_eq HG.out.symm) _)
        have e0 : w3.cell? ⟨G5, 0, none⟩ = some (.int .i64 0) := cell_of_row _ G5 0 _ _ _ HZ5.out
        have e1 : w3.cell? ⟨G5, 1, none⟩ = some (.int .i64 0) := cell_of_row _ G5 1 _ _ _ HZ5.out
        have e2 : w3.cell? ⟨G5, 2, none⟩ = some (.int .i64 0) := cell_of_row _ G5 2 _ _ _ HZ5.out
        have e3 : w3.cell? ⟨G5, 3, none⟩ = some nilE := cell_of_row _ G5 3 _ _ _ HZ5.out
        go_wp2_with (fail)
        refine bodyPost_ret (v := .tuple #[evV (6) (zb) (0) (nilE), .int .i64 0]) ?_ rfl (.inr ⟨_, _, _, _, _, _, _, HNR.out, rfl, Bs.none_ _, (fun x hx => by cases hx), HBF.out⟩)
        exact resultsE Tryd.results14 _ _ G _ _ _ _ _ _ _ (by kernel_rfl) (by kernel_rfl) (finish_heap HZF.out rfl)
    have q_failsync : (wa == [102, 97, 105, 108, 115, 121, 110, 99]) = false := by rw [beq_eq_false_iff_ne]; exact h_failsync
    by_cases h_power : wa = [112, 111, 119, 101, 114]
    · subst h_power
      rcases ob with _ | _
      · as_aux_lemma =>
        have HNR : Hid (readW T = none) := Lib.hid (by rw [HTW.out, readW_power]; simp [fieldsE, hnb])
        have z0 : w3.cell? ⟨G, 0, none⟩ = some (.int .i64 0) := cell_of_row _ G 0 _ _ _ HZF.out
        have z1 : w3.cell? ⟨G, 1, none⟩ = some (.int .i64 0) := cell_of_row _ G 1 _ _ _ HZF.out
        have z2 : w3.cell? ⟨G, 2, none⟩ = some (.int .i64 0) := cell_of_row _ G 2 _ _ _ HZF.out
        have z3 : w3.cell? ⟨G, 3, none⟩ = some nilE := cell_of_row _ G 3 _ _ _ HZF.out
        have y0 := frozen_row (j := 0) HZF.out
        have y1 := frozen_row (j := 1) HZF.out
        have y2 := frozen_row (j := 2) HZF.out
        have y3 := frozen_row (j := 3) HZF.out
        have HBF : Hid (Below w.heap.size w ((((w3.setCell ⟨G, 0, none⟩ (.int .i64 (0))).setCell ⟨G, 1, none⟩ (.int .i64 (0))).setCell ⟨G, 2, none⟩ (.int .i64 (0))).setCell ⟨G, 3, none⟩ (nilE))) := Lib.hid ((((HBX.out.setCell (p := ⟨G, 0, none⟩) (Nat.le_of_eq HG.out.symm) _).setCell (p := ⟨G, 1, none⟩) (Nat.le_of_eq HG.out.symm) _).setCell (p := ⟨G, 2, none⟩) (Nat.le_of_eq HG.out.symm) _).setCell (p := ⟨G, 3, none⟩) (Nat.le_of_eq HG.out.symm) _)
        have e0 : w3.cell? ⟨G5, 0, none⟩ = some (.int .i64 0) := cell_of_row _ G5 0 _ _ _ HZ5.out
        have e1 : w3.cell? ⟨G5, 1, none⟩ = some (.int .i64 0) := cell_of_row _ G5 1 _ _ _ HZ5.out
        have e2 : w3.cell? ⟨G5, 2, none⟩ = some (.int .i64 0) := cell_of_row _ G5 2 _ _ _ HZ5.out
        have e3 : w3.cell? ⟨G5, 3, none⟩ = some nilE := cell_of_row _ G5 3 _ _ _ HZ5.out
        go_wp2_with (fail)
        refine bodyPost_ret (v := .tuple #[evV (0) (0) (0) (nilE), .int .i64 10]) ?_ rfl (.inl ⟨HNR.out, rfl, HBF.out⟩)
        exact resultsE Tryd.results14 _ _ G _ _ _ _ _ _ _ (by kernel_rfl) (by kernel_rfl) (finish_heap HZF.out rfl)
      · as_aux_lemma =>
        have HNR : Hid (readW T = some (8, 0, zb, [])) := Lib.hid (by rw [HTW.out, readW_power]; simp [fieldsE, hnb])
        have z0 : w3.cell? ⟨G, 0, none⟩ = some (.int .i64 0) := cell_of_row _ G 0 _ _ _ HZF.out
        have z1 : w3.cell? ⟨G, 1, none⟩ = some (.int .i64 0) := cell_of_row _ G 1 _ _ _ HZF.out
        have z2 : w3.cell? ⟨G, 2, none⟩ = some (.int .i64 0) := cell_of_row _ G 2 _ _ _ HZF.out
        have z3 : w3.cell? ⟨G, 3, none⟩ = some nilE := cell_of_row _ G 3 _ _ _ HZF.out
        have y0 := frozen_row (j := 0) HZF.out
        have y1 := frozen_row (j := 1) HZF.out
        have y2 := frozen_row (j := 2) HZF.out
        have y3 := frozen_row (j := 3) HZF.out
        have HBF : Hid (Below w.heap.size w ((((w3.setCell ⟨G, 0, none⟩ (.int .i64 (8))).setCell ⟨G, 1, none⟩ (.int .i64 (0))).setCell ⟨G, 2, none⟩ (.int .i64 (zb))).setCell ⟨G, 3, none⟩ (nilE))) := Lib.hid ((((HBX.out.setCell (p := ⟨G, 0, none⟩) (Nat.le_of_eq HG.out.symm) _).setCell (p := ⟨G, 1, none⟩) (Nat.le_of_eq HG.out.symm) _).setCell (p := ⟨G, 2, none⟩) (Nat.le_of_eq HG.out.symm) _).setCell (p := ⟨G, 3, none⟩) (Nat.le_of_eq HG.out.symm) _)
        have e0 : w3.cell? ⟨G5, 0, none⟩ = some (.int .i64 0) := cell_of_row _ G5 0 _ _ _ HZ5.out
        have e1 : w3.cell? ⟨G5, 1, none⟩ = some (.int .i64 0) := cell_of_row _ G5 1 _ _ _ HZ5.out
        have e2 : w3.cell? ⟨G5, 2, none⟩ = some (.int .i64 0) := cell_of_row _ G5 2 _ _ _ HZ5.out
        have e3 : w3.cell? ⟨G5, 3, none⟩ = some nilE := cell_of_row _ G5 3 _ _ _ HZ5.out
        go_wp2_with (fail)
        refine bodyPost_ret (v := .tuple #[evV (8) (0) (zb) (nilE), .int .i64 0]) ?_ rfl (.inr ⟨_, _, _, _, _, _, _, HNR.out, rfl, Bs.none_ _, (fun x hx => by cases hx), HBF.out⟩)
        exact resultsE Tryd.results14 _ _ G _ _ _ _ _ _ _ (by kernel_rfl) (by kernel_rfl) (finish_heap HZF.out rfl)
    have q_power : (wa == [112, 111, 119, 101, 114]) = false := by rw [beq_eq_false_iff_ne]; exact h_power
    have HNR : Hid (readW T = none) := Lib.hid (by
      rw [HTW.out]
      by_cases hd : wa = [100, 114, 111, 112]
      · rw [hd]
        exact readW_drop _ (fun e => HDD.out ⟨hd, .inl e⟩) (fun e => HDD.out ⟨hd, .inr e⟩)
      · exact readW_other _ hd h_in h_out h_tick h_room h_failsync harm h_power)
    as_aux_lemma =>
    have z0 : w3.cell? ⟨G, 0, none⟩ = some (.int .i64 0) := cell_of_row _ G 0 _ _ _ HZF.out
    have z1 : w3.cell? ⟨G, 1, none⟩ = some (.int .i64 0) := cell_of_row _ G 1 _ _ _ HZF.out
    have z2 : w3.cell? ⟨G, 2, none⟩ = some (.int .i64 0) := cell_of_row _ G 2 _ _ _ HZF.out
    have z3 : w3.cell? ⟨G, 3, none⟩ = some nilE := cell_of_row _ G 3 _ _ _ HZF.out
    have y0 := frozen_row (j := 0) HZF.out
    have y1 := frozen_row (j := 1) HZF.out
    have y2 := frozen_row (j := 2) HZF.out
    have y3 := frozen_row (j := 3) HZF.out
    have HBF : Hid (Below w.heap.size w ((((w3.setCell ⟨G, 0, none⟩ (.int .i64 (0))).setCell ⟨G, 1, none⟩ (.int .i64 (0))).setCell ⟨G, 2, none⟩ (.int .i64 (0))).setCell ⟨G, 3, none⟩ (nilE))) := Lib.hid ((((HBX.out.setCell (p := ⟨G, 0, none⟩) (Nat.le_of_eq HG.out.symm) _).setCell (p := ⟨G, 1, none⟩) (Nat.le_of_eq HG.out.symm) _).setCell (p := ⟨G, 2, none⟩) (Nat.le_of_eq HG.out.symm) _).setCell (p := ⟨G, 3, none⟩) (Nat.le_of_eq HG.out.symm) _)
    have e0 : w3.cell? ⟨G5, 0, none⟩ = some (.int .i64 0) := cell_of_row _ G5 0 _ _ _ HZ5.out
    have e1 : w3.cell? ⟨G5, 1, none⟩ = some (.int .i64 0) := cell_of_row _ G5 1 _ _ _ HZ5.out
    have e2 : w3.cell? ⟨G5, 2, none⟩ = some (.int .i64 0) := cell_of_row _ G5 2 _ _ _ HZ5.out
    have e3 : w3.cell? ⟨G5, 3, none⟩ = some nilE := cell_of_row _ G5 3 _ _ _ HZ5.out
    go_wp2_with (fail)
    refine bodyPost_ret (v := .tuple #[evV (0) (0) (0) (nilE), .int .i64 10]) ?_ rfl (.inl ⟨HNR.out, rfl, HBF.out⟩)
    exact resultsE Tryd.results14 _ _ G _ _ _ _ _ _ _ (by kernel_rfl) (by kernel_rfl) (finish_heap HZF.out rfl)
end Go.Proofs.YtnoppnnpennddaaDoor
