/- Layer 19's answers: an event's text. -/
import Derived.Test.YtnoppnnpennddaaDoorTr11
namespace Go.Proofs.YtnoppnnpennddaaDoor
open Go.RowKit

set_option maxHeartbeats 8000000 in
set_option maxRecDepth 100000 in
theorem refEvent_bad (k n kp : Int) (A : Option Addr) (m c : Nat) (l : List UInt8) (w : World) (hB : Bs w A m c l) (hm : m ≤ 100000000) (hn0 : -9223372036854775808 ≤ n) (hn1 : n ≤ 9223372036854775807) (hk0 : -9223372036854775808 ≤ kp) (hk1 : kp ≤ 9223372036854775807) (hk : k < 0 ∨ 9 ≤ k) :
    Calls Tryd.prog 12 #[evV k n kp (.slice A m c)] w (RetT (evT k n kp l) w) := by
  have HLE := Lib.hid hB.len
  have HKK := Lib.hid hk
  clear hk
  have hbA : Below w.heap.size w (w.alloc (.cells (evC k n kp (.slice A m c)) TE)) := (Below.refl _ w).alloc (Nat.le_refl _) _
  have HZ : Hid ((w.alloc (.cells (evC k n kp (.slice A m c)) TE)).heap[w.heap.size]? = some (.cells (evC k n kp (.slice A m c)) TE)) := Lib.hid (heap_alloc_new w _)
  have HBS := Lib.hid (hB.below hbA)
  have HB := Lib.hid hbA
  have HM := Lib.hid hm
  have HXL := Lib.hid (itoaT_len n hn0 hn1)
  have HYL := Lib.hid (itoaT_len kp hk0 hk1)
  have HDN := Lib.hid (fun W => refDecimal n hn0 hn1 W)
  have HDK := Lib.hid (fun W => refDecimal kp hk0 hk1 W)
  have HEV : Hid (evT k n kp l = if k < 0 ∨ 9 ≤ k then ([], 17) else if ((rowF k.toNat).1 = false ∧ l ≠ []) ∨ ((rowF k.toNat).2.1 = false ∧ n ≠ 0) ∨ ((rowF k.toNat).2.2 = false ∧ kp ≠ 0) then ([], 10) else (wordsT k.toNat ++ (if (rowF k.toNat).1 = true then 32 :: hexD l else []) ++ (if (rowF k.toNat).2.1 = true then 32 :: itoaT n else []) ++ (if (rowF k.toNat).2.2 = true then 32 :: itoaT kp else []), 0)) := Lib.hid rfl
  obtain ⟨X, hX⟩ : ∃ X, X = itoaT n := ⟨_, rfl⟩
  obtain ⟨Y, hY⟩ : ∃ Y, Y = itoaT kp := ⟨_, rfl⟩
  rw [← hX] at HXL HDN HEV
  rw [← hY] at HYL HDK HEV
  clear hB hbA hm hn0 hn1 hk0 hk1 hX hY
  go_enter Tryd.func12, Tryd.ntmps12
  go_wp2_with (fail)
  generalize w.alloc (.cells (evC k n kp (.slice A m c)) TE) = w0 at *
  obtain ⟨g0, hg0⟩ : ∃ g, g = w.heap.size := ⟨_, rfl⟩
  rw [← hg0] at HZ ⊢
  clear hg0
  refine (HDN.out w0).mono ?_
  rintro e w1 ⟨rfl, hb1⟩
  have hlt := (Array.getElem?_eq_some_iff.1 HZ.out).1
  have HZ1 := Lib.hid ((hb1.block _ hlt).trans HZ.out)
  have HB1 := Lib.hid (HB.out.trans (hb1.mono HB.out.size))
  have HBS1 := Lib.hid (HBS.out.below hb1)
  clear hb1 hlt HZ HB HBS HDN
  have e2 : w1.cell? ⟨g0, 2, none⟩ = some (.int .i64 kp) := cell_of_row _ g0 2 _ _ _ HZ1.out
  go_wp2_with (fail)
  clear e2
  refine (HDK.out w1).mono ?_
  rintro e w2 ⟨rfl, hb2⟩
  have hlt := (Array.getElem?_eq_some_iff.1 HZ1.out).1
  have HZ2 := Lib.hid ((hb2.block _ hlt).trans HZ1.out)
  have HB2 := Lib.hid (HB1.out.trans (hb2.mono HB1.out.size))
  have HBS2 := Lib.hid (HBS1.out.below hb2)
  clear hb2 hlt HZ1 HB1 HBS1 HDK
  have e0 : w2.cell? ⟨g0, 0, none⟩ = some (.int .i64 k) := cell_of_row _ g0 0 _ _ _ HZ2.out
  have e1 : w2.cell? ⟨g0, 1, none⟩ = some (.int .i64 n) := cell_of_row _ g0 1 _ _ _ HZ2.out
  have e2 : w2.cell? ⟨g0, 2, none⟩ = some (.int .i64 kp) := cell_of_row _ g0 2 _ _ _ HZ2.out
  have e3 : w2.cell? ⟨g0, 3, none⟩ = some (.slice A m c) := cell_of_row _ g0 3 _ _ _ HZ2.out
  have hk := HKK.out
  have HE : Hid (evT k n kp l = ([], 17)) := Lib.hid (if_pos hk)
  have k0 : ((k : Int) == 0) = false := by rw [beq_eq_false_iff_ne]; omega
  have k1 : ((k : Int) == 1) = false := by rw [beq_eq_false_iff_ne]; omega
  have k4 : ((k : Int) == 4) = false := by rw [beq_eq_false_iff_ne]; omega
  have k5 : ((k : Int) == 5) = false := by rw [beq_eq_false_iff_ne]; omega
  have k6 : ((k : Int) == 6) = false := by rw [beq_eq_false_iff_ne]; omega
  have k7 : ((k : Int) == 7) = false := by rw [beq_eq_false_iff_ne]; omega
  have k8 : ((k : Int) == 8) = false := by rw [beq_eq_false_iff_ne]; omega
  rcases hk with hk | hk
  · have d1 : decide (k < 0) = true := by rw [decide_eq_true_iff]; exact hk
    go_wp2_with (fail)
    go_ret2
    exact ⟨by rw [HE.out]; rfl, HB2.out⟩
  · have d1 : decide (k < 0) = false := by rw [decide_eq_false_iff_not]; omega
    have d2 : decide ((8 : Int) < k) = true := by rw [decide_eq_true_iff]; omega
    have d3 : ¬ k < 0 := by omega
    have d4 : (8 : Int) < k := by omega
    go_wp2_with (fail)
    go_ret2
    exact ⟨by rw [HE.out]; rfl, HB2.out⟩

set_option maxHeartbeats 8000000 in
set_option maxRecDepth 100000 in
theorem refEvent_k0 (k n kp : Int) (A : Option Addr) (m c : Nat) (l : List UInt8) (w : World) (hB : Bs w A m c l) (hm : m ≤ 100000000) (hn0 : -9223372036854775808 ≤ n) (hn1 : n ≤ 9223372036854775807) (hk0 : -9223372036854775808 ≤ kp) (hk1 : kp ≤ 9223372036854775807) (hk : k = 0) :
    Calls Tryd.prog 12 #[evV k n kp (.slice A m c)] w (RetT (evT k n kp l) w) := by
  have HLE := Lib.hid hB.len
  have HKK := Lib.hid hk
  clear hk
  have hbA : Below w.heap.size w (w.alloc (.cells (evC k n kp (.slice A m c)) TE)) := (Below.refl _ w).alloc (Nat.le_refl _) _
  have HZ : Hid ((w.alloc (.cells (evC k n kp (.slice A m c)) TE)).heap[w.heap.size]? = some (.cells (evC k n kp (.slice A m c)) TE)) := Lib.hid (heap_alloc_new w _)
  have HBS := Lib.hid (hB.below hbA)
  have HB := Lib.hid hbA
  have HM := Lib.hid hm
  have HXL := Lib.hid (itoaT_len n hn0 hn1)
  have HYL := Lib.hid (itoaT_len kp hk0 hk1)
  have HDN := Lib.hid (fun W => refDecimal n hn0 hn1 W)
  have HDK := Lib.hid (fun W => refDecimal kp hk0 hk1 W)
  have HEV : Hid (evT k n kp l = if k < 0 ∨ 9 ≤ k then ([], 17) else if ((rowF k.toNat).1 = false ∧ l ≠ []) ∨ ((rowF k.toNat).2.1 = false ∧ n ≠ 0) ∨ ((rowF k.toNat).2.2 = false ∧ kp ≠ 0) then ([], 10) else (wordsT k.toNat ++ (if (rowF k.toNat).1 = true then 32 :: hexD l else []) ++ (if (rowF k.toNat).2.1 = true then 32 :: itoaT n else []) ++ (if (rowF k.toNat).2.2 = true then 32 :: itoaT kp else []), 0)) := Lib.hid rfl
  obtain ⟨X, hX⟩ : ∃ X, X = itoaT n := ⟨_, rfl⟩
  obtain ⟨Y, hY⟩ : ∃ Y, Y = itoaT kp := ⟨_, rfl⟩
  rw [← hX] at HXL HDN HEV
  rw [← hY] at HYL HDK HEV
  clear hB hbA hm hn0 hn1 hk0 hk1 hX hY
  go_enter Tryd.func12, Tryd.ntmps12
  go_wp2_with (fail)
  generalize w.alloc (.cells (evC k n kp (.slice A m c)) TE) = w0 at *
  obtain ⟨g0, hg0⟩ : ∃ g, g = w.heap.size := ⟨_, rfl⟩
  rw [← hg0] at HZ ⊢
  clear hg0
  refine (HDN.out w0).mono ?_
  rintro e w1 ⟨rfl, hb1⟩
  have hlt := (Array.getElem?_eq_some_iff.1 HZ.out).1
  have HZ1 := Lib.hid ((hb1.block _ hlt).trans HZ.out)
  have HB1 := Lib.hid (HB.out.trans (hb1.mono HB.out.size))
  have HBS1 := Lib.hid (HBS.out.below hb1)
  clear hb1 hlt HZ HB HBS HDN
  have e2 : w1.cell? ⟨g0, 2, none⟩ = some (.int .i64 kp) := cell_of_row _ g0 2 _ _ _ HZ1.out
  go_wp2_with (fail)
  clear e2
  refine (HDK.out w1).mono ?_
  rintro e w2 ⟨rfl, hb2⟩
  have hlt := (Array.getElem?_eq_some_iff.1 HZ1.out).1
  have HZ2 := Lib.hid ((hb2.block _ hlt).trans HZ1.out)
  have HB2 := Lib.hid (HB1.out.trans (hb2.mono HB1.out.size))
  have HBS2 := Lib.hid (HBS1.out.below hb2)
  clear hb2 hlt HZ1 HB1 HBS1 HDK
  have e0 : w2.cell? ⟨g0, 0, none⟩ = some (.int .i64 k) := cell_of_row _ g0 0 _ _ _ HZ2.out
  have e1 : w2.cell? ⟨g0, 1, none⟩ = some (.int .i64 n) := cell_of_row _ g0 1 _ _ _ HZ2.out
  have e2 : w2.cell? ⟨g0, 2, none⟩ = some (.int .i64 kp) := cell_of_row _ g0 2 _ _ _ HZ2.out
  have e3 : w2.cell? ⟨g0, 3, none⟩ = some (.slice A m c) := cell_of_row _ g0 3 _ _ _ HZ2.out
  have hk := HKK.out
  clear HKK
  subst hk
  have HE : Hid (evT 0 n kp l = if (true = false ∧ l ≠ []) ∨ (false = false ∧ n ≠ 0) ∨ (false = false ∧ kp ≠ 0) then ([], 10) else ([105, 110] ++ (if true = true then 32 :: hexD l else []) ++ (if false = true then 32 :: X else []) ++ (if false = true then 32 :: Y else []), 0)) := Lib.hid (by rw [HEV.out, if_neg (by omega)]; rfl)
  clear HEV
  by_cases hc_n : n = 0
  case neg =>
    have HF : Hid (evT 0 n kp l = ([], 10)) := Lib.hid (by rw [HE.out, if_pos (.inr (.inl ⟨rfl, hc_n⟩))])
    have g1 : ((n : Int) == 0) = false := by rw [beq_eq_false_iff_ne]; exact hc_n
    have g2 : ((n : Int) != 0) = true := by rw [bne, g1]; rfl
    go_wp2_with (fail)
    go_ret2
    exact ⟨by rw [HF.out]; rfl, HB2.out⟩
  subst hc_n
  by_cases hc_kp : kp = 0
  case neg =>
    have HF : Hid (evT 0 0 kp l = ([], 10)) := Lib.hid (by rw [HE.out, if_pos (.inr (.inr ⟨rfl, hc_kp⟩))])
    have g1 : ((kp : Int) == 0) = false := by rw [beq_eq_false_iff_ne]; exact hc_kp
    have g2 : ((kp : Int) != 0) = true := by rw [bne, g1]; rfl
    go_wp2_with (fail)
    go_ret2
    exact ⟨by rw [HF.out]; rfl, HB2.out⟩
  subst hc_kp
  have HF : Hid (evT 0 0 0 l = ([105, 110] ++ 32 :: hexD l, 0)) := Lib.hid (by rw [HE.out, if_neg (by simp)]; simp)
  clear HE
  go_wp2_with (fail)
  refine (refHex A m c l w2 HBS2.out HM.out).mono ?_
  rintro e w3 ⟨rfl, hb3⟩
  have HB3 := Lib.hid (HB2.out.trans (hb3.mono HB2.out.size))
  have hxl : (hexD l).length ≤ 200000001 := by have := hexD_len l; have := HLE.out; have := HM.out; omega
  obtain ⟨Z, hZ⟩ : ∃ Z, Z = hexD l := ⟨_, rfl⟩
  rw [← hZ] at HF hxl ⊢
  clear hZ hb3
  have sl : ¬ (9223372036854775807 < 3 + Z.length) := by omega
  go_wp2_with (fail)
  go_ret2
  refine ⟨?_, HB3.out⟩
  rw [HF.out]
  show Ending.returned (Value.tuple #[Value.string ((⟨#[105, 110, 32]⟩ : ByteArray) ++ txt Z), .int .i64 0]) = _
  rw [show (⟨#[105, 110, 32]⟩ : ByteArray) = txt [105, 110, 32] from rfl, txt_appT]
  rfl

set_option maxHeartbeats 8000000 in
set_option maxRecDepth 100000 in
theorem refEvent_k1 (k n kp : Int) (A : Option Addr) (m c : Nat) (l : List UInt8) (w : World) (hB : Bs w A m c l) (hm : m ≤ 100000000) (hn0 : -9223372036854775808 ≤ n) (hn1 : n ≤ 9223372036854775807) (hk0 : -9223372036854775808 ≤ kp) (hk1 : kp ≤ 9223372036854775807) (hk : k = 1) :
    Calls Tryd.prog 12 #[evV k n kp (.slice A m c)] w (RetT (evT k n kp l) w) := by
  have HLE := Lib.hid hB.len
  have HKK := Lib.hid hk
  clear hk
  have hbA : Below w.heap.size w (w.alloc (.cells (evC k n kp (.slice A m c)) TE)) := (Below.refl _ w).alloc (Nat.le_refl _) _
  have HZ : Hid ((w.alloc (.cells (evC k n kp (.slice A m c)) TE)).heap[w.heap.size]? = some (.cells (evC k n kp (.slice A m c)) TE)) := Lib.hid (heap_alloc_new w _)
  have HBS := Lib.hid (hB.below hbA)
  have HB := Lib.hid hbA
  have HM := Lib.hid hm
  have HXL := Lib.hid (itoaT_len n hn0 hn1)
  have HYL := Lib.hid (itoaT_len kp hk0 hk1)
  have HDN := Lib.hid (fun W => refDecimal n hn0 hn1 W)
  have HDK := Lib.hid (fun W => refDecimal kp hk0 hk1 W)
  have HEV : Hid (evT k n kp l = if k < 0 ∨ 9 ≤ k then ([], 17) else if ((rowF k.toNat).1 = false ∧ l ≠ []) ∨ ((rowF k.toNat).2.1 = false ∧ n ≠ 0) ∨ ((rowF k.toNat).2.2 = false ∧ kp ≠ 0) then ([], 10) else (wordsT k.toNat ++ (if (rowF k.toNat).1 = true then 32 :: hexD l else []) ++ (if (rowF k.toNat).2.1 = true then 32 :: itoaT n else []) ++ (if (rowF k.toNat).2.2 = true then 32 :: itoaT kp else []), 0)) := Lib.hid rfl
  obtain ⟨X, hX⟩ : ∃ X, X = itoaT n := ⟨_, rfl⟩
  obtain ⟨Y, hY⟩ : ∃ Y, Y = itoaT kp := ⟨_, rfl⟩
  rw [← hX] at HXL HDN HEV
  rw [← hY] at HYL HDK HEV
  clear hB hbA hm hn0 hn1 hk0 hk1 hX hY
  go_enter Tryd.func12, Tryd.ntmps12
  go_wp2_with (fail)
  generalize w.alloc (.cells (evC k n kp (.slice A m c)) TE) = w0 at *
  obtain ⟨g0, hg0⟩ : ∃ g, g = w.heap.size := ⟨_, rfl⟩
  rw [← hg0] at HZ ⊢
  clear hg0
  refine (HDN.out w0).mono ?_
  rintro e w1 ⟨rfl, hb1⟩
  have hlt := (Array.getElem?_eq_some_iff.1 HZ.out).1
  have HZ1 := Lib.hid ((hb1.block _ hlt).trans HZ.out)
  have HB1 := Lib.hid (HB.out.trans (hb1.mono HB.out.size))
  have HBS1 := Lib.hid (HBS.out.below hb1)
  clear hb1 hlt HZ HB HBS HDN
  have e2 : w1.cell? ⟨g0, 2, none⟩ = some (.int .i64 kp) := cell_of_row _ g0 2 _ _ _ HZ1.out
  go_wp2_with (fail)
  clear e2
  refine (HDK.out w1).mono ?_
  rintro e w2 ⟨rfl, hb2⟩
  have hlt := (Array.getElem?_eq_some_iff.1 HZ1.out).1
  have HZ2 := Lib.hid ((hb2.block _ hlt).trans HZ1.out)
  have HB2 := Lib.hid (HB1.out.trans (hb2.mono HB1.out.size))
  have HBS2 := Lib.hid (HBS1.out.below hb2)
  clear hb2 hlt HZ1 HB1 HBS1 HDK
  have e0 : w2.cell? ⟨g0, 0, none⟩ = some (.int .i64 k) := cell_of_row _ g0 0 _ _ _ HZ2.out
  have e1 : w2.cell? ⟨g0, 1, none⟩ = some (.int .i64 n) := cell_of_row _ g0 1 _ _ _ HZ2.out
  have e2 : w2.cell? ⟨g0, 2, none⟩ = some (.int .i64 kp) := cell_of_row _ g0 2 _ _ _ HZ2.out
  have e3 : w2.cell? ⟨g0, 3, none⟩ = some (.slice A m c) := cell_of_row _ g0 3 _ _ _ HZ2.out
  have hk := HKK.out
  clear HKK
  subst hk
  have HE : Hid (evT 1 n kp l = if (true = false ∧ l ≠ []) ∨ (false = false ∧ n ≠ 0) ∨ (false = false ∧ kp ≠ 0) then ([], 10) else ([111, 117, 116] ++ (if true = true then 32 :: hexD l else []) ++ (if false = true then 32 :: X else []) ++ (if false = true then 32 :: Y else []), 0)) := Lib.hid (by rw [HEV.out, if_neg (by omega)]; rfl)
  clear HEV
  by_cases hc_n : n = 0
  case neg =>
    have HF : Hid (evT 1 n kp l = ([], 10)) := Lib.hid (by rw [HE.out, if_pos (.inr (.inl ⟨rfl, hc_n⟩))])
    have g1 : ((n : Int) == 0) = false := by rw [beq_eq_false_iff_ne]; exact hc_n
    have g2 : ((n : Int) != 0) = true := by rw [bne, g1]; rfl
    go_wp2_with (fail)
    go_ret2
    exact ⟨by rw [HF.out]; rfl, HB2.out⟩
  subst hc_n
  by_cases hc_kp : kp = 0
  case neg =>
    have HF : Hid (evT 1 0 kp l = ([], 10)) := Lib.hid (by rw [HE.out, if_pos (.inr (.inr ⟨rfl, hc_kp⟩))])
    have g1 : ((kp : Int) == 0) = false := by rw [beq_eq_false_iff_ne]; exact hc_kp
    have g2 : ((kp : Int) != 0) = true := by rw [bne, g1]; rfl
    go_wp2_with (fail)
    go_ret2
    exact ⟨by rw [HF.out]; rfl, HB2.out⟩
  subst hc_kp
  have HF : Hid (evT 1 0 0 l = ([111, 117, 116] ++ 32 :: hexD l, 0)) := Lib.hid (by rw [HE.out, if_neg (by simp)]; simp)
  clear HE
  go_wp2_with (fail)
  refine (refHex A m c l w2 HBS2.out HM.out).mono ?_
  rintro e w3 ⟨rfl, hb3⟩
  have HB3 := Lib.hid (HB2.out.trans (hb3.mono HB2.out.size))
  have hxl : (hexD l).length ≤ 200000001 := by have := hexD_len l; have := HLE.out; have := HM.out; omega
  obtain ⟨Z, hZ⟩ : ∃ Z, Z = hexD l := ⟨_, rfl⟩
  rw [← hZ] at HF hxl ⊢
  clear hZ hb3
  have sl : ¬ (9223372036854775807 < 4 + Z.length) := by omega
  go_wp2_with (fail)
  go_ret2
  refine ⟨?_, HB3.out⟩
  rw [HF.out]
  show Ending.returned (Value.tuple #[Value.string ((⟨#[111, 117, 116, 32]⟩ : ByteArray) ++ txt Z), .int .i64 0]) = _
  rw [show (⟨#[111, 117, 116, 32]⟩ : ByteArray) = txt [111, 117, 116, 32] from rfl, txt_appT]
  rfl

set_option maxHeartbeats 8000000 in
set_option maxRecDepth 100000 in
theorem refEvent_k2 (k n kp : Int) (A : Option Addr) (m c : Nat) (l : List UInt8) (w : World) (hB : Bs w A m c l) (hm : m ≤ 100000000) (hn0 : -9223372036854775808 ≤ n) (hn1 : n ≤ 9223372036854775807) (hk0 : -9223372036854775808 ≤ kp) (hk1 : kp ≤ 9223372036854775807) (hk : k = 2) :
    Calls Tryd.prog 12 #[evV k n kp (.slice A m c)] w (RetT (evT k n kp l) w) := by
  have HLE := Lib.hid hB.len
  have HKK := Lib.hid hk
  clear hk
  have hbA : Below w.heap.size w (w.alloc (.cells (evC k n kp (.slice A m c)) TE)) := (Below.refl _ w).alloc (Nat.le_refl _) _
  have HZ : Hid ((w.alloc (.cells (evC k n kp (.slice A m c)) TE)).heap[w.heap.size]? = some (.cells (evC k n kp (.slice A m c)) TE)) := Lib.hid (heap_alloc_new w _)
  have HBS := Lib.hid (hB.below hbA)
  have HB := Lib.hid hbA
  have HM := Lib.hid hm
  have HXL := Lib.hid (itoaT_len n hn0 hn1)
  have HYL := Lib.hid (itoaT_len kp hk0 hk1)
  have HDN := Lib.hid (fun W => refDecimal n hn0 hn1 W)
  have HDK := Lib.hid (fun W => refDecimal kp hk0 hk1 W)
  have HEV : Hid (evT k n kp l = if k < 0 ∨ 9 ≤ k then ([], 17) else if ((rowF k.toNat).1 = false ∧ l ≠ []) ∨ ((rowF k.toNat).2.1 = false ∧ n ≠ 0) ∨ ((rowF k.toNat).2.2 = false ∧ kp ≠ 0) then ([], 10) else (wordsT k.toNat ++ (if (rowF k.toNat).1 = true then 32 :: hexD l else []) ++ (if (rowF k.toNat).2.1 = true then 32 :: itoaT n else []) ++ (if (rowF k.toNat).2.2 = true then 32 :: itoaT kp else []), 0)) := Lib.hid rfl
  obtain ⟨X, hX⟩ : ∃ X, X = itoaT n := ⟨_, rfl⟩
  obtain ⟨Y, hY⟩ : ∃ Y, Y = itoaT kp := ⟨_, rfl⟩
  rw [← hX] at HXL HDN HEV
  rw [← hY] at HYL HDK HEV
  clear hB hbA hm hn0 hn1 hk0 hk1 hX hY
  go_enter Tryd.func12, Tryd.ntmps12
  go_wp2_with (fail)
  generalize w.alloc (.cells (evC k n kp (.slice A m c)) TE) = w0 at *
  obtain ⟨g0, hg0⟩ : ∃ g, g = w.heap.size := ⟨_, rfl⟩
  rw [← hg0] at HZ ⊢
  clear hg0
  refine (HDN.out w0).mono ?_
  rintro e w1 ⟨rfl, hb1⟩
  have hlt := (Array.getElem?_eq_some_iff.1 HZ.out).1
  have HZ1 := Lib.hid ((hb1.block _ hlt).trans HZ.out)
  have HB1 := Lib.hid (HB.out.trans (hb1.mono HB.out.size))
  have HBS1 := Lib.hid (HBS.out.below hb1)
  clear hb1 hlt HZ HB HBS HDN
  have e2 : w1.cell? ⟨g0, 2, none⟩ = some (.int .i64 kp) := cell_of_row _ g0 2 _ _ _ HZ1.out
  go_wp2_with (fail)
  clear e2
  refine (HDK.out w1).mono ?_
  rintro e w2 ⟨rfl, hb2⟩
  have hlt := (Array.getElem?_eq_some_iff.1 HZ1.out).1
  have HZ2 := Lib.hid ((hb2.block _ hlt).trans HZ1.out)
  have HB2 := Lib.hid (HB1.out.trans (hb2.mono HB1.out.size))
  have HBS2 := Lib.hid (HBS1.out.below hb2)
  clear hb2 hlt HZ1 HB1 HBS1 HDK
  have e0 : w2.cell? ⟨g0, 0, none⟩ = some (.int .i64 k) := cell_of_row _ g0 0 _ _ _ HZ2.out
  have e1 : w2.cell? ⟨g0, 1, none⟩ = some (.int .i64 n) := cell_of_row _ g0 1 _ _ _ HZ2.out
  have e2 : w2.cell? ⟨g0, 2, none⟩ = some (.int .i64 kp) := cell_of_row _ g0 2 _ _ _ HZ2.out
  have e3 : w2.cell? ⟨g0, 3, none⟩ = some (.slice A m c) := cell_of_row _ g0 3 _ _ _ HZ2.out
  have hk := HKK.out
  clear HKK
  subst hk
  have HE : Hid (evT 2 n kp l = if (false = false ∧ l ≠ []) ∨ (false = false ∧ n ≠ 0) ∨ (false = false ∧ kp ≠ 0) then ([], 10) else ([100, 114, 111, 112, 32, 105, 110] ++ (if false = true then 32 :: hexD l else []) ++ (if false = true then 32 :: X else []) ++ (if false = true then 32 :: Y else []), 0)) := Lib.hid (by rw [HEV.out, if_neg (by omega)]; rfl)
  clear HEV
  by_cases hc_m : m = 0
  case neg =>
    have HF : Hid (evT 2 n kp l = ([], 10)) := Lib.hid (by rw [HE.out, if_pos (.inl ⟨rfl, fun e => hc_m (by rw [← HLE.out, e]; rfl)⟩)])
    have g1 : (0 : Int) < (m : Int) := by omega
    have g2 : decide ((0 : Int) < (m : Int)) = true := by rw [decide_eq_true_iff]; omega
    go_wp2_with (fail)
    go_ret2
    exact ⟨by rw [HF.out]; rfl, HB2.out⟩
  have hm0 : m = 0 := hc_m
  subst hm0
  clear hc_m
  by_cases hc_n : n = 0
  case neg =>
    have HF : Hid (evT 2 n kp l = ([], 10)) := Lib.hid (by rw [HE.out, if_pos (.inr (.inl ⟨rfl, hc_n⟩))])
    have g1 : ((n : Int) == 0) = false := by rw [beq_eq_false_iff_ne]; exact hc_n
    have g2 : ((n : Int) != 0) = true := by rw [bne, g1]; rfl
    go_wp2_with (fail)
    go_ret2
    exact ⟨by rw [HF.out]; rfl, HB2.out⟩
  subst hc_n
  by_cases hc_kp : kp = 0
  case neg =>
    have HF : Hid (evT 2 0 kp l = ([], 10)) := Lib.hid (by rw [HE.out, if_pos (.inr (.inr ⟨rfl, hc_kp⟩))])
    have g1 : ((kp : Int) == 0) = false := by rw [beq_eq_false_iff_ne]; exact hc_kp
    have g2 : ((kp : Int) != 0) = true := by rw [bne, g1]; rfl
    go_wp2_with (fail)
    go_ret2
    exact ⟨by rw [HF.out]; rfl, HB2.out⟩
  subst hc_kp
  have HF : Hid (evT 2 0 0 l = ([100, 114, 111, 112, 32, 105, 110], 0)) := Lib.hid (by rw [HE.out, if_neg (by simp [List.eq_nil_of_length_eq_zero HLE.out])]; simp)
  clear HE
  go_wp2_with (fail)
  go_ret2
  exact ⟨by rw [HF.out]; rfl, HB2.out⟩

set_option maxHeartbeats 8000000 in
set_option maxRecDepth 100000 in
theorem refEvent_k3 (k n kp : Int) (A : Option Addr) (m c : Nat) (l : List UInt8) (w : World) (hB : Bs w A m c l) (hm : m ≤ 100000000) (hn0 : -9223372036854775808 ≤ n) (hn1 : n ≤ 9223372036854775807) (hk0 : -9223372036854775808 ≤ kp) (hk1 : kp ≤ 9223372036854775807) (hk : k = 3) :
    Calls Tryd.prog 12 #[evV k n kp (.slice A m c)] w (RetT (evT k n kp l) w) := by
  have HLE := Lib.hid hB.len
  have HKK := Lib.hid hk
  clear hk
  have hbA : Below w.heap.size w (w.alloc (.cells (evC k n kp (.slice A m c)) TE)) := (Below.refl _ w).alloc (Nat.le_refl _) _
  have HZ : Hid ((w.alloc (.cells (evC k n kp (.slice A m c)) TE)).heap[w.heap.size]? = some (.cells (evC k n kp (.slice A m c)) TE)) := Lib.hid (heap_alloc_new w _)
  have HBS := Lib.hid (hB.below hbA)
  have HB := Lib.hid hbA
  have HM := Lib.hid hm
  have HXL := Lib.hid (itoaT_len n hn0 hn1)
  have HYL := Lib.hid (itoaT_len kp hk0 hk1)
  have HDN := Lib.hid (fun W => refDecimal n hn0 hn1 W)
  have HDK := Lib.hid (fun W => refDecimal kp hk0 hk1 W)
  have HEV : Hid (evT k n kp l = if k < 0 ∨ 9 ≤ k then ([], 17) else if ((rowF k.toNat).1 = false ∧ l ≠ []) ∨ ((rowF k.toNat).2.1 = false ∧ n ≠ 0) ∨ ((rowF k.toNat).2.2 = false ∧ kp ≠ 0) then ([], 10) else (wordsT k.toNat ++ (if (rowF k.toNat).1 = true then 32 :: hexD l else []) ++ (if (rowF k.toNat).2.1 = true then 32 :: itoaT n else []) ++ (if (rowF k.toNat).2.2 = true then 32 :: itoaT kp else []), 0)) := Lib.hid rfl
  obtain ⟨X, hX⟩ : ∃ X, X = itoaT n := ⟨_, rfl⟩
  obtain ⟨Y, hY⟩ : ∃ Y, Y = itoaT kp := ⟨_, rfl⟩
  rw [← hX] at HXL HDN HEV
  rw [← hY] at HYL HDK HEV
  clear hB hbA hm hn0 hn1 hk0 hk1 hX hY
  go_enter Tryd.func12, Tryd.ntmps12
  go_wp2_with (fail)
  generalize w.alloc (.cells (evC k n kp (.slice A m c)) TE) = w0 at *
  obtain ⟨g0, hg0⟩ : ∃ g, g = w.heap.size := ⟨_, rfl⟩
  rw [← hg0] at HZ ⊢
  clear hg0
  refine (HDN.out w0).mono ?_
  rintro e w1 ⟨rfl, hb1⟩
  have hlt := (Array.getElem?_eq_some_iff.1 HZ.out).1
  have HZ1 := Lib.hid ((hb1.block _ hlt).trans HZ.out)
  have HB1 := Lib.hid (HB.out.trans (hb1.mono HB.out.size))
  have HBS1 := Lib.hid (HBS.out.below hb1)
  clear hb1 hlt HZ HB HBS HDN
  have e2 : w1.cell? ⟨g0, 2, none⟩ = some (.int .i64 kp) := cell_of_row _ g0 2 _ _ _ HZ1.out
  go_wp2_with (fail)
  clear e2
  refine (HDK.out w1).mono ?_
  rintro e w2 ⟨rfl, hb2⟩
  have hlt := (Array.getElem?_eq_some_iff.1 HZ1.out).1
  have HZ2 := Lib.hid ((hb2.block _ hlt).trans HZ1.out)
  have HB2 := Lib.hid (HB1.out.trans (hb2.mono HB1.out.size))
  have HBS2 := Lib.hid (HBS1.out.below hb2)
  clear hb2 hlt HZ1 HB1 HBS1 HDK
  have e0 : w2.cell? ⟨g0, 0, none⟩ = some (.int .i64 k) := cell_of_row _ g0 0 _ _ _ HZ2.out
  have e1 : w2.cell? ⟨g0, 1, none⟩ = some (.int .i64 n) := cell_of_row _ g0 1 _ _ _ HZ2.out
  have e2 : w2.cell? ⟨g0, 2, none⟩ = some (.int .i64 kp) := cell_of_row _ g0 2 _ _ _ HZ2.out
  have e3 : w2.cell? ⟨g0, 3, none⟩ = some (.slice A m c) := cell_of_row _ g0 3 _ _ _ HZ2.out
  have hk := HKK.out
  clear HKK
  subst hk
  have HE : Hid (evT 3 n kp l = if (false = false ∧ l ≠ []) ∨ (false = false ∧ n ≠ 0) ∨ (false = false ∧ kp ≠ 0) then ([], 10) else ([100, 114, 111, 112, 32, 111, 117, 116] ++ (if false = true then 32 :: hexD l else []) ++ (if false = true then 32 :: X else []) ++ (if false = true then 32 :: Y else []), 0)) := Lib.hid (by rw [HEV.out, if_neg (by omega)]; rfl)
  clear HEV
  by_cases hc_m : m = 0
  case neg =>
    have HF : Hid (evT 3 n kp l = ([], 10)) := Lib.hid (by rw [HE.out, if_pos (.inl ⟨rfl, fun e => hc_m (by rw [← HLE.out, e]; rfl)⟩)])
    have g1 : (0 : Int) < (m : Int) := by omega
    have g2 : decide ((0 : Int) < (m : Int)) = true := by rw [decide_eq_true_iff]; omega
    go_wp2_with (fail)
    go_ret2
    exact ⟨by rw [HF.out]; rfl, HB2.out⟩
  have hm0 : m = 0 := hc_m
  subst hm0
  clear hc_m
  by_cases hc_n : n = 0
  case neg =>
    have HF : Hid (evT 3 n kp l = ([], 10)) := Lib.hid (by rw [HE.out, if_pos (.inr (.inl ⟨rfl, hc_n⟩))])
    have g1 : ((n : Int) == 0) = false := by rw [beq_eq_false_iff_ne]; exact hc_n
    have g2 : ((n : Int) != 0) = true := by rw [bne, g1]; rfl
    go_wp2_with (fail)
    go_ret2
    exact ⟨by rw [HF.out]; rfl, HB2.out⟩
  subst hc_n
  by_cases hc_kp : kp = 0
  case neg =>
    have HF : Hid (evT 3 0 kp l = ([], 10)) := Lib.hid (by rw [HE.out, if_pos (.inr (.inr ⟨rfl, hc_kp⟩))])
    have g1 : ((kp : Int) == 0) = false := by rw [beq_eq_false_iff_ne]; exact hc_kp
    have g2 : ((kp : Int) != 0) = true := by rw [bne, g1]; rfl
    go_wp2_with (fail)
    go_ret2
    exact ⟨by rw [HF.out]; rfl, HB2.out⟩
  subst hc_kp
  have HF : Hid (evT 3 0 0 l = ([100, 114, 111, 112, 32, 111, 117, 116], 0)) := Lib.hid (by rw [HE.out, if_neg (by simp [List.eq_nil_of_length_eq_zero HLE.out])]; simp)
  clear HE
  go_wp2_with (fail)
  go_ret2
  exact ⟨by rw [HF.out]; rfl, HB2.out⟩

set_option maxHeartbeats 8000000 in
set_option maxRecDepth 100000 in
theorem refEvent_k4 (k n kp : Int) (A : Option Addr) (m c : Nat) (l : List UInt8) (w : World) (hB : Bs w A m c l) (hm : m ≤ 100000000) (hn0 : -9223372036854775808 ≤ n) (hn1 : n ≤ 9223372036854775807) (hk0 : -9223372036854775808 ≤ kp) (hk1 : kp ≤ 9223372036854775807) (hk : k = 4) :
    Calls Tryd.prog 12 #[evV k n kp (.slice A m c)] w (RetT (evT k n kp l) w) := by
  have HLE := Lib.hid hB.len
  have HKK := Lib.hid hk
  clear hk
  have hbA : Below w.heap.size w (w.alloc (.cells (evC k n kp (.slice A m c)) TE)) := (Below.refl _ w).alloc (Nat.le_refl _) _
  have HZ : Hid ((w.alloc (.cells (evC k n kp (.slice A m c)) TE)).heap[w.heap.size]? = some (.cells (evC k n kp (.slice A m c)) TE)) := Lib.hid (heap_alloc_new w _)
  have HBS := Lib.hid (hB.below hbA)
  have HB := Lib.hid hbA
  have HM := Lib.hid hm
  have HXL := Lib.hid (itoaT_len n hn0 hn1)
  have HYL := Lib.hid (itoaT_len kp hk0 hk1)
  have HDN := Lib.hid (fun W => refDecimal n hn0 hn1 W)
  have HDK := Lib.hid (fun W => refDecimal kp hk0 hk1 W)
  have HEV : Hid (evT k n kp l = if k < 0 ∨ 9 ≤ k then ([], 17) else if ((rowF k.toNat).1 = false ∧ l ≠ []) ∨ ((rowF k.toNat).2.1 = false ∧ n ≠ 0) ∨ ((rowF k.toNat).2.2 = false ∧ kp ≠ 0) then ([], 10) else (wordsT k.toNat ++ (if (rowF k.toNat).1 = true then 32 :: hexD l else []) ++ (if (rowF k.toNat).2.1 = true then 32 :: itoaT n else []) ++ (if (rowF k.toNat).2.2 = true then 32 :: itoaT kp else []), 0)) := Lib.hid rfl
  obtain ⟨X, hX⟩ : ∃ X, X = itoaT n := ⟨_, rfl⟩
  obtain ⟨Y, hY⟩ : ∃ Y, Y = itoaT kp := ⟨_, rfl⟩
  rw [← hX] at HXL HDN HEV
  rw [← hY] at HYL HDK HEV
  clear hB hbA hm hn0 hn1 hk0 hk1 hX hY
  go_enter Tryd.func12, Tryd.ntmps12
  go_wp2_with (fail)
  generalize w.alloc (.cells (evC k n kp (.slice A m c)) TE) = w0 at *
  obtain ⟨g0, hg0⟩ : ∃ g, g = w.heap.size := ⟨_, rfl⟩
  rw [← hg0] at HZ ⊢
  clear hg0
  refine (HDN.out w0).mono ?_
  rintro e w1 ⟨rfl, hb1⟩
  have hlt := (Array.getElem?_eq_some_iff.1 HZ.out).1
  have HZ1 := Lib.hid ((hb1.block _ hlt).trans HZ.out)
  have HB1 := Lib.hid (HB.out.trans (hb1.mono HB.out.size))
  have HBS1 := Lib.hid (HBS.out.below hb1)
  clear hb1 hlt HZ HB HBS HDN
  have e2 : w1.cell? ⟨g0, 2, none⟩ = some (.int .i64 kp) := cell_of_row _ g0 2 _ _ _ HZ1.out
  go_wp2_with (fail)
  clear e2
  refine (HDK.out w1).mono ?_
  rintro e w2 ⟨rfl, hb2⟩
  have hlt := (Array.getElem?_eq_some_iff.1 HZ1.out).1
  have HZ2 := Lib.hid ((hb2.block _ hlt).trans HZ1.out)
  have HB2 := Lib.hid (HB1.out.trans (hb2.mono HB1.out.size))
  have HBS2 := Lib.hid (HBS1.out.below hb2)
  clear hb2 hlt HZ1 HB1 HBS1 HDK
  have e0 : w2.cell? ⟨g0, 0, none⟩ = some (.int .i64 k) := cell_of_row _ g0 0 _ _ _ HZ2.out
  have e1 : w2.cell? ⟨g0, 1, none⟩ = some (.int .i64 n) := cell_of_row _ g0 1 _ _ _ HZ2.out
  have e2 : w2.cell? ⟨g0, 2, none⟩ = some (.int .i64 kp) := cell_of_row _ g0 2 _ _ _ HZ2.out
  have e3 : w2.cell? ⟨g0, 3, none⟩ = some (.slice A m c) := cell_of_row _ g0 3 _ _ _ HZ2.out
  have hk := HKK.out
  clear HKK
  subst hk
  have HE : Hid (evT 4 n kp l = if (false = false ∧ l ≠ []) ∨ (true = false ∧ n ≠ 0) ∨ (false = false ∧ kp ≠ 0) then ([], 10) else ([116, 105, 99, 107] ++ (if false = true then 32 :: hexD l else []) ++ (if true = true then 32 :: X else []) ++ (if false = true then 32 :: Y else []), 0)) := Lib.hid (by rw [HEV.out, if_neg (by omega)]; rfl)
  clear HEV
  by_cases hc_m : m = 0
  case neg =>
    have HF : Hid (evT 4 n kp l = ([], 10)) := Lib.hid (by rw [HE.out, if_pos (.inl ⟨rfl, fun e => hc_m (by rw [← HLE.out, e]; rfl)⟩)])
    have g1 : (0 : Int) < (m : Int) := by omega
    have g2 : decide ((0 : Int) < (m : Int)) = true := by rw [decide_eq_true_iff]; omega
    go_wp2_with (fail)
    go_ret2
    exact ⟨by rw [HF.out]; rfl, HB2.out⟩
  have hm0 : m = 0 := hc_m
  subst hm0
  clear hc_m
  by_cases hc_kp : kp = 0
  case neg =>
    have HF : Hid (evT 4 n kp l = ([], 10)) := Lib.hid (by rw [HE.out, if_pos (.inr (.inr ⟨rfl, hc_kp⟩))])
    have g1 : ((kp : Int) == 0) = false := by rw [beq_eq_false_iff_ne]; exact hc_kp
    have g2 : ((kp : Int) != 0) = true := by rw [bne, g1]; rfl
    go_wp2_with (fail)
    go_ret2
    exact ⟨by rw [HF.out]; rfl, HB2.out⟩
  subst hc_kp
  have HF : Hid (evT 4 n 0 l = ([116, 105, 99, 107] ++ 32 :: X, 0)) := Lib.hid (by rw [HE.out, if_neg (by simp [List.eq_nil_of_length_eq_zero HLE.out])]; simp)
  clear HE
  have sx := HXL.out
  have sy := HYL.out
  have sl : ¬ (9223372036854775807 < 5 + X.length) := by omega
  go_wp2_with (fail)
  go_ret2
  refine ⟨?_, HB2.out⟩
  rw [HF.out]
  show Ending.returned (Value.tuple #[Value.string ((⟨#[116, 105, 99, 107, 32]⟩ : ByteArray) ++ txt X), .int .i64 0]) = _
  rw [show (⟨#[116, 105, 99, 107, 32]⟩ : ByteArray) = txt [116, 105, 99, 107, 32] from rfl, txt_appT]
  rfl

set_option maxHeartbeats 8000000 in
set_option maxRecDepth 100000 in
theorem refEvent_k5 (k n kp : Int) (A : Option Addr) (m c : Nat) (l : List UInt8) (w : World) (hB : Bs w A m c l) (hm : m ≤ 100000000) (hn0 : -9223372036854775808 ≤ n) (hn1 : n ≤ 9223372036854775807) (hk0 : -9223372036854775808 ≤ kp) (hk1 : kp ≤ 9223372036854775807) (hk : k = 5) :
    Calls Tryd.prog 12 #[evV k n kp (.slice A m c)] w (RetT (evT k n kp l) w) := by
  have HLE := Lib.hid hB.len
  have HKK := Lib.hid hk
  clear hk
  have hbA : Below w.heap.size w (w.alloc (.cells (evC k n kp (.slice A m c)) TE)) := (Below.refl _ w).alloc (Nat.le_refl _) _
  have HZ : Hid ((w.alloc (.cells (evC k n kp (.slice A m c)) TE)).heap[w.heap.size]? = some (.cells (evC k n kp (.slice A m c)) TE)) := Lib.hid (heap_alloc_new w _)
  have HBS := Lib.hid (hB.below hbA)
  have HB := Lib.hid hbA
  have HM := Lib.hid hm
  have HXL := Lib.hid (itoaT_len n hn0 hn1)
  have HYL := Lib.hid (itoaT_len kp hk0 hk1)
  have HDN := Lib.hid (fun W => refDecimal n hn0 hn1 W)
  have HDK := Lib.hid (fun W => refDecimal kp hk0 hk1 W)
  have HEV : Hid (evT k n kp l = if k < 0 ∨ 9 ≤ k then ([], 17) else if ((rowF k.toNat).1 = false ∧ l ≠ []) ∨ ((rowF k.toNat).2.1 = false ∧ n ≠ 0) ∨ ((rowF k.toNat).2.2 = false ∧ kp ≠ 0) then ([], 10) else (wordsT k.toNat ++ (if (rowF k.toNat).1 = true then 32 :: hexD l else []) ++ (if (rowF k.toNat).2.1 = true then 32 :: itoaT n else []) ++ (if (rowF k.toNat).2.2 = true then 32 :: itoaT kp else []), 0)) := Lib.hid rfl
  obtain ⟨X, hX⟩ : ∃ X, X = itoaT n := ⟨_, rfl⟩
  obtain ⟨Y, hY⟩ : ∃ Y, Y = itoaT kp := ⟨_, rfl⟩
  rw [← hX] at HXL HDN HEV
  rw [← hY] at HYL HDK HEV
  clear hB hbA hm hn0 hn1 hk0 hk1 hX hY
  go_enter Tryd.func12, Tryd.ntmps12
  go_wp2_with (fail)
  generalize w.alloc (.cells (evC k n kp (.slice A m c)) TE) = w0 at *
  obtain ⟨g0, hg0⟩ : ∃ g, g = w.heap.size := ⟨_, rfl⟩
  rw [← hg0] at HZ ⊢
  clear hg0
  refine (HDN.out w0).mono ?_
  rintro e w1 ⟨rfl, hb1⟩
  have hlt := (Array.getElem?_eq_some_iff.1 HZ.out).1
  have HZ1 := Lib.hid ((hb1.block _ hlt).trans HZ.out)
  have HB1 := Lib.hid (HB.out.trans (hb1.mono HB.out.size))
  have HBS1 := Lib.hid (HBS.out.below hb1)
  clear hb1 hlt HZ HB HBS HDN
  have e2 : w1.cell? ⟨g0, 2, none⟩ = some (.int .i64 kp) := cell_of_row _ g0 2 _ _ _ HZ1.out
  go_wp2_with (fail)
  clear e2
  refine (HDK.out w1).mono ?_
  rintro e w2 ⟨rfl, hb2⟩
  have hlt := (Array.getElem?_eq_some_iff.1 HZ1.out).1
  have HZ2 := Lib.hid ((hb2.block _ hlt).trans HZ1.out)
  have HB2 := Lib.hid (HB1.out.trans (hb2.mono HB1.out.size))
  have HBS2 := Lib.hid (HBS1.out.below hb2)
  clear hb2 hlt HZ1 HB1 HBS1 HDK
  have e0 : w2.cell? ⟨g0, 0, none⟩ = some (.int .i64 k) := cell_of_row _ g0 0 _ _ _ HZ2.out
  have e1 : w2.cell? ⟨g0, 1, none⟩ = some (.int .i64 n) := cell_of_row _ g0 1 _ _ _ HZ2.out
  have e2 : w2.cell? ⟨g0, 2, none⟩ = some (.int .i64 kp) := cell_of_row _ g0 2 _ _ _ HZ2.out
  have e3 : w2.cell? ⟨g0, 3, none⟩ = some (.slice A m c) := cell_of_row _ g0 3 _ _ _ HZ2.out
  have hk := HKK.out
  clear HKK
  subst hk
  have HE : Hid (evT 5 n kp l = if (false = false ∧ l ≠ []) ∨ (true = false ∧ n ≠ 0) ∨ (false = false ∧ kp ≠ 0) then ([], 10) else ([114, 111, 111, 109] ++ (if false = true then 32 :: hexD l else []) ++ (if true = true then 32 :: X else []) ++ (if false = true then 32 :: Y else []), 0)) := Lib.hid (by rw [HEV.out, if_neg (by omega)]; rfl)
  clear HEV
  by_cases hc_m : m = 0
  case neg =>
    have HF : Hid (evT 5 n kp l = ([], 10)) := Lib.hid (by rw [HE.out, if_pos (.inl ⟨rfl, fun e => hc_m (by rw [← HLE.out, e]; rfl)⟩)])
    have g1 : (0 : Int) < (m : Int) := by omega
    have g2 : decide ((0 : Int) < (m : Int)) = true := by rw [decide_eq_true_iff]; omega
    go_wp2_with (fail)
    go_ret2
    exact ⟨by rw [HF.out]; rfl, HB2.out⟩
  have hm0 : m = 0 := hc_m
  subst hm0
  clear hc_m
  by_cases hc_kp : kp = 0
  case neg =>
    have HF : Hid (evT 5 n kp l = ([], 10)) := Lib.hid (by rw [HE.out, if_pos (.inr (.inr ⟨rfl, hc_kp⟩))])
    have g1 : ((kp : Int) == 0) = false := by rw [beq_eq_false_iff_ne]; exact hc_kp
    have g2 : ((kp : Int) != 0) = true := by rw [bne, g1]; rfl
    go_wp2_with (fail)
    go_ret2
    exact ⟨by rw [HF.out]; rfl, HB2.out⟩
  subst hc_kp
  have HF : Hid (evT 5 n 0 l = ([114, 111, 111, 109] ++ 32 :: X, 0)) := Lib.hid (by rw [HE.out, if_neg (by simp [List.eq_nil_of_length_eq_zero HLE.out])]; simp)
  clear HE
  have sx := HXL.out
  have sy := HYL.out
  have sl : ¬ (9223372036854775807 < 5 + X.length) := by omega
  go_wp2_with (fail)
  go_ret2
  refine ⟨?_, HB2.out⟩
  rw [HF.out]
  show Ending.returned (Value.tuple #[Value.string ((⟨#[114, 111, 111, 109, 32]⟩ : ByteArray) ++ txt X), .int .i64 0]) = _
  rw [show (⟨#[114, 111, 111, 109, 32]⟩ : ByteArray) = txt [114, 111, 111, 109, 32] from rfl, txt_appT]
  rfl

set_option maxHeartbeats 8000000 in
set_option maxRecDepth 100000 in
theorem refEvent_k6 (k n kp : Int) (A : Option Addr) (m c : Nat) (l : List UInt8) (w : World) (hB : Bs w A m c l) (hm : m ≤ 100000000) (hn0 : -9223372036854775808 ≤ n) (hn1 : n ≤ 9223372036854775807) (hk0 : -9223372036854775808 ≤ kp) (hk1 : kp ≤ 9223372036854775807) (hk : k = 6) :
    Calls Tryd.prog 12 #[evV k n kp (.slice A m c)] w (RetT (evT k n kp l) w) := by
  have HLE := Lib.hid hB.len
  have HKK := Lib.hid hk
  clear hk
  have hbA : Below w.heap.size w (w.alloc (.cells (evC k n kp (.slice A m c)) TE)) := (Below.refl _ w).alloc (Nat.le_refl _) _
  have HZ : Hid ((w.alloc (.cells (evC k n kp (.slice A m c)) TE)).heap[w.heap.size]? = some (.cells (evC k n kp (.slice A m c)) TE)) := Lib.hid (heap_alloc_new w _)
  have HBS := Lib.hid (hB.below hbA)
  have HB := Lib.hid hbA
  have HM := Lib.hid hm
  have HXL := Lib.hid (itoaT_len n hn0 hn1)
  have HYL := Lib.hid (itoaT_len kp hk0 hk1)
  have HDN := Lib.hid (fun W => refDecimal n hn0 hn1 W)
  have HDK := Lib.hid (fun W => refDecimal kp hk0 hk1 W)
  have HEV : Hid (evT k n kp l = if k < 0 ∨ 9 ≤ k then ([], 17) else if ((rowF k.toNat).1 = false ∧ l ≠ []) ∨ ((rowF k.toNat).2.1 = false ∧ n ≠ 0) ∨ ((rowF k.toNat).2.2 = false ∧ kp ≠ 0) then ([], 10) else (wordsT k.toNat ++ (if (rowF k.toNat).1 = true then 32 :: hexD l else []) ++ (if (rowF k.toNat).2.1 = true then 32 :: itoaT n else []) ++ (if (rowF k.toNat).2.2 = true then 32 :: itoaT kp else []), 0)) := Lib.hid rfl
  obtain ⟨X, hX⟩ : ∃ X, X = itoaT n := ⟨_, rfl⟩
  obtain ⟨Y, hY⟩ : ∃ Y, Y = itoaT kp := ⟨_, rfl⟩
  rw [← hX] at HXL HDN HEV
  rw [← hY] at HYL HDK HEV
  clear hB hbA hm hn0 hn1 hk0 hk1 hX hY
  go_enter Tryd.func12, Tryd.ntmps12
  go_wp2_with (fail)
  generalize w.alloc (.cells (evC k n kp (.slice A m c)) TE) = w0 at *
  obtain ⟨g0, hg0⟩ : ∃ g, g = w.heap.size := ⟨_, rfl⟩
  rw [← hg0] at HZ ⊢
  clear hg0
  refine (HDN.out w0).mono ?_
  rintro e w1 ⟨rfl, hb1⟩
  have hlt := (Array.getElem?_eq_some_iff.1 HZ.out).1
  have HZ1 := Lib.hid ((hb1.block _ hlt).trans HZ.out)
  have HB1 := Lib.hid (HB.out.trans (hb1.mono HB.out.size))
  have HBS1 := Lib.hid (HBS.out.below hb1)
  clear hb1 hlt HZ HB HBS HDN
  have e2 : w1.cell? ⟨g0, 2, none⟩ = some (.int .i64 kp) := cell_of_row _ g0 2 _ _ _ HZ1.out
  go_wp2_with (fail)
  clear e2
  refine (HDK.out w1).mono ?_
  rintro e w2 ⟨rfl, hb2⟩
  have hlt := (Array.getElem?_eq_some_iff.1 HZ1.out).1
  have HZ2 := Lib.hid ((hb2.block _ hlt).trans HZ1.out)
  have HB2 := Lib.hid (HB1.out.trans (hb2.mono HB1.out.size))
  have HBS2 := Lib.hid (HBS1.out.below hb2)
  clear hb2 hlt HZ1 HB1 HBS1 HDK
  have e0 : w2.cell? ⟨g0, 0, none⟩ = some (.int .i64 k) := cell_of_row _ g0 0 _ _ _ HZ2.out
  have e1 : w2.cell? ⟨g0, 1, none⟩ = some (.int .i64 n) := cell_of_row _ g0 1 _ _ _ HZ2.out
  have e2 : w2.cell? ⟨g0, 2, none⟩ = some (.int .i64 kp) := cell_of_row _ g0 2 _ _ _ HZ2.out
  have e3 : w2.cell? ⟨g0, 3, none⟩ = some (.slice A m c) := cell_of_row _ g0 3 _ _ _ HZ2.out
  have hk := HKK.out
  clear HKK
  subst hk
  have HE : Hid (evT 6 n kp l = if (false = false ∧ l ≠ []) ∨ (true = false ∧ n ≠ 0) ∨ (false = false ∧ kp ≠ 0) then ([], 10) else ([102, 97, 105, 108, 115, 121, 110, 99] ++ (if false = true then 32 :: hexD l else []) ++ (if true = true then 32 :: X else []) ++ (if false = true then 32 :: Y else []), 0)) := Lib.hid (by rw [HEV.out, if_neg (by omega)]; rfl)
  clear HEV
  by_cases hc_m : m = 0
  case neg =>
    have HF : Hid (evT 6 n kp l = ([], 10)) := Lib.hid (by rw [HE.out, if_pos (.inl ⟨rfl, fun e => hc_m (by rw [← HLE.out, e]; rfl)⟩)])
    have g1 : (0 : Int) < (m : Int) := by omega
    have g2 : decide ((0 : Int) < (m : Int)) = true := by rw [decide_eq_true_iff]; omega
    go_wp2_with (fail)
    go_ret2
    exact ⟨by rw [HF.out]; rfl, HB2.out⟩
  have hm0 : m = 0 := hc_m
  subst hm0
  clear hc_m
  by_cases hc_kp : kp = 0
  case neg =>
    have HF : Hid (evT 6 n kp l = ([], 10)) := Lib.hid (by rw [HE.out, if_pos (.inr (.inr ⟨rfl, hc_kp⟩))])
    have g1 : ((kp : Int) == 0) = false := by rw [beq_eq_false_iff_ne]; exact hc_kp
    have g2 : ((kp : Int) != 0) = true := by rw [bne, g1]; rfl
    go_wp2_with (fail)
    go_ret2
    exact ⟨by rw [HF.out]; rfl, HB2.out⟩
  subst hc_kp
  have HF : Hid (evT 6 n 0 l = ([102, 97, 105, 108, 115, 121, 110, 99] ++ 32 :: X, 0)) := Lib.hid (by rw [HE.out, if_neg (by simp [List.eq_nil_of_length_eq_zero HLE.out])]; simp)
  clear HE
  have sx := HXL.out
  have sy := HYL.out
  have sl : ¬ (9223372036854775807 < 9 + X.length) := by omega
  go_wp2_with (fail)
  go_ret2
  refine ⟨?_, HB2.out⟩
  rw [HF.out]
  show Ending.returned (Value.tuple #[Value.string ((⟨#[102, 97, 105, 108, 115, 121, 110, 99, 32]⟩ : ByteArray) ++ txt X), .int .i64 0]) = _
  rw [show (⟨#[102, 97, 105, 108, 115, 121, 110, 99, 32]⟩ : ByteArray) = txt [102, 97, 105, 108, 115, 121, 110, 99, 32] from rfl, txt_appT]
  rfl

set_option maxHeartbeats 8000000 in
set_option maxRecDepth 100000 in
theorem refEvent_k7 (k n kp : Int) (A : Option Addr) (m c : Nat) (l : List UInt8) (w : World) (hB : Bs w A m c l) (hm : m ≤ 100000000) (hn0 : -9223372036854775808 ≤ n) (hn1 : n ≤ 9223372036854775807) (hk0 : -9223372036854775808 ≤ kp) (hk1 : kp ≤ 9223372036854775807) (hk : k = 7) :
    Calls Tryd.prog 12 #[evV k n kp (.slice A m c)] w (RetT (evT k n kp l) w) := by
  have HLE := Lib.hid hB.len
  have HKK := Lib.hid hk
  clear hk
  have hbA : Below w.heap.size w (w.alloc (.cells (evC k n kp (.slice A m c)) TE)) := (Below.refl _ w).alloc (Nat.le_refl _) _
  have HZ : Hid ((w.alloc (.cells (evC k n kp (.slice A m c)) TE)).heap[w.heap.size]? = some (.cells (evC k n kp (.slice A m c)) TE)) := Lib.hid (heap_alloc_new w _)
  have HBS := Lib.hid (hB.below hbA)
  have HB := Lib.hid hbA
  have HM := Lib.hid hm
  have HXL := Lib.hid (itoaT_len n hn0 hn1)
  have HYL := Lib.hid (itoaT_len kp hk0 hk1)
  have HDN := Lib.hid (fun W => refDecimal n hn0 hn1 W)
  have HDK := Lib.hid (fun W => refDecimal kp hk0 hk1 W)
  have HEV : Hid (evT k n kp l = if k < 0 ∨ 9 ≤ k then ([], 17) else if ((rowF k.toNat).1 = false ∧ l ≠ []) ∨ ((rowF k.toNat).2.1 = false ∧ n ≠ 0) ∨ ((rowF k.toNat).2.2 = false ∧ kp ≠ 0) then ([], 10) else (wordsT k.toNat ++ (if (rowF k.toNat).1 = true then 32 :: hexD l else []) ++ (if (rowF k.toNat).2.1 = true then 32 :: itoaT n else []) ++ (if (rowF k.toNat).2.2 = true then 32 :: itoaT kp else []), 0)) := Lib.hid rfl
  obtain ⟨X, hX⟩ : ∃ X, X = itoaT n := ⟨_, rfl⟩
  obtain ⟨Y, hY⟩ : ∃ Y, Y = itoaT kp := ⟨_, rfl⟩
  rw [← hX] at HXL HDN HEV
  rw [← hY] at HYL HDK HEV
  clear hB hbA hm hn0 hn1 hk0 hk1 hX hY
  go_enter Tryd.func12, Tryd.ntmps12
  go_wp2_with (fail)
  generalize w.alloc (.cells (evC k n kp (.slice A m c)) TE) = w0 at *
  obtain ⟨g0, hg0⟩ : ∃ g, g = w.heap.size := ⟨_, rfl⟩
  rw [← hg0] at HZ ⊢
  clear hg0
  refine (HDN.out w0).mono ?_
  rintro e w1 ⟨rfl, hb1⟩
  have hlt := (Array.getElem?_eq_some_iff.1 HZ.out).1
  have HZ1 := Lib.hid ((hb1.block _ hlt).trans HZ.out)
  have HB1 := Lib.hid (HB.out.trans (hb1.mono HB.out.size))
  have HBS1 := Lib.hid (HBS.out.below hb1)
  clear hb1 hlt HZ HB HBS HDN
  have e2 : w1.cell? ⟨g0, 2, none⟩ = some (.int .i64 kp) := cell_of_row _ g0 2 _ _ _ HZ1.out
  go_wp2_with (fail)
  clear e2
  refine (HDK.out w1).mono ?_
  rintro e w2 ⟨rfl, hb2⟩
  have hlt := (Array.getElem?_eq_some_iff.1 HZ1.out).1
  have HZ2 := Lib.hid ((hb2.block _ hlt).trans HZ1.out)
  have HB2 := Lib.hid (HB1.out.trans (hb2.mono HB1.out.size))
  have HBS2 := Lib.hid (HBS1.out.below hb2)
  clear hb2 hlt HZ1 HB1 HBS1 HDK
  have e0 : w2.cell? ⟨g0, 0, none⟩ = some (.int .i64 k) := cell_of_row _ g0 0 _ _ _ HZ2.out
  have e1 : w2.cell? ⟨g0, 1, none⟩ = some (.int .i64 n) := cell_of_row _ g0 1 _ _ _ HZ2.out
  have e2 : w2.cell? ⟨g0, 2, none⟩ = some (.int .i64 kp) := cell_of_row _ g0 2 _ _ _ HZ2.out
  have e3 : w2.cell? ⟨g0, 3, none⟩ = some (.slice A m c) := cell_of_row _ g0 3 _ _ _ HZ2.out
  have hk := HKK.out
  clear HKK
  subst hk
  have HE : Hid (evT 7 n kp l = if (false = false ∧ l ≠ []) ∨ (true = false ∧ n ≠ 0) ∨ (true = false ∧ kp ≠ 0) then ([], 10) else ([97, 114, 109] ++ (if false = true then 32 :: hexD l else []) ++ (if true = true then 32 :: X else []) ++ (if true = true then 32 :: Y else []), 0)) := Lib.hid (by rw [HEV.out, if_neg (by omega)]; rfl)
  clear HEV
  by_cases hc_m : m = 0
  case neg =>
    have HF : Hid (evT 7 n kp l = ([], 10)) := Lib.hid (by rw [HE.out, if_pos (.inl ⟨rfl, fun e => hc_m (by rw [← HLE.out, e]; rfl)⟩)])
    have g1 : (0 : Int) < (m : Int) := by omega
    have g2 : decide ((0 : Int) < (m : Int)) = true := by rw [decide_eq_true_iff]; omega
    go_wp2_with (fail)
    go_ret2
    exact ⟨by rw [HF.out]; rfl, HB2.out⟩
  have hm0 : m = 0 := hc_m
  subst hm0
  clear hc_m
  have HF : Hid (evT 7 n kp l = ([97, 114, 109] ++ 32 :: X ++ 32 :: Y, 0)) := Lib.hid (by rw [HE.out, if_neg (by simp [List.eq_nil_of_length_eq_zero HLE.out])]; simp)
  clear HE
  have sx := HXL.out
  have sy := HYL.out
  have sl : ¬ (9223372036854775807 < 4 + X.length) := by omega
  have sl2 : ¬ (9223372036854775807 < 4 + X.length + 1) := by omega
  have sl3 : ¬ (9223372036854775807 < 4 + X.length + 1 + Y.length) := by omega
  go_wp2_with (fail)
  go_ret2
  refine ⟨?_, HB2.out⟩
  rw [HF.out]
  show Ending.returned (Value.tuple #[Value.string ((⟨#[97, 114, 109, 32]⟩ : ByteArray) ++ txt X ++ (⟨#[32]⟩ : ByteArray) ++ txt Y), .int .i64 0]) = _
  rw [show (⟨#[97, 114, 109, 32]⟩ : ByteArray) = txt [97, 114, 109, 32] from rfl, show (⟨#[32]⟩ : ByteArray) = txt [32] from rfl, txt_appT, txt_appT, txt_appT]
  rw [show [97, 114, 109, 32] ++ X ++ [32] ++ Y = [97, 114, 109] ++ 32 :: X ++ 32 :: Y from by simp]

set_option maxHeartbeats 8000000 in
set_option maxRecDepth 100000 in
theorem refEvent_k8 (k n kp : Int) (A : Option Addr) (m c : Nat) (l : List UInt8) (w : World) (hB : Bs w A m c l) (hm : m ≤ 100000000) (hn0 : -9223372036854775808 ≤ n) (hn1 : n ≤ 9223372036854775807) (hk0 : -9223372036854775808 ≤ kp) (hk1 : kp ≤ 9223372036854775807) (hk : k = 8) :
    Calls Tryd.prog 12 #[evV k n kp (.slice A m c)] w (RetT (evT k n kp l) w) := by
  have HLE := Lib.hid hB.len
  have HKK := Lib.hid hk
  clear hk
  have hbA : Below w.heap.size w (w.alloc (.cells (evC k n kp (.slice A m c)) TE)) := (Below.refl _ w).alloc (Nat.le_refl _) _
  have HZ : Hid ((w.alloc (.cells (evC k n kp (.slice A m c)) TE)).heap[w.heap.size]? = some (.cells (evC k n kp (.slice A m c)) TE)) := Lib.hid (heap_alloc_new w _)
  have HBS := Lib.hid (hB.below hbA)
  have HB := Lib.hid hbA
  have HM := Lib.hid hm
  have HXL := Lib.hid (itoaT_len n hn0 hn1)
  have HYL := Lib.hid (itoaT_len kp hk0 hk1)
  have HDN := Lib.hid (fun W => refDecimal n hn0 hn1 W)
  have HDK := Lib.hid (fun W => refDecimal kp hk0 hk1 W)
  have HEV : Hid (evT k n kp l = if k < 0 ∨ 9 ≤ k then ([], 17) else if ((rowF k.toNat).1 = false ∧ l ≠ []) ∨ ((rowF k.toNat).2.1 = false ∧ n ≠ 0) ∨ ((rowF k.toNat).2.2 = false ∧ kp ≠ 0) then ([], 10) else (wordsT k.toNat ++ (if (rowF k.toNat).1 = true then 32 :: hexD l else []) ++ (if (rowF k.toNat).2.1 = true then 32 :: itoaT n else []) ++ (if (rowF k.toNat).2.2 = true then 32 :: itoaT kp else []), 0)) := Lib.hid rfl
  obtain ⟨X, hX⟩ : ∃ X, X = itoaT n := ⟨_, rfl⟩
  obtain ⟨Y, hY⟩ : ∃ Y, Y = itoaT kp := ⟨_, rfl⟩
  rw [← hX] at HXL HDN HEV
  rw [← hY] at HYL HDK HEV
  clear hB hbA hm hn0 hn1 hk0 hk1 hX hY
  go_enter Tryd.func12, Tryd.ntmps12
  go_wp2_with (fail)
  generalize w.alloc (.cells (evC k n kp (.slice A m c)) TE) = w0 at *
  obtain ⟨g0, hg0⟩ : ∃ g, g = w.heap.size := ⟨_, rfl⟩
  rw [← hg0] at HZ ⊢
  clear hg0
  refine (HDN.out w0).mono ?_
  rintro e w1 ⟨rfl, hb1⟩
  have hlt := (Array.getElem?_eq_some_iff.1 HZ.out).1
  have HZ1 := Lib.hid ((hb1.block _ hlt).trans HZ.out)
  have HB1 := Lib.hid (HB.out.trans (hb1.mono HB.out.size))
  have HBS1 := Lib.hid (HBS.out.below hb1)
  clear hb1 hlt HZ HB HBS HDN
  have e2 : w1.cell? ⟨g0, 2, none⟩ = some (.int .i64 kp) := cell_of_row _ g0 2 _ _ _ HZ1.out
  go_wp2_with (fail)
  clear e2
  refine (HDK.out w1).mono ?_
  rintro e w2 ⟨rfl, hb2⟩
  have hlt := (Array.getElem?_eq_some_iff.1 HZ1.out).1
  have HZ2 := Lib.hid ((hb2.block _ hlt).trans HZ1.out)
  have HB2 := Lib.hid (HB1.out.trans (hb2.mono HB1.out.size))
  have HBS2 := Lib.hid (HBS1.out.below hb2)
  clear hb2 hlt HZ1 HB1 HBS1 HDK
  have e0 : w2.cell? ⟨g0, 0, none⟩ = some (.int .i64 k) := cell_of_row _ g0 0 _ _ _ HZ2.out
  have e1 : w2.cell? ⟨g0, 1, none⟩ = some (.int .i64 n) := cell_of_row _ g0 1 _ _ _ HZ2.out
  have e2 : w2.cell? ⟨g0, 2, none⟩ = some (.int .i64 kp) := cell_of_row _ g0 2 _ _ _ HZ2.out
  have e3 : w2.cell? ⟨g0, 3, none⟩ = some (.slice A m c) := cell_of_row _ g0 3 _ _ _ HZ2.out
  have hk := HKK.out
  clear HKK
  subst hk
  have HE : Hid (evT 8 n kp l = if (false = false ∧ l ≠ []) ∨ (false = false ∧ n ≠ 0) ∨ (true = false ∧ kp ≠ 0) then ([], 10) else ([112, 111, 119, 101, 114] ++ (if false = true then 32 :: hexD l else []) ++ (if false = true then 32 :: X else []) ++ (if true = true then 32 :: Y else []), 0)) := Lib.hid (by rw [HEV.out, if_neg (by omega)]; rfl)
  clear HEV
  by_cases hc_m : m = 0
  case neg =>
    have HF : Hid (evT 8 n kp l = ([], 10)) := Lib.hid (by rw [HE.out, if_pos (.inl ⟨rfl, fun e => hc_m (by rw [← HLE.out, e]; rfl)⟩)])
    have g1 : (0 : Int) < (m : Int) := by omega
    have g2 : decide ((0 : Int) < (m : Int)) = true := by rw [decide_eq_true_iff]; omega
    go_wp2_with (fail)
    go_ret2
    exact ⟨by rw [HF.out]; rfl, HB2.out⟩
  have hm0 : m = 0 := hc_m
  subst hm0
  clear hc_m
  by_cases hc_n : n = 0
  case neg =>
    have HF : Hid (evT 8 n kp l = ([], 10)) := Lib.hid (by rw [HE.out, if_pos (.inr (.inl ⟨rfl, hc_n⟩))])
    have g1 : ((n : Int) == 0) = false := by rw [beq_eq_false_iff_ne]; exact hc_n
    have g2 : ((n : Int) != 0) = true := by rw [bne, g1]; rfl
    go_wp2_with (fail)
    go_ret2
    exact ⟨by rw [HF.out]; rfl, HB2.out⟩
  subst hc_n
  have HF : Hid (evT 8 0 kp l = ([112, 111, 119, 101, 114] ++ 32 :: Y, 0)) := Lib.hid (by rw [HE.out, if_neg (by simp [List.eq_nil_of_length_eq_zero HLE.out])]; simp)
  clear HE
  have sx := HXL.out
  have sy := HYL.out
  have sl : ¬ (9223372036854775807 < 6 + Y.length) := by omega
  go_wp2_with (fail)
  go_ret2
  refine ⟨?_, HB2.out⟩
  rw [HF.out]
  show Ending.returned (Value.tuple #[Value.string ((⟨#[112, 111, 119, 101, 114, 32]⟩ : ByteArray) ++ txt Y), .int .i64 0]) = _
  rw [show (⟨#[112, 111, 119, 101, 114, 32]⟩ : ByteArray) = txt [112, 111, 119, 101, 114, 32] from rfl, txt_appT]
  rfl

theorem refEvent (k n kp : Int) (A : Option Addr) (m c : Nat) (l : List UInt8) (w : World) (hB : Bs w A m c l) (hm : m ≤ 100000000) (hn0 : -9223372036854775808 ≤ n) (hn1 : n ≤ 9223372036854775807) (hk0 : -9223372036854775808 ≤ kp) (hk1 : kp ≤ 9223372036854775807) :
    Calls Tryd.prog 12 #[evV k n kp (.slice A m c)] w (RetT (evT k n kp l) w) := by
  by_cases hb : k < 0 ∨ 9 ≤ k
  · exact refEvent_bad k n kp A m c l w hB hm hn0 hn1 hk0 hk1 hb
  have hk : k = 0 ∨ k = 1 ∨ k = 2 ∨ k = 3 ∨ k = 4 ∨ k = 5 ∨ k = 6 ∨ k = 7 ∨ k = 8 := by omega
  rcases hk with h | h | h | h | h | h | h | h | h
  · exact refEvent_k0 k n kp A m c l w hB hm hn0 hn1 hk0 hk1 h
  · exact refEvent_k1 k n kp A m c l w hB hm hn0 hn1 hk0 hk1 h
  · exact refEvent_k2 k n kp A m c l w hB hm hn0 hn1 hk0 hk1 h
  · exact refEvent_k3 k n kp A m c l w hB hm hn0 hn1 hk0 hk1 h
  · exact refEvent_k4 k n kp A m c l w hB hm hn0 hn1 hk0 hk1 h
  · exact refEvent_k5 k n kp A m c l w hB hm hn0 hn1 hk0 hk1 h
  · exact refEvent_k6 k n kp A m c l w hB hm hn0 hn1 hk0 hk1 h
  · exact refEvent_k7 k n kp A m c l w hB hm hn0 hn1 hk0 hk1 h
  · exact refEvent_k8 k n kp A m c l w hB hm hn0 hn1 hk0 hk1 h
end Go.Proofs.YtnoppnnpennddaaDoor
