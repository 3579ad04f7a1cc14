/- Layer 2: of no disk nothing is told, walked. -/
import Derived.Test.YtecmadodpkfnnabDkAlive
import Derived.Test.YtecmadodpkfnnabShelf
import Derived.OpenShut
namespace Go.Proofs.Ytecmadodpkfnnab
open Go.RowKit Go.MapKept

set_option maxHeartbeats 1000000 in
set_option maxRecDepth 100000 in
theorem nilAppend (x : ByteArray) (A : Option Addr) (m c : Nat) (w : World) : Calls Try.prog 9 #[.pointer none, .string x, .slice A m c] w fun e w' => e = .returned (.tuple #[.int .i64 0, .int .i64 1]) ∧ Below w.heap.size w w' := by
  go_enter Try.func9, Try.ntmps9
  go_wp2_with (fail)
  go_ret2
  exact ⟨rfl, Below.refl _ w⟩
set_option maxHeartbeats 1000000 in
set_option maxRecDepth 100000 in
theorem nilRead (x : ByteArray) (w : World) : Calls Try.prog 10 #[.pointer none, .string x] w fun e w' => e = .returned (.tuple #[.slice none 0 0, .int .i64 1]) ∧ Below w.heap.size w w' := by
  go_enter Try.func10, Try.ntmps10
  go_wp2_with (fail)
  go_ret2
  exact ⟨rfl, Below.refl _ w⟩
set_option maxHeartbeats 1000000 in
set_option maxRecDepth 100000 in
theorem nilTruncate (x : ByteArray) (n : Int) (w : World) : Calls Try.prog 11 #[.pointer none, .string x, .int .i64 n] w fun e w' => e = .returned (.int .i64 1) ∧ Below w.heap.size w w' := by
  go_enter Try.func11, Try.ntmps11
  go_wp2_with (fail)
  go_ret
  exact ⟨rfl, ((Below.refl _ _).alloc (Nat.le_refl _) _).alloc (by simp) _⟩
set_option maxHeartbeats 1000000 in
set_option maxRecDepth 100000 in
theorem nilSync (x : ByteArray) (w : World) : Calls Try.prog 12 #[.pointer none, .string x] w fun e w' => e = .returned (.int .i64 1) ∧ Below w.heap.size w w' := by
  go_enter Try.func12, Try.ntmps12
  go_wp2_with (fail)
  go_ret
  exact ⟨rfl, Below.refl _ w⟩
set_option maxHeartbeats 1000000 in
set_option maxRecDepth 100000 in
theorem nilRename (x y : ByteArray) (w : World) : Calls Try.prog 13 #[.pointer none, .string x, .string y] w fun e w' => e = .returned (.int .i64 1) ∧ Below w.heap.size w w' := by
  go_enter Try.func13, Try.ntmps13
  go_wp2_with (fail)
  go_ret
  exact ⟨rfl, (((Below.refl _ _).alloc (Nat.le_refl _) _).alloc (by simp) _).alloc (by simp; omega) _⟩
set_option maxHeartbeats 1000000 in
set_option maxRecDepth 100000 in
theorem nilRemove (x : ByteArray) (w : World) : Calls Try.prog 14 #[.pointer none, .string x] w fun e w' => e = .returned (.int .i64 1) ∧ Below w.heap.size w w' := by
  go_enter Try.func14, Try.ntmps14
  go_wp2_with (fail)
  go_ret
  exact ⟨rfl, ((Below.refl _ _).alloc (Nat.le_refl _) _).alloc (by simp) _⟩
set_option maxHeartbeats 1000000 in
set_option maxRecDepth 100000 in
theorem nilSetRoom (n : Int) (w : World) : Calls Try.prog 15 #[.pointer none, .int .i64 n] w fun e w' => e = .returned (.int .i64 1) ∧ Below w.heap.size w w' := by
  go_enter Try.func15, Try.ntmps15
  go_wp2_with (fail)
  go_ret
  exact ⟨rfl, Below.refl _ w⟩
set_option maxHeartbeats 1000000 in
set_option maxRecDepth 100000 in
theorem nilFail (n : Int) (w : World) : Calls Try.prog 16 #[.pointer none, .int .i64 n] w fun e w' => e = .returned (.int .i64 1) ∧ Below w.heap.size w w' := by
  go_enter Try.func16, Try.ntmps16
  go_wp2_with (fail)
  go_ret
  exact ⟨rfl, Below.refl _ w⟩
set_option maxHeartbeats 1000000 in
set_option maxRecDepth 100000 in
theorem nilArm (n k : Int) (w : World) : Calls Try.prog 17 #[.pointer none, .int .i64 n, .int .i64 k] w fun e w' => e = .returned (.int .i64 1) ∧ Below w.heap.size w w' := by
  go_enter Try.func17, Try.ntmps17
  go_wp2_with (fail)
  go_ret
  exact ⟨rfl, Below.refl _ w⟩
set_option maxHeartbeats 1000000 in
set_option maxRecDepth 100000 in
theorem nilPower (n : Int) (w : World) : Calls Try.prog 18 #[.pointer none, .int .i64 n] w fun e w' => e = .returned (.int .i64 1) ∧ Below w.heap.size w w' := by
  go_enter Try.func18, Try.ntmps18
  go_wp2_with (fail)
  go_ret
  exact ⟨rfl, Below.refl _ w⟩
set_option maxHeartbeats 1000000 in
set_option maxRecDepth 100000 in
theorem nilSynced (x : ByteArray) (w : World) : Calls Try.prog 19 #[.pointer none, .string x] w fun e w' => e = .returned (.int .i64 0) ∧ Below w.heap.size w w' := by
  go_enter Try.func19, Try.ntmps19
  go_wp2_with (fail)
  go_ret
  exact ⟨rfl, Below.refl _ w⟩
set_option maxHeartbeats 1000000 in
set_option maxRecDepth 100000 in
theorem nilNames  (w : World) : Calls Try.prog 20 #[.pointer none] w fun e w' => e = .returned (.slice none 0 0) ∧ Below w.heap.size w w' := by
  go_enter Try.func20, Try.ntmps20
  go_wp2_with (fail)
  go_ret
  exact ⟨rfl, Below.refl _ w⟩
set_option maxHeartbeats 1000000 in
set_option maxRecDepth 100000 in
theorem nilUsed  (w : World) : Calls Try.prog 21 #[.pointer none] w fun e w' => e = .returned (.int .i64 0) ∧ Below w.heap.size w w' := by
  go_enter Try.func21, Try.ntmps21
  go_wp2_with (fail)
  go_ret
  exact ⟨rfl, Below.refl _ w⟩
set_option maxHeartbeats 1000000 in
set_option maxRecDepth 100000 in
theorem nilRoom  (w : World) : Calls Try.prog 22 #[.pointer none] w fun e w' => e = .returned (.int .i64 0) ∧ Below w.heap.size w w' := by
  go_enter Try.func22, Try.ntmps22
  go_wp2_with (fail)
  go_ret
  exact ⟨rfl, Below.refl _ w⟩
set_option maxHeartbeats 1000000 in
set_option maxRecDepth 100000 in
theorem nilOps  (w : World) : Calls Try.prog 23 #[.pointer none] w fun e w' => e = .returned (.int .i64 0) ∧ Below w.heap.size w w' := by
  go_enter Try.func23, Try.ntmps23
  go_wp2_with (fail)
  go_ret
  exact ⟨rfl, Below.refl _ w⟩

set_option maxHeartbeats 1000000 in
set_option maxRecDepth 100000 in
theorem dkNew_no (n : Int) (hn : ¬ (0 ≤ n ∧ n ≤ 1073741824)) (w : World) : Calls Try.prog 24 #[.int .i64 n] w fun e w' => e = .returned (.tuple #[.pointer none, .int .i64 3]) ∧ w = w' := by
  have HR : Hid ((decide (0 ≤ n) && decide (n ≤ 1073741824)) = false) := Lib.hid (by
    cases h : (decide (0 ≤ n) && decide (n ≤ 1073741824))
    · rfl
    · simp at h; exact absurd h hn)
  clear hn
  go_enter Try.func24, Try.ntmps24
  go_wp2_with (fail)
  refine (dkRoomOk n w).mono ?_
  rintro e w2 ⟨rfl, rfl⟩
  rw [HR.out]
  go_wp2_with (fail)
  go_ret2
  exact ⟨rfl, rfl⟩
set_option maxHeartbeats 1000000 in
set_option maxRecDepth 100000 in
theorem dkNames_empty {w : World} {B D M : Nat} {d : Dk} (h : DkAt w B D M d []) : Calls Try.prog 20 #[pD D] w fun e w' => e = .returned (.slice none 0 0) ∧ Below w.heap.size w w' := by
  have c0' : w.cell? ⟨D, 0, none⟩ = some (.map (some M)) := h.cell 0
  have H := Lib.hid h
  have tok1 : Hid True := Lib.hid trivial
  clear h
  go_enter Try.func20, Try.ntmps20
  go_wp2_with (at_range; have _t := tok1; refine wpList_rangeL rfl (.tmp 10) 58 rfl Try.underlying58 M (mapL []) rfl H.out.map ?_; intro w2 hr2 hb2 hz2; have HR2 := Lib.hid hr2; have HB2 := Lib.hid hb2; clear tok1 hr2 hb2 hz2 _t)
  go_frame
  go_loopw [4, 3] (fun _ l wr => l = .slice none 0 0 ∧ wr = w2) (fun _ _ wr => rngLeft M w.heap.size wr)
  case atStart => exact ⟨rfl, rfl⟩
  case round =>
    obtain ⟨rfl, rfl⟩ := hrel
    go_wp2_with (at_next; refine wpList_nextL0 rfl (.tmp 11) rfl M w.heap.size _ rfl HR2.out ?_)
    refine (Try.slices_Sort_string_none none 0 _).mono ?_
    rintro e w3 ⟨rfl, rfl⟩
    go_wp2_with (fail)
    go_ret
    exact ⟨rfl, HB2.out⟩

set_option maxHeartbeats 4000000 in
set_option maxRecDepth 100000 in
theorem diskNone_walk (n keep : Int) (x : ByteArray) (w : World) (_hn : (Lit.int .i64 n).wf = true) (_hk : (Lit.int .i64 keep).wf = true) (_hx : x.size ≤ maxLen) : Calls Try.prog 3 #[.int .i64 n, .int .i64 keep, .string x] w (True_ w) := by
  have hb0 : Below w.heap.size w (w.alloc (.cells #[.int .u8 1] 5)) := (Below.refl _ _).alloc (Nat.le_refl _) _
  have HB0 := Lib.hid hb0
  clear hb0
  go_enter Try.func3, Try.ntmps3
  go_wp2_with (fail)
  refine (nilAppend x _ 1 1 _).mono ?_
  rintro e w1 ⟨rfl, hb⟩
  have HB1 : Hid (Below w.heap.size w w1) := Lib.hid (HB0.out.trans (hb.mono HB0.out.size))
  clear hb
  go_wp2_with (fail)
  refine (nilRead x _).mono ?_
  rintro e w2 ⟨rfl, hb⟩
  have HB2 : Hid (Below w.heap.size w w2) := Lib.hid (HB1.out.trans (hb.mono HB1.out.size))
  clear hb
  go_wp2_with (fail)
  refine (nilTruncate x n _).mono ?_
  rintro e w3 ⟨rfl, hb⟩
  have HB3 : Hid (Below w.heap.size w w3) := Lib.hid (HB2.out.trans (hb.mono HB2.out.size))
  clear hb
  go_wp2_with (fail)
  refine (nilSync x _).mono ?_
  rintro e w4 ⟨rfl, hb⟩
  have HB4 : Hid (Below w.heap.size w w4) := Lib.hid (HB3.out.trans (hb.mono HB3.out.size))
  clear hb
  go_wp2_with (fail)
  refine (nilRename x x _).mono ?_
  rintro e w5 ⟨rfl, hb⟩
  have HB5 : Hid (Below w.heap.size w w5) := Lib.hid (HB4.out.trans (hb.mono HB4.out.size))
  clear hb
  go_wp2_with (fail)
  refine (nilRemove x _).mono ?_
  rintro e w6 ⟨rfl, hb⟩
  have HB6 : Hid (Below w.heap.size w w6) := Lib.hid (HB5.out.trans (hb.mono HB5.out.size))
  clear hb
  go_wp2_with (fail)
  refine (nilSetRoom n _).mono ?_
  rintro e w7 ⟨rfl, hb⟩
  have HB7 : Hid (Below w.heap.size w w7) := Lib.hid (HB6.out.trans (hb.mono HB6.out.size))
  clear hb
  go_wp2_with (fail)
  refine (nilFail n _).mono ?_
  rintro e w8 ⟨rfl, hb⟩
  have HB8 : Hid (Below w.heap.size w w8) := Lib.hid (HB7.out.trans (hb.mono HB7.out.size))
  clear hb
  go_wp2_with (fail)
  refine (nilArm n keep _).mono ?_
  rintro e w9 ⟨rfl, hb⟩
  have HB9 : Hid (Below w.heap.size w w9) := Lib.hid (HB8.out.trans (hb.mono HB8.out.size))
  clear hb
  go_wp2_with (fail)
  refine (nilPower keep _).mono ?_
  rintro e w10 ⟨rfl, hb⟩
  have HB10 : Hid (Below w.heap.size w w10) := Lib.hid (HB9.out.trans (hb.mono HB9.out.size))
  clear hb
  go_wp2_with (fail)
  refine (nilSynced x _).mono ?_
  rintro e w11 ⟨rfl, hb⟩
  have HB11 : Hid (Below w.heap.size w w11) := Lib.hid (HB10.out.trans (hb.mono HB10.out.size))
  clear hb
  go_wp2_with (fail)
  refine (nilNames  _).mono ?_
  rintro e w12 ⟨rfl, hb⟩
  have HB12 : Hid (Below w.heap.size w w12) := Lib.hid (HB11.out.trans (hb.mono HB11.out.size))
  clear hb
  go_wp2_with (fail)
  refine (nilUsed  _).mono ?_
  rintro e w13 ⟨rfl, hb⟩
  have HB13 : Hid (Below w.heap.size w w13) := Lib.hid (HB12.out.trans (hb.mono HB12.out.size))
  clear hb
  go_wp2_with (fail)
  refine (nilRoom  _).mono ?_
  rintro e w14 ⟨rfl, hb⟩
  have HB14 : Hid (Below w.heap.size w w14) := Lib.hid (HB13.out.trans (hb.mono HB13.out.size))
  clear hb
  go_wp2_with (fail)
  refine (nilOps  _).mono ?_
  rintro e w15 ⟨rfl, hb⟩
  have HB15 : Hid (Below w.heap.size w w15) := Lib.hid (HB14.out.trans (hb.mono HB14.out.size))
  clear hb
  go_wp2_with (fail)
  by_cases hr : 0 ≤ n ∧ n ≤ 1073741824
  · have HR := Lib.hid hr
    have d1 : decide (n < 0) = false := by rw [decide_eq_false_iff_not]; omega
    have d2 : decide ((1073741824 : Int) < n) = false := by rw [decide_eq_false_iff_not]; omega
    clear hr
    refine (dkNew n HR.out w15).mono ?_
    rintro e w16 ⟨D, M, rfl, h16, hb16⟩
    have H16 := Lib.hid h16
    have HB16 : Hid (Below w.heap.size w w16) := Lib.hid (HB15.out.trans (hb16.mono HB15.out.size))
    clear h16 hb16
    go_wp2_with (fail)
    refine (dkAlive w16).mono ?_
    rintro e w17 ⟨rfl, hb17⟩
    have H17 := Lib.hid (H16.out.below hb17)
    have HB17 : Hid (Below w.heap.size w w17) := Lib.hid (HB16.out.trans (hb17.mono HB16.out.size))
    clear hb17
    go_wp2_with (fail)
    refine (dkRoom H17.out).mono ?_
    rintro e w18 ⟨rfl, rfl⟩
    go_wp2_with (fail)
    refine (dkNames_empty H17.out).mono ?_
    rintro e w19 ⟨rfl, hb19⟩
    have HB19 : Hid (Below w.heap.size w w19) := Lib.hid (HB17.out.trans (hb19.mono HB17.out.size))
    clear hb19
    go_wp2_with (fail)
    go_ret
    exact ⟨rfl, HB19.out⟩
  · refine (dkNew_no n hr w15).mono ?_
    rintro e w16 ⟨rfl, rfl⟩
    by_cases hneg : n < 0
    · have d1 : decide (n < 0) = true := by simpa using hneg
      clear hr hneg
      go_wp2_with (fail)
      refine (dkAlive _).mono ?_
      rintro e w17 ⟨rfl, hb17⟩
      have HB17 : Hid (Below w.heap.size w w17) := Lib.hid (HB15.out.trans (hb17.mono HB15.out.size))
      clear hb17
      go_wp2_with (fail)
      go_ret
      exact ⟨rfl, HB17.out⟩
    · have d1 : decide (n < 0) = false := by simpa using hneg
      have d2 : decide ((1073741824 : Int) < n) = true := by rw [decide_eq_true_iff]; omega
      clear hr hneg
      go_wp2_with (fail)
      refine (dkAlive _).mono ?_
      rintro e w17 ⟨rfl, hb17⟩
      have HB17 : Hid (Below w.heap.size w w17) := Lib.hid (HB15.out.trans (hb17.mono HB15.out.size))
      clear hb17
      go_wp2_with (fail)
      go_ret
      exact ⟨rfl, HB17.out⟩
end Go.Proofs.Ytecmadodpkfnnab
