/- Layer 2: of no disk nothing is told, walked. -/
import Derived.Test.YtolomfdommnklaaDkAlive
import Derived.Test.YtolomfdommnklaaShelf
import Derived.OpenShut
namespace Go.Proofs.Ytolomfdommnklaa
open Go.RowKit Go.MapKept

set_option maxHeartbeats 1000000 in
set_option maxRecDepth 100000 in
theorem nilAppend (x : ByteArray) (A : Option Addr) (m c : Nat) (w : World) : Calls Try.prog 63 #[.pointer none, .string x, .slice A m c] w fun e w' => e = .returned (.tuple #[.int .i64 0, .int .i64 1]) ∧ Below w.heap.size w w' := by
  go_enter Try.func63, Try.ntmps63
  go_wp2_with (fail)
  go_ret2
  exact ⟨rfl, Below.refl _ w⟩
set_option maxHeartbeats 1000000 in
set_option maxRecDepth 100000 in
theorem nilRead (x : ByteArray) (w : World) : Calls Try.prog 28 #[.pointer none, .string x] w fun e w' => e = .returned (.tuple #[.slice none 0 0, .int .i64 1]) ∧ Below w.heap.size w w' := by
  go_enter Try.func28, Try.ntmps28
  go_wp2_with (fail)
  go_ret2
  exact ⟨rfl, Below.refl _ w⟩
set_option maxHeartbeats 1000000 in
set_option maxRecDepth 100000 in
theorem nilTruncate (x : ByteArray) (n : Int) (w : World) : Calls Try.prog 62 #[.pointer none, .string x, .int .i64 n] w fun e w' => e = .returned (.int .i64 1) ∧ Below w.heap.size w w' := by
  go_enter Try.func62, Try.ntmps62
  go_wp2_with (fail)
  go_ret
  exact ⟨rfl, ((Below.refl _ _).alloc (Nat.le_refl _) _).alloc (by simp) _⟩
set_option maxHeartbeats 1000000 in
set_option maxRecDepth 100000 in
theorem nilSync (x : ByteArray) (w : World) : Calls Try.prog 64 #[.pointer none, .string x] w fun e w' => e = .returned (.int .i64 1) ∧ Below w.heap.size w w' := by
  go_enter Try.func64, Try.ntmps64
  go_wp2_with (fail)
  go_ret
  exact ⟨rfl, Below.refl _ w⟩
set_option maxHeartbeats 1000000 in
set_option maxRecDepth 100000 in
theorem nilRename (x y : ByteArray) (w : World) : Calls Try.prog 44 #[.pointer none, .string x, .string y] w fun e w' => e = .returned (.int .i64 1) ∧ Below w.heap.size w w' := by
  go_enter Try.func44, Try.ntmps44
  go_wp2_with (fail)
  go_ret
  exact ⟨rfl, (((Below.refl _ _).alloc (Nat.le_refl _) _).alloc (by simp) _).alloc (by simp; omega) _⟩
set_option maxHeartbeats 1000000 in
set_option maxRecDepth 100000 in
theorem nilRemove (x : ByteArray) (w : World) : Calls Try.prog 61 #[.pointer none, .string x] w fun e w' => e = .returned (.int .i64 1) ∧ Below w.heap.size w w' := by
  go_enter Try.func61, Try.ntmps61
  go_wp2_with (fail)
  go_ret
  exact ⟨rfl, ((Below.refl _ _).alloc (Nat.le_refl _) _).alloc (by simp) _⟩
set_option maxHeartbeats 1000000 in
set_option maxRecDepth 100000 in
theorem nilSetRoom (n : Int) (w : World) : Calls Try.prog 23 #[.pointer none, .int .i64 n] w fun e w' => e = .returned (.int .i64 1) ∧ Below w.heap.size w w' := by
  go_enter Try.func23, Try.ntmps23
  go_wp2_with (fail)
  go_ret
  exact ⟨rfl, Below.refl _ w⟩
set_option maxHeartbeats 1000000 in
set_option maxRecDepth 100000 in
theorem nilFail (n : Int) (w : World) : Calls Try.prog 24 #[.pointer none, .int .i64 n] w fun e w' => e = .returned (.int .i64 1) ∧ Below w.heap.size w w' := by
  go_enter Try.func24, Try.ntmps24
  go_wp2_with (fail)
  go_ret
  exact ⟨rfl, Below.refl _ w⟩
set_option maxHeartbeats 1000000 in
set_option maxRecDepth 100000 in
theorem nilArm (n k : Int) (w : World) : Calls Try.prog 25 #[.pointer none, .int .i64 n, .int .i64 k] w fun e w' => e = .returned (.int .i64 1) ∧ Below w.heap.size w w' := by
  go_enter Try.func25, Try.ntmps25
  go_wp2_with (fail)
  go_ret
  exact ⟨rfl, Below.refl _ w⟩
set_option maxHeartbeats 1000000 in
set_option maxRecDepth 100000 in
theorem nilPower (n : Int) (w : World) : Calls Try.prog 21 #[.pointer none, .int .i64 n] w fun e w' => e = .returned (.int .i64 1) ∧ Below w.heap.size w w' := by
  go_enter Try.func21, Try.ntmps21
  go_wp2_with (fail)
  go_ret
  exact ⟨rfl, Below.refl _ w⟩
set_option maxHeartbeats 1000000 in
set_option maxRecDepth 100000 in
theorem nilNames  (w : World) : Calls Try.prog 26 #[.pointer none] w fun e w' => e = .returned (.slice none 0 0) ∧ Below w.heap.size w w' := by
  go_enter Try.func26, Try.ntmps26
  go_wp2_with (fail)
  go_ret
  exact ⟨rfl, Below.refl _ w⟩
set_option maxHeartbeats 1000000 in
set_option maxRecDepth 100000 in
theorem nilUsed  (w : World) : Calls Try.prog 34 #[.pointer none] w fun e w' => e = .returned (.int .i64 0) ∧ Below w.heap.size w w' := by
  go_enter Try.func34, Try.ntmps34
  go_wp2_with (fail)
  go_ret
  exact ⟨rfl, Below.refl _ w⟩
set_option maxHeartbeats 1000000 in
set_option maxRecDepth 100000 in
theorem nilOps  (w : World) : Calls Try.prog 27 #[.pointer none] w fun e w' => e = .returned (.int .i64 0) ∧ Below w.heap.size w w' := by
  go_enter Try.func27, Try.ntmps27
  go_wp2_with (fail)
  go_ret
  exact ⟨rfl, Below.refl _ w⟩

set_option maxHeartbeats 1000000 in
set_option maxRecDepth 100000 in
theorem dkNew_no (n : Int) (hn : ¬ (0 ≤ n ∧ n ≤ 1073741824)) (w : World) : Calls Try.prog 15 #[.int .i64 n] w fun e w' => e = .returned (.tuple #[.pointer none, .int .i64 3]) ∧ w = w' := by
  have HR : Hid ((decide (0 ≤ n) && decide (n ≤ 1073741824)) = false) := Lib.hid (by
    cases h : (decide (0 ≤ n) && decide (n ≤ 1073741824))
    · rfl
    · simp at h; exact absurd h hn)
  clear hn
  go_enter Try.func15, Try.ntmps15
  go_wp2_with (fail)
  refine (dkRoomOk n w).mono ?_
  rintro e w2 ⟨rfl, rfl⟩
  rw [HR.out]
  go_wp2_with (fail)
  go_ret2
  exact ⟨rfl, rfl⟩
set_option maxHeartbeats 1000000 in
set_option maxRecDepth 100000 in
theorem dkNames_empty {w : World} {B D M : Nat} {d : Dk} (h : DkAt w B D M d []) : Calls Try.prog 26 #[pD D] w fun e w' => e = .returned (.slice none 0 0) ∧ Below w.heap.size w w' := by
  have c0' : w.cell? ⟨D, 0, none⟩ = some (.map (some M)) := h.cell 0
  have H := Lib.hid h
  have tok1 : Hid True := Lib.hid trivial
  clear h
  go_enter Try.func26, Try.ntmps26
  go_wp2_with (at_range; have _t := tok1; refine wpList_rangeL rfl (.tmp 10) 78 rfl Try.underlying78 M (mapL []) rfl H.out.map ?_; intro w2 hr2 hb2 hz2; have HR2 := Lib.hid hr2; have HB2 := Lib.hid hb2; clear tok1 hr2 hb2 hz2 _t)
  go_frame
  go_loopw [4, 3] (fun _ l wr => l = .slice none 0 0 ∧ wr = w2) (fun _ _ wr => rngLeft M w.heap.size wr)
  case atStart => exact ⟨rfl, rfl⟩
  case round =>
    obtain ⟨rfl, rfl⟩ := hrel
    go_wp2_with (at_next; refine wpList_nextL0 rfl (.tmp 11) rfl M w.heap.size _ rfl HR2.out ?_)
    refine (Try.slices_Sort_string_none none 0 _).mono ?_
    rintro e w3 ⟨rfl, rfl⟩
    go_wp2_with (fail)
    go_ret
    exact ⟨rfl, HB2.out⟩

end Go.Proofs.Ytolomfdommnklaa
