/- Layer 16: New. -/
import Derived.Test.YtcdkcaahmjchjaaSender9
namespace Go.Proofs.Ytcdkcaahmjchjaa
open Go.RowKit

def newS (most base cap timeout : Int) (F : Nat) (at_ : Int) : Snd := { most := most, base := base, cap := cap, timeout := timeout, F := F, pos := at_, known := at_, tries := 0, kind := 0, left := 0 }
/-- a sender that is made -/
def NewRet (s : Snd) (w : World) (e : Ending) (w' : World) : Prop := ∃ g, e = .returned (.tuple #[.pointer (some ⟨g, 0, none⟩), .int .i64 0]) ∧ IsSnd w' g s ∧ w.heap.size ≤ g ∧ Below w.heap.size w w'

set_option maxRecDepth 100000 in
set_option maxHeartbeats 2000000 in
theorem senderNew (most base cap timeout : Int) (F : Nat) (at_ : Int) (w : World) (b0 : 0 ≤ base) (b1 : base ≤ 1099511627776) (c0 : 0 ≤ cap) (c1 : cap ≤ 1099511627776) (t0 : 1 ≤ timeout) (t1 : timeout ≤ 1099511627776) (a0 : 0 ≤ at_) (a1 : at_ ≤ 1099511627776) :
    Calls Try.prog 15 #[cfg most base cap timeout F, .int .i64 at_] w (NewRet (newS most base cap timeout F at_) w) := by
  have CN := Lib.hid (fun W => delayNext_yes most base cap timeout 0 F W b0 b1 c0 c1 (by omega) (by omega))
  have d1 : decide (timeout < 1) = false := by simp; omega
  have d2 : decide ((1099511627776 : Int) < timeout) = false := by simp; omega
  have d3 : decide (at_ < 0) = false := by simp; omega
  have d4 : decide ((1099511627776 : Int) < at_) = false := by simp; omega
  go_enter Try.func15, Try.ntmps15
  go_wp2_with (fail)
  refine (CN.out _).mono ?_
  rintro e w2 ⟨rfl, hb2⟩
  have HC : ∀ j v, (#[Value.int .i64 most, .int .i64 base, .int .i64 cap, .int .i64 timeout, .float .f64 F] : Array Value)[j]? = some v → w2.cell? ⟨w.heap.size, j, none⟩ = some v := by
    intro j v hj
    rw [hb2.cell (p := ⟨w.heap.size, j, none⟩) (by simp)]
    rw [cell_of_row _ w.heap.size j _ _ _ (heap_alloc_new w _)]
    exact hj
  have z0 := HC 0 _ rfl
  have z1 := HC 1 _ rfl
  have z2 := HC 2 _ rfl
  have z3 := HC 3 _ rfl
  have z4 := HC 4 _ rfl
  have HB := Lib.hid (((Below.refl _ w).alloc (Nat.le_refl _) (.cells #[Value.int .i64 most, .int .i64 base, .int .i64 cap, .int .i64 timeout, .float .f64 F] 27)).trans (hb2.mono (by simp)))
  clear HC hb2
  go_wp2
  go_ret2
  exact ⟨w2.heap.size, rfl, heap_alloc_new w2 _, HB.out.size, HB.out.alloc HB.out.size _⟩

def NewNo (w : World) (e : Ending) (w' : World) : Prop := e = .returned (.tuple #[.pointer none, .int .i64 3]) ∧ Below w.heap.size w w'

set_option maxRecDepth 100000 in
set_option maxHeartbeats 2000000 in
theorem senderNew_no1 (most base cap timeout : Int) (F : Nat) (at_ : Int) (w : World) (h : (base < 0 ∨ 1099511627776 < base) ∨ (cap < 0 ∨ 1099511627776 < cap)) :
    Calls Try.prog 15 #[cfg most base cap timeout F, .int .i64 at_] w (NewNo w) := by
  have CN := Lib.hid (fun W => delayNext_no most base cap timeout 0 F W (h.imp id .inl))
  clear h
  go_enter Try.func15, Try.ntmps15
  go_wp2_with (fail)
  refine (CN.out _).mono ?_
  rintro e w2 ⟨rfl, hb2⟩
  have HB := Lib.hid (((Below.refl _ w).alloc (Nat.le_refl _) (.cells #[Value.int .i64 most, .int .i64 base, .int .i64 cap, .int .i64 timeout, .float .f64 F] 27)).trans (hb2.mono (by simp)))
  clear hb2
  go_wp2
  go_ret2
  exact ⟨rfl, HB.out⟩

set_option maxRecDepth 100000 in
set_option maxHeartbeats 4000000 in
theorem senderNew_no2 (most base cap timeout : Int) (F : Nat) (at_ : Int) (w : World) (b0 : 0 ≤ base) (b1 : base ≤ 1099511627776) (c0 : 0 ≤ cap) (c1 : cap ≤ 1099511627776) (h : timeout < 1 ∨ 1099511627776 < timeout ∨ at_ < 0 ∨ 1099511627776 < at_) :
    Calls Try.prog 15 #[cfg most base cap timeout F, .int .i64 at_] w (NewNo w) := by
  have CN := Lib.hid (fun W => delayNext_yes most base cap timeout 0 F W b0 b1 c0 c1 (by omega) (by omega))
  have HH := Lib.hid h
  clear h
  go_enter Try.func15, Try.ntmps15
  go_wp2_with (fail)
  refine (CN.out _).mono ?_
  rintro e w2 ⟨rfl, hb2⟩
  have HC : ∀ j v, (#[Value.int .i64 most, .int .i64 base, .int .i64 cap, .int .i64 timeout, .float .f64 F] : Array Value)[j]? = some v → w2.cell? ⟨w.heap.size, j, none⟩ = some v := by
    intro j v hj
    rw [hb2.cell (p := ⟨w.heap.size, j, none⟩) (by simp)]
    rw [cell_of_row _ w.heap.size j _ _ _ (heap_alloc_new w _)]
    exact hj
  have z3 := HC 3 _ rfl
  have HB := Lib.hid (((Below.refl _ w).alloc (Nat.le_refl _) (.cells #[Value.int .i64 most, .int .i64 base, .int .i64 cap, .int .i64 timeout, .float .f64 F] 27)).trans (hb2.mono (by simp)))
  clear HC hb2
  by_cases t0 : timeout < 1
  · have d1 : decide (timeout < 1) = true := by simpa using t0
    go_wp2
    go_ret2
    exact ⟨rfl, HB.out⟩
  · have d1 : decide (timeout < 1) = false := by simp; omega
    by_cases t1 : 1099511627776 < timeout
    · have d2 : decide ((1099511627776 : Int) < timeout) = true := by simpa using t1
      go_wp2
      go_ret2
      exact ⟨rfl, HB.out⟩
    · have d2 : decide ((1099511627776 : Int) < timeout) = false := by simp; omega
      by_cases t2 : at_ < 0
      · have d3 : decide (at_ < 0) = true := by simpa using t2
        go_wp2
        go_ret2
        exact ⟨rfl, HB.out⟩
      · have d3 : decide (at_ < 0) = false := by simp; omega
        have t3 : 1099511627776 < at_ := by
          rcases HH.out with h | h | h | h
          · exact absurd h t0
          · exact absurd h t1
          · exact absurd h t2
          · exact h
        have d4 : decide ((1099511627776 : Int) < at_) = true := by simpa using t3
        go_wp2
        go_ret2
        exact ⟨rfl, HB.out⟩
end Go.Proofs.Ytcdkcaahmjchjaa
