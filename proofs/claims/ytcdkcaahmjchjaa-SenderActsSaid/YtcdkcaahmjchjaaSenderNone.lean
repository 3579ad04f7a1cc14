/- The law SenderNone, walked. -/
import Derived.Test.YtcdkcaahmjchjaaSenderNil
import Derived.Test.YtcdkcaahmjchjaaSenderFails
import Derived.Test.YtcdkcaahmjchjaaDelay2
namespace Go.Proofs.Ytcdkcaahmjchjaa
open Go.RowKit
set_option linter.unusedVariables false

/-- the document's sender -/
structure Ref where
  base : Int
  cap : Int
  timeout : Int
  F : Nat
  pos : Int
  known : Int
  flying : Bool
  rests : Bool
  left : Int
  tries : Int
abbrev Ref.cells (s : Ref) : Array Value := #[.int .i64 0, .int .i64 s.base, .int .i64 s.cap, .int .i64 s.timeout, .float .f64 s.F, .int .i64 s.pos, .int .i64 s.known, .bool s.flying, .bool s.rests, .int .i64 s.left, .int .i64 s.tries]
def IsRef (w : World) (g : Nat) (s : Ref) : Prop := w.heap[g]? = some (.cells s.cells 46)
def RefNew (s : Ref) (w : World) (e : Ending) (w' : World) : Prop := ∃ g, e = .returned (.tuple #[.pointer (some ⟨g, 0, none⟩), .bool true]) ∧ IsRef w' g s ∧ w.heap.size ≤ g ∧ Below w.heap.size w w'
def RefNo (w : World) (e : Ending) (w' : World) : Prop := e = .returned (.tuple #[.pointer none, .bool false]) ∧ Below w.heap.size w w'

set_option maxRecDepth 100000 in
set_option maxHeartbeats 2000000 in
theorem refNew (base cap timeout : Int) (F : Nat) (at_ : Int) (w : World) (b0 : 0 ≤ base) (b1 : base ≤ 1099511627776) (c0 : 0 ≤ cap) (c1 : cap ≤ 1099511627776) (t0 : 1 ≤ timeout) (t1 : timeout ≤ 1099511627776) (a0 : 0 ≤ at_) (a1 : at_ ≤ 1099511627776) :
    Calls Try.prog 16 #[cfg 0 base cap timeout F, .int .i64 at_] w (RefNew ⟨base, cap, timeout, F, at_, at_, false, false, 0, 0⟩ w) := by
  have CN := Lib.hid (fun W => refNext_yes 0 base cap timeout 0 F W b0 b1 c0 c1 (by omega) (by omega))
  have d1 : decide (timeout < 1) = false := by simp; omega
  have d2 : decide ((1099511627776 : Int) < timeout) = false := by simp; omega
  have d3 : decide (at_ < 0) = false := by simp; omega
  have d4 : decide ((1099511627776 : Int) < at_) = false := by simp; omega
  go_enter Try.func16, Try.ntmps16
  go_wp2_with (fail)
  refine (CN.out _).mono ?_
  rintro e w2 ⟨rfl, hb2⟩
  have HC : ∀ j v, (#[Value.int .i64 0, .int .i64 base, .int .i64 cap, .int .i64 timeout, .float .f64 F] : Array Value)[j]? = some v → w2.cell? ⟨w.heap.size, j, none⟩ = some v := by
    intro j v hj
    rw [hb2.cell (p := ⟨w.heap.size, j, none⟩) (by simp)]
    rw [cell_of_row _ w.heap.size j _ _ _ (heap_alloc_new w _)]
    exact hj
  have z0 := HC 0 _ rfl
  have z1 := HC 1 _ rfl
  have z2 := HC 2 _ rfl
  have z3 := HC 3 _ rfl
  have z4 := HC 4 _ rfl
  have HB := Lib.hid (((Below.refl _ w).alloc (Nat.le_refl _) (.cells #[Value.int .i64 0, .int .i64 base, .int .i64 cap, .int .i64 timeout, .float .f64 F] 27)).trans (hb2.mono (by simp)))
  clear HC hb2
  go_wp2
  go_ret2
  exact ⟨w2.heap.size, rfl, heap_alloc_new w2 _, HB.out.size, HB.out.alloc HB.out.size _⟩

set_option maxRecDepth 100000 in
set_option maxHeartbeats 2000000 in
theorem refNew_no1 (base cap timeout : Int) (F : Nat) (at_ : Int) (w : World) (h : (base < 0 ∨ 1099511627776 < base) ∨ (cap < 0 ∨ 1099511627776 < cap)) :
    Calls Try.prog 16 #[cfg 0 base cap timeout F, .int .i64 at_] w (RefNo w) := by
  have CN := Lib.hid (fun W => refNext_no 0 base cap timeout 0 F W (h.imp id .inl))
  clear h
  go_enter Try.func16, Try.ntmps16
  go_wp2_with (fail)
  refine (CN.out _).mono ?_
  rintro e w2 ⟨rfl, hb2⟩
  have HB := Lib.hid (((Below.refl _ w).alloc (Nat.le_refl _) (.cells #[Value.int .i64 0, .int .i64 base, .int .i64 cap, .int .i64 timeout, .float .f64 F] 27)).trans (hb2.mono (by simp)))
  clear hb2
  go_wp2
  go_ret2
  exact ⟨rfl, HB.out⟩

set_option maxRecDepth 100000 in
set_option maxHeartbeats 4000000 in
theorem refNew_no2 (base cap timeout : Int) (F : Nat) (at_ : Int) (w : World) (b0 : 0 ≤ base) (b1 : base ≤ 1099511627776) (c0 : 0 ≤ cap) (c1 : cap ≤ 1099511627776) (h : timeout < 1 ∨ 1099511627776 < timeout ∨ at_ < 0 ∨ 1099511627776 < at_) :
    Calls Try.prog 16 #[cfg 0 base cap timeout F, .int .i64 at_] w (RefNo w) := by
  have CN := Lib.hid (fun W => refNext_yes 0 base cap timeout 0 F W b0 b1 c0 c1 (by omega) (by omega))
  have HH := Lib.hid h
  clear h
  go_enter Try.func16, Try.ntmps16
  go_wp2_with (fail)
  refine (CN.out _).mono ?_
  rintro e w2 ⟨rfl, hb2⟩
  have HC : ∀ j v, (#[Value.int .i64 0, .int .i64 base, .int .i64 cap, .int .i64 timeout, .float .f64 F] : Array Value)[j]? = some v → w2.cell? ⟨w.heap.size, j, none⟩ = some v := by
    intro j v hj
    rw [hb2.cell (p := ⟨w.heap.size, j, none⟩) (by simp)]
    rw [cell_of_row _ w.heap.size j _ _ _ (heap_alloc_new w _)]
    exact hj
  have z3 := HC 3 _ rfl
  have HB := Lib.hid (((Below.refl _ w).alloc (Nat.le_refl _) (.cells #[Value.int .i64 0, .int .i64 base, .int .i64 cap, .int .i64 timeout, .float .f64 F] 27)).trans (hb2.mono (by simp)))
  clear HC hb2
  by_cases t0 : timeout < 1
  · have d1 : decide (timeout < 1) = true := by simpa using t0
    go_wp2
    go_ret2
    exact ⟨rfl, HB.out⟩
  · have d1 : decide (timeout < 1) = false := by simp; omega
    by_cases t1 : 1099511627776 < timeout
    · have d2 : decide ((1099511627776 : Int) < timeout) = true := by simpa using t1
      go_wp2
      go_ret2
      exact ⟨rfl, HB.out⟩
    · have d2 : decide ((1099511627776 : Int) < timeout) = false := by simp; omega
      by_cases t2 : at_ < 0
      · have d3 : decide (at_ < 0) = true := by simpa using t2
        go_wp2
        go_ret2
        exact ⟨rfl, HB.out⟩
      · have d3 : decide (at_ < 0) = false := by simp; omega
        have t3 : 1099511627776 < at_ := by
          rcases HH.out with h | h | h | h
          · exact absurd h t0
          · exact absurd h t1
          · exact absurd h t2
          · exact h
        have d4 : decide ((1099511627776 : Int) < at_) = true := by simpa using t3
        go_wp2
        go_ret2
        exact ⟨rfl, HB.out⟩

set_option maxRecDepth 100000 in
set_option maxHeartbeats 4000000 in
theorem senderNone_1 (a b c at_ : Int) (w : World) (h : (a < 0 ∨ 1099511627776 < a) ∨ (b < 0 ∨ 1099511627776 < b)) :
    Calls Try.prog 4 #[.agg #[.int .i64 a, .int .i64 b, .int .i64 c], .int .i64 at_] w (True_ w) := by
  have H := Lib.hid h
  clear h
  have hst := fun (A : Addr) (m : Mode) (W : World) => run_store Try.prog W A (.float .f64 0) m rfl
  go_enter Try.func4, Try.ntmps4
  go_wp2_with (fail)
  refine (nilPoll _).mono ?_
  rintro e w1 ⟨rfl, q, rfl⟩
  have hb1 : Hid (Below w.heap.size w ((w.alloc (.cells #[.int .i64 a, .int .i64 b, .int .i64 c] 22)).drewN q)) := drawN_below ((Below.refl _ w).alloc (Nat.le_refl _) _) q
  have HC : ∀ j v, (#[Value.int .i64 a, .int .i64 b, .int .i64 c] : Array Value)[j]? = some v → ((w.alloc (.cells #[.int .i64 a, .int .i64 b, .int .i64 c] 22)).drewN q).cell? ⟨w.heap.size, j, none⟩ = some v := by
    intro j v hj
    rw [show ((w.alloc (.cells #[.int .i64 a, .int .i64 b, .int .i64 c] 22)).drewN q).cell? ⟨w.heap.size, j, none⟩ = (w.alloc (.cells #[.int .i64 a, .int .i64 b, .int .i64 c] 22)).cell? ⟨w.heap.size, j, none⟩ from rfl]
    rw [cell_of_row _ w.heap.size j _ _ _ (heap_alloc_new w _)]
    exact hj
  have z0 := HC 0 _ rfl
  have z1 := HC 1 _ rfl
  have z2 := HC 2 _ rfl
  clear HC
  generalize (w.alloc (.cells #[.int .i64 a, .int .i64 b, .int .i64 c] 22)).drewN q = w1 at *
  go_wp2_with (first
    | (go_at_call 26; refine (nilDrop _).mono ?_; rintro e w' ⟨rfl, rfl⟩)
    | (go_at_call 18; refine (nilOffer _ _).mono ?_; rintro e w' ⟨rfl, rfl⟩)
    | (go_at_call 22; refine (nilAnswer _ _).mono ?_; rintro e w' ⟨rfl, rfl⟩)
    | (go_at_call 24; refine (nilTick _ _).mono ?_; rintro e w' ⟨rfl, rfl⟩)
    | (go_at_call 28; refine (nilAt _).mono ?_; rintro e w' ⟨rfl, rfl⟩)
    | (go_at_call 29; refine (nilFlying _).mono ?_; rintro e w' ⟨rfl, rfl⟩)
    | (go_at_call 30; refine (nilLeft _).mono ?_; rintro e w' ⟨rfl, rfl⟩)
    | (go_at_call 31; refine (nilTries _).mono ?_; rintro e w' ⟨rfl, rfl⟩))
  have hc2 : IsCfg (w1.alloc (.cells #[.int .i64 0, .int .i64 a, .int .i64 b, .int .i64 c, .float .f64 0] 27)) w1.heap.size a b c 0 := heap_alloc_new w1 _
  have HB2 : Hid (Below w.heap.size w (w1.alloc (.cells #[.int .i64 0, .int .i64 a, .int .i64 b, .int .i64 c, .float .f64 0] 27))) := Lib.hid (hb1.out.alloc hb1.out.size _)
  generalize w1.alloc (.cells #[.int .i64 0, .int .i64 a, .int .i64 b, .int .i64 c, .float .f64 0] 27) = w2 at *
  have HC2 := Lib.hid hc2
  have hgc := hc2.lt
  clear hc2 z0 z1 z2
  refine (senderNew_no1 0 a b c 0 at_ w2 H.out).mono ?_
  rintro e w3 ⟨rfl, hb3⟩
  have HB3 := Lib.hid (HB2.out.trans (hb3.mono HB2.out.size))
  obtain ⟨c0, c1, c2, c3, c4⟩ := (HC2.out.below hb3 hgc).cells
  clear hb3
  go_wp2_with (fail)
  refine (refNew_no1 a b c 0 at_ w3 H.out).mono ?_
  rintro e w4 ⟨rfl, hb4⟩
  have HB4 := Lib.hid (HB3.out.trans (hb4.mono HB3.out.size))
  clear hb4 c0 c1 c2 c3 c4
  go_wp2_with (fail)
  refine (senderAlive w4).mono ?_
  rintro e w5 ⟨rfl, hb5⟩
  have HB5 := Lib.hid (HB4.out.trans (hb5.mono HB4.out.size))
  clear hb5
  go_wp2
  go_ret
  exact ⟨rfl, HB5.out⟩

set_option maxRecDepth 100000 in
set_option maxHeartbeats 4000000 in
theorem senderNone_2 (a b c at_ : Int) (w : World) (hc : (0 ≤ a ∧ a ≤ 1099511627776) ∧ (0 ≤ b ∧ b ≤ 1099511627776)) (h : c < 1 ∨ 1099511627776 < c ∨ at_ < 0 ∨ 1099511627776 < at_) :
    Calls Try.prog 4 #[.agg #[.int .i64 a, .int .i64 b, .int .i64 c], .int .i64 at_] w (True_ w) := by
  have H := Lib.hid h
  have HCC := Lib.hid hc
  clear h hc
  have hst := fun (A : Addr) (m : Mode) (W : World) => run_store Try.prog W A (.float .f64 0) m rfl
  go_enter Try.func4, Try.ntmps4
  go_wp2_with (fail)
  refine (nilPoll _).mono ?_
  rintro e w1 ⟨rfl, q, rfl⟩
  have hb1 : Hid (Below w.heap.size w ((w.alloc (.cells #[.int .i64 a, .int .i64 b, .int .i64 c] 22)).drewN q)) := drawN_below ((Below.refl _ w).alloc (Nat.le_refl _) _) q
  have HC : ∀ j v, (#[Value.int .i64 a, .int .i64 b, .int .i64 c] : Array Value)[j]? = some v → ((w.alloc (.cells #[.int .i64 a, .int .i64 b, .int .i64 c] 22)).drewN q).cell? ⟨w.heap.size, j, none⟩ = some v := by
    intro j v hj
    rw [show ((w.alloc (.cells #[.int .i64 a, .int .i64 b, .int .i64 c] 22)).drewN q).cell? ⟨w.heap.size, j, none⟩ = (w.alloc (.cells #[.int .i64 a, .int .i64 b, .int .i64 c] 22)).cell? ⟨w.heap.size, j, none⟩ from rfl]
    rw [cell_of_row _ w.heap.size j _ _ _ (heap_alloc_new w _)]
    exact hj
  have z0 := HC 0 _ rfl
  have z1 := HC 1 _ rfl
  have z2 := HC 2 _ rfl
  clear HC
  generalize (w.alloc (.cells #[.int .i64 a, .int .i64 b, .int .i64 c] 22)).drewN q = w1 at *
  go_wp2_with (first
    | (go_at_call 26; refine (nilDrop _).mono ?_; rintro e w' ⟨rfl, rfl⟩)
    | (go_at_call 18; refine (nilOffer _ _).mono ?_; rintro e w' ⟨rfl, rfl⟩)
    | (go_at_call 22; refine (nilAnswer _ _).mono ?_; rintro e w' ⟨rfl, rfl⟩)
    | (go_at_call 24; refine (nilTick _ _).mono ?_; rintro e w' ⟨rfl, rfl⟩)
    | (go_at_call 28; refine (nilAt _).mono ?_; rintro e w' ⟨rfl, rfl⟩)
    | (go_at_call 29; refine (nilFlying _).mono ?_; rintro e w' ⟨rfl, rfl⟩)
    | (go_at_call 30; refine (nilLeft _).mono ?_; rintro e w' ⟨rfl, rfl⟩)
    | (go_at_call 31; refine (nilTries _).mono ?_; rintro e w' ⟨rfl, rfl⟩))
  have hc2 : IsCfg (w1.alloc (.cells #[.int .i64 0, .int .i64 a, .int .i64 b, .int .i64 c, .float .f64 0] 27)) w1.heap.size a b c 0 := heap_alloc_new w1 _
  have HB2 : Hid (Below w.heap.size w (w1.alloc (.cells #[.int .i64 0, .int .i64 a, .int .i64 b, .int .i64 c, .float .f64 0] 27))) := Lib.hid (hb1.out.alloc hb1.out.size _)
  generalize w1.alloc (.cells #[.int .i64 0, .int .i64 a, .int .i64 b, .int .i64 c, .float .f64 0] 27) = w2 at *
  have HC2 := Lib.hid hc2
  have hgc := hc2.lt
  clear hc2 z0 z1 z2
  refine (senderNew_no2 0 a b c 0 at_ w2 HCC.out.1.1 HCC.out.1.2 HCC.out.2.1 HCC.out.2.2 H.out).mono ?_
  rintro e w3 ⟨rfl, hb3⟩
  have HB3 := Lib.hid (HB2.out.trans (hb3.mono HB2.out.size))
  obtain ⟨c0, c1, c2, c3, c4⟩ := (HC2.out.below hb3 hgc).cells
  clear hb3
  go_wp2_with (fail)
  refine (refNew_no2 a b c 0 at_ w3 HCC.out.1.1 HCC.out.1.2 HCC.out.2.1 HCC.out.2.2 H.out).mono ?_
  rintro e w4 ⟨rfl, hb4⟩
  have HB4 := Lib.hid (HB3.out.trans (hb4.mono HB3.out.size))
  clear hb4 c0 c1 c2 c3 c4
  go_wp2_with (fail)
  refine (senderAlive w4).mono ?_
  rintro e w5 ⟨rfl, hb5⟩
  have HB5 := Lib.hid (HB4.out.trans (hb5.mono HB4.out.size))
  clear hb5
  go_wp2
  go_ret
  exact ⟨rfl, HB5.out⟩

set_option maxRecDepth 100000 in
set_option maxHeartbeats 4000000 in
theorem senderNone_3 (a b c at_ : Int) (w : World) (hc : (0 ≤ a ∧ a ≤ 1099511627776) ∧ (0 ≤ b ∧ b ≤ 1099511627776)) (hd : 1 ≤ c ∧ c ≤ 1099511627776 ∧ 0 ≤ at_ ∧ at_ ≤ 1099511627776) :
    Calls Try.prog 4 #[.agg #[.int .i64 a, .int .i64 b, .int .i64 c], .int .i64 at_] w (True_ w) := by
  have HCC := Lib.hid hc
  have HD := Lib.hid hd
  clear hc hd
  have hst := fun (A : Addr) (m : Mode) (W : World) => run_store Try.prog W A (.float .f64 0) m rfl
  go_enter Try.func4, Try.ntmps4
  go_wp2_with (fail)
  refine (nilPoll _).mono ?_
  rintro e w1 ⟨rfl, q, rfl⟩
  have hb1 : Hid (Below w.heap.size w ((w.alloc (.cells #[.int .i64 a, .int .i64 b, .int .i64 c] 22)).drewN q)) := drawN_below ((Below.refl _ w).alloc (Nat.le_refl _) _) q
  have HC : ∀ j v, (#[Value.int .i64 a, .int .i64 b, .int .i64 c] : Array Value)[j]? = some v → ((w.alloc (.cells #[.int .i64 a, .int .i64 b, .int .i64 c] 22)).drewN q).cell? ⟨w.heap.size, j, none⟩ = some v := by
    intro j v hj
    rw [show ((w.alloc (.cells #[.int .i64 a, .int .i64 b, .int .i64 c] 22)).drewN q).cell? ⟨w.heap.size, j, none⟩ = (w.alloc (.cells #[.int .i64 a, .int .i64 b, .int .i64 c] 22)).cell? ⟨w.heap.size, j, none⟩ from rfl]
    rw [cell_of_row _ w.heap.size j _ _ _ (heap_alloc_new w _)]
    exact hj
  have z0 := HC 0 _ rfl
  have z1 := HC 1 _ rfl
  have z2 := HC 2 _ rfl
  clear HC
  generalize (w.alloc (.cells #[.int .i64 a, .int .i64 b, .int .i64 c] 22)).drewN q = w1 at *
  go_wp2_with (first
    | (go_at_call 26; refine (nilDrop _).mono ?_; rintro e w' ⟨rfl, rfl⟩)
    | (go_at_call 18; refine (nilOffer _ _).mono ?_; rintro e w' ⟨rfl, rfl⟩)
    | (go_at_call 22; refine (nilAnswer _ _).mono ?_; rintro e w' ⟨rfl, rfl⟩)
    | (go_at_call 24; refine (nilTick _ _).mono ?_; rintro e w' ⟨rfl, rfl⟩)
    | (go_at_call 28; refine (nilAt _).mono ?_; rintro e w' ⟨rfl, rfl⟩)
    | (go_at_call 29; refine (nilFlying _).mono ?_; rintro e w' ⟨rfl, rfl⟩)
    | (go_at_call 30; refine (nilLeft _).mono ?_; rintro e w' ⟨rfl, rfl⟩)
    | (go_at_call 31; refine (nilTries _).mono ?_; rintro e w' ⟨rfl, rfl⟩))
  have hc2 : IsCfg (w1.alloc (.cells #[.int .i64 0, .int .i64 a, .int .i64 b, .int .i64 c, .float .f64 0] 27)) w1.heap.size a b c 0 := heap_alloc_new w1 _
  have HB2 : Hid (Below w.heap.size w (w1.alloc (.cells #[.int .i64 0, .int .i64 a, .int .i64 b, .int .i64 c, .float .f64 0] 27))) := Lib.hid (hb1.out.alloc hb1.out.size _)
  generalize w1.alloc (.cells #[.int .i64 0, .int .i64 a, .int .i64 b, .int .i64 c, .float .f64 0] 27) = w2 at *
  have HC2 := Lib.hid hc2
  have hgc := hc2.lt
  clear hc2 z0 z1 z2
  refine (senderNew 0 a b c 0 at_ w2 HCC.out.1.1 HCC.out.1.2 HCC.out.2.1 HCC.out.2.2 HD.out.1 HD.out.2.1 HD.out.2.2.1 HD.out.2.2.2).mono ?_
  rintro e w3 ⟨g, rfl, hs3, hg3, hb3⟩
  have HB3 := Lib.hid (HB2.out.trans (hb3.mono HB2.out.size))
  have H3 := Lib.hid hs3
  have HG : Hid (w.heap.size ≤ g) := Lib.hid (Nat.le_trans HB2.out.size hg3)
  obtain ⟨c0, c1, c2, c3, c4⟩ := (HC2.out.below hb3 hgc).cells
  clear hb3 hs3 hg3
  go_wp2_with (fail)
  refine (refNew a b c 0 at_ w3 HCC.out.1.1 HCC.out.1.2 HCC.out.2.1 HCC.out.2.2 HD.out.1 HD.out.2.1 HD.out.2.2.1 HD.out.2.2.2).mono ?_
  rintro e w4 ⟨g2, rfl, hs4, hg4, hb4⟩
  have HB4 := Lib.hid (HB3.out.trans (hb4.mono HB3.out.size))
  have H4 := Lib.hid (H3.out.below hb4 H3.out.lt)
  clear hb4 c0 c1 c2 c3 c4 hs4 hg4
  go_wp2_with (fail)
  refine (senderAlive w4).mono ?_
  rintro e w5 ⟨rfl, hb5⟩
  have HB5 := Lib.hid (HB4.out.trans (hb5.mono HB4.out.size))
  have H5 := Lib.hid (H4.out.below hb5 H4.out.lt)
  clear hb5
  have h0 := HD.out.2.2.1
  have h1 := HD.out.2.2.2
  go_wp2_with (fail)
  refine (senderAt w5 g _ H5.out).mono ?_
  rintro e w' ⟨rfl, rfl⟩
  go_wp2_with (fail)
  refine (senderOffer w5 g _ _ H5.out).mono ?_
  rw [if_pos (.inl (by show at_ - 1 < at_; omega)), if_pos (.inl (by show at_ - 1 < at_; omega))]
  rintro e w6 ⟨rfl, hs6, hg6⟩
  have H6 := Lib.hid hs6
  have HB6 := Lib.hid (grown_to_below HB5.out HG.out hg6)
  clear hs6 hg6
  go_wp2_with (fail)
  refine (senderLeft w6 g _ H6.out).mono ?_
  rintro e w' ⟨rfl, rfl⟩
  go_wp2
  go_ret
  exact ⟨rfl, HB6.out⟩


theorem senderNone_walk (a b c at_ : Int) (w : World) (_hat : (Lit.int .i64 at_).wf = true) :
    Calls Try.prog 4 #[.agg #[.int .i64 a, .int .i64 b, .int .i64 c], .int .i64 at_] w (True_ w) := by
  by_cases h1 : (a < 0 ∨ 1099511627776 < a) ∨ (b < 0 ∨ 1099511627776 < b)
  · exact senderNone_1 a b c at_ w h1
  · by_cases h2 : c < 1 ∨ 1099511627776 < c ∨ at_ < 0 ∨ 1099511627776 < at_
    · exact senderNone_2 a b c at_ w (by omega) h2
    · exact senderNone_3 a b c at_ w (by omega) (by omega)
end Go.Proofs.Ytcdkcaahmjchjaa
