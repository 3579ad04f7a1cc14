/- EscapeEncodes, walked. -/
import Derived.Test.YtecmadodpkfnnaaRef07
import Derived.Test.YtecmadodpkfnnaaRefRight
namespace Go.Proofs.Ytecmadodpkfnnaa
open Go.RowKit Go.MapKept

set_option maxHeartbeats 4000000 in
set_option maxRecDepth 100000 in
theorem escapeEncodes_walk (x : ByteArray) (s : Sgn) (w : World) (_h0 : x.size ≤ maxLen) : Calls Try.prog 3 #[.string x, s.v] w (True_ w) := by
  have hxl : x.size ≤ 9223372036854775807 := Nat.le_trans _h0 (by decide)
  have HX := Lib.hid (Box5.new s w)
  have HB0 : Hid (Below w.heap.size w (w.alloc (dobj7 s))) := Lib.hid ((Below.refl _ _).alloc (Nat.le_refl _) _)
  clear _h0
  go_enter Try.func3, Try.ntmps3
  by_cases hx8 : (2000 : Int) < (x.size : Int)
  · go_wp2_with (fail)
    refine (escAlive _).mono ?_
    rintro e w1 ⟨rfl, hb1⟩
    have HB1 : Hid (Below w.heap.size w w1) := Lib.hid (HB0.out.trans (hb1.mono HB0.out.size))
    clear hb1
    go_wp2_with (fail)
    go_ret
    exact ⟨rfl, HB1.out⟩
  have hxm : Hid (x.size ≤ 2000) := Lib.hid (by omega)
  have hxn : Hid (x.size ≤ 1000000) := Lib.hid (by omega)
  clear hxl
  cases hg : s.good
  · skip
    have HG := Lib.hid hg
    clear hg
    go_wp2_with (fail)
    refine (escEncode_no x s HG.out _).mono ?_
    rintro e w1 ⟨rfl, hb1⟩
    have HX1 := Lib.hid (HX.out.below hb1)
    have HB1 : Hid (Below w.heap.size w w1) := Lib.hid (HB0.out.trans (hb1.mono HB0.out.size))
    clear hb1
    have L : ∀ (k : Nat) (x : Value), (#[Value.int .u8 (s.a.toNat : Int), Value.int .u8 (s.b.toNat : Int), Value.int .u8 (s.c.toNat : Int), Value.int .u8 (s.d.toNat : Int), Value.int .u8 (s.e.toNat : Int)] : Array Value)[k]? = some x → ∀ n : Later w1, n.u.cell? ⟨w.heap.size, k, none⟩ = some x := fun k x hx n => by
      rw [cell_of_row _ _ _ _ _ _ (HX1.out.below n.h)]; exact hx
    have L0 := L 0 _ rfl
    have L1 := L 1 _ rfl
    have L2 := L 2 _ rfl
    have L3 := L 3 _ rfl
    have L4 := L 4 _ rfl
    clear L
    have hcc : (cleanD s x.data.toList != cleanD s x.data.toList) = false := by simp
    go_wp2_with (fail)
    refine region_later (by kernel_rfl) (by kernel_rfl) ?_
    repeat (go_big_quiet_step ((first
      | (go_at_call 10; exact Calls.later (escAlive _))
      | (go_at_call 12; exact Calls.later (escClean x hxn.out s _))
      | (go_at_call 13; exact Calls.later (refClean x hxn.out s _)))))
    refine wpQuiet_nil ?_
    intro nq
    have HX2 := Lib.hid (HX1.out.below nq.h)
    have HB2 : Hid (Below w.heap.size w nq.u) := Lib.hid (HB1.out.trans (nq.h.mono HB1.out.size))
    clear L0 L1 L2 L3 L4 hcc
    generalize nq.u = w2 at *
    clear nq
    obtain ⟨x0, x1, x2, x3, x4⟩ := HX2.out.cells
    go_wp2_with (fail)
    refine (refRight s w2).mono ?_
    rintro e w3 ⟨rfl, hb3⟩
    rw [HG.out]
    have HX3 := Lib.hid (HX2.out.below hb3)
    have HB3 : Hid (Below w.heap.size w w3) := Lib.hid (HB2.out.trans (hb3.mono HB2.out.size))
    clear hb3 x0 x1 x2 x3 x4
    go_wp2_with (fail)
    go_ret
    exact ⟨rfl, HB3.out⟩
  · skip
    have HG := Lib.hid hg
    clear hg
    go_wp2_with (fail)
    refine (escEncode x hxn.out s HG.out _).mono ?_
    rintro e w1 ⟨rfl, hb1⟩
    have HX1 := Lib.hid (HX.out.below hb1)
    have HB1 : Hid (Below w.heap.size w w1) := Lib.hid (HB0.out.trans (hb1.mono HB0.out.size))
    clear hb1
    have L : ∀ (k : Nat) (x : Value), (#[Value.int .u8 (s.a.toNat : Int), Value.int .u8 (s.b.toNat : Int), Value.int .u8 (s.c.toNat : Int), Value.int .u8 (s.d.toNat : Int), Value.int .u8 (s.e.toNat : Int)] : Array Value)[k]? = some x → ∀ n : Later w1, n.u.cell? ⟨w.heap.size, k, none⟩ = some x := fun k x hx n => by
      rw [cell_of_row _ _ _ _ _ _ (HX1.out.below n.h)]; exact hx
    have L0 := L 0 _ rfl
    have L1 := L 1 _ rfl
    have L2 := L 2 _ rfl
    have L3 := L 3 _ rfl
    have L4 := L 4 _ rfl
    clear L
    have hcc : (cleanD s x.data.toList != cleanD s x.data.toList) = false := by simp
    go_wp2_with (fail)
    refine region_later (by kernel_rfl) (by kernel_rfl) ?_
    repeat (go_big_quiet_step ((first
      | (go_at_call 10; exact Calls.later (escAlive _))
      | (go_at_call 12; exact Calls.later (escClean x hxn.out s _))
      | (go_at_call 13; exact Calls.later (refClean x hxn.out s _)))))
    refine wpQuiet_nil ?_
    intro nq
    have HX2 := Lib.hid (HX1.out.below nq.h)
    have HB2 : Hid (Below w.heap.size w nq.u) := Lib.hid (HB1.out.trans (nq.h.mono HB1.out.size))
    clear L0 L1 L2 L3 L4 hcc
    generalize nq.u = w2 at *
    clear nq
    obtain ⟨x0, x1, x2, x3, x4⟩ := HX2.out.cells
    go_wp2_with (fail)
    refine (refRight s w2).mono ?_
    rintro e w3 ⟨rfl, hb3⟩
    rw [HG.out]
    have HX3 := Lib.hid (HX2.out.below hb3)
    have HB3 : Hid (Below w.heap.size w w3) := Lib.hid (HB2.out.trans (hb3.mono HB2.out.size))
    clear hb3 x0 x1 x2 x3 x4
    obtain ⟨x0, x1, x2, x3, x4⟩ := HX3.out.cells
    have L : ∀ (k : Nat) (x : Value), (#[Value.int .u8 (s.a.toNat : Int), Value.int .u8 (s.b.toNat : Int), Value.int .u8 (s.c.toNat : Int), Value.int .u8 (s.d.toNat : Int), Value.int .u8 (s.e.toNat : Int)] : Array Value)[k]? = some x → ∀ n : Later w3, n.u.cell? ⟨w.heap.size, k, none⟩ = some x := fun k x hx n => by
      rw [cell_of_row _ _ _ _ _ _ (HX3.out.below n.h)]; exact hx
    have L0 := L 0 _ rfl
    have L1 := L 1 _ rfl
    have L2 := L 2 _ rfl
    have L3 := L 3 _ rfl
    have L4 := L 4 _ rfl
    clear L
    go_wp2_with (fail)
    refine (refEncode x hxn.out s HG.out _).mono ?_
    rintro e w4 ⟨rfl, hb4⟩
    have HB4 : Hid (Below w.heap.size w w4) := Lib.hid (HB3.out.trans (hb4.mono HB3.out.size))
    clear hb4
    go_wp2_with (fail)
    go_ret
    exact ⟨rfl, HB4.out⟩
end Go.Proofs.Ytecmadodpkfnnaa
