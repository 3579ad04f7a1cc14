/- Layer 3: what Run defers. -/
import Derived.Test.YtikobhbknnlgbaaGuard
namespace Go.Proofs.Ytikobhbknnlgbaa
open Go.RowKit

set_option maxRecDepth 100000 in
theorem guardLost_yes (op : Int) (w : World) : Calls Try.prog 21 #[crashI op] w fun e w' => e = .returned (.tuple #[crash op, .bool true]) ∧ Below w.heap.size w w' := by
  have hta := assert_yes (crash op)
  go_enter Try.func21, Try.ntmps21
  go_wp2
  exact bodyPost_ret (v := .tuple #[crash op, .bool true]) (by simp [results, Try.results21, go_sem]) rfl ⟨rfl, ((Below.refl _ w).alloc (Nat.le_refl _) _).alloc (by simp) _⟩

set_option maxRecDepth 100000 in
theorem guardLost_no (t : TypeId) (v : Value) (ht : t ≠ 24) (w : World) : Calls Try.prog 21 #[.iface t v] w fun e w' => e = .returned (.tuple #[crash 0, .bool false]) ∧ Below w.heap.size w w' := by
  have hta := fun w => assert_no t v w ht
  clear ht
  go_enter Try.func21, Try.ntmps21
  go_wp2
  exact bodyPost_ret (v := .tuple #[crash 0, .bool false]) (by simp [results, Try.results21, go_sem]) rfl ⟨rfl, ((Below.refl _ w).alloc (Nat.le_refl _) _).alloc (by simp) _⟩

set_option maxRecDepth 100000 in
theorem guardLost_nil (w : World) : Calls Try.prog 21 #[.nilIface] w fun e w' => e = .returned (.tuple #[crash 0, .bool false]) ∧ Below w.heap.size w w' := by
  have hta := assert_nil
  go_enter Try.func21, Try.ntmps21
  go_wp2
  exact bodyPost_ret (v := .tuple #[crash 0, .bool false]) (by simp [results, Try.results21, go_sem]) rfl ⟨rfl, ((Below.refl _ w).alloc (Nat.le_refl _) _).alloc (by simp) _⟩

theorem tm37 (P Q v : Value) : (#[P, Q] ++ ((Array.replicate 12 undef).setIfInBounds 1 v).setIfInBounds 0 v) = #[P, Q, v, v, undef, undef, undef, undef, undef, undef, undef, undef, undef, undef] := rfl

/-- Run's deferred function, of a frame that returns -/
theorem run1_idle (p q : Addr) (w : World) :
    CallsD Try.prog 46 #[.pointer (some p), .pointer (some q)] .returning w fun e u' w' => e = .returned (.tuple #[]) ∧ u' = .returning ∧ w' = w := by
  refine callsD_of_wpS Try.func46 rfl fun c₀ cs hu => ?_
  apply wpS_seq
  apply wpS_region
  simp [wpOpsS, go_sem, recoverD, hu, Try.ntmps46, Exit.thenS]
  rw [tm37]
  refine wpS_of_wp ?_
  go_wp2_with (fail)
  cases c₀
  simp_all [bodyPostS, results, Try.results46]

set_option maxHeartbeats 1000000 in
/-- Run's deferred function, of a frame that panics with a crash -/
theorem run1_crash (C G : Nat) (op x : Int) (y : Bool) (older : List PanicEntry) (B : Nat) (hC : B ≤ C) (hG : B ≤ G) (hne : C ≠ G) (w : World) (rC : w.heap[C]? = some (.cells #[.int .i64 x] 24)) (rG : w.heap[G]? = some (.cells #[.bool y] 4)) :
    CallsD Try.prog 46 #[.pointer (some ⟨C, 0, none⟩), .pointer (some ⟨G, 0, none⟩)] (.panicking ({ v := crashI op, recovered := false } :: older)) w fun e u' w' =>
      e = .returned (.tuple #[]) ∧ u' = .panicking ({ v := crashI op, recovered := true } :: older) ∧ Below B w w' ∧ w'.heap[C]? = some (.cells #[.int .i64 op] 24) ∧ w'.heap[G]? = some (.cells #[.bool true] 4) := by
  have hl1 : C < w.heap.size := (Array.getElem?_eq_some_iff.1 rC).1
  have hl2 : G < w.heap.size := (Array.getElem?_eq_some_iff.1 rG).1
  refine callsD_of_wpS Try.func46 rfl fun c₀ cs hu => ?_
  apply wpS_seq
  apply wpS_region
  simp [wpOpsS, go_sem, recoverD, hu, Try.ntmps46, Exit.thenS]
  rw [tm37]
  refine wpS_of_wp ?_
  go_wp2_with (fail)
  refine (guardLost_yes op w).mono ?_
  rintro e w1 ⟨rfl, hb1⟩
  have r1 : w1.heap[C]? = some (.cells #[.int .i64 x] 24) := by rw [hb1.block _ hl1]; exact rC
  have r2 : w1.heap[G]? = some (.cells #[.bool y] 4) := by rw [hb1.block _ hl2]; exact rG
  have c1 := cell_of_row w1 C 0 _ _ _ r1
  have c2 := cell_of_row w1 G 0 _ _ _ r2
  simp only [List.getElem?_toArray, List.getElem?_cons_zero] at c1 c2
  have f1 : w1.frozen? ⟨C, 0, none⟩ = false := by simp [World.frozen?, r1]
  have f2 : w1.frozen? ⟨G, 0, none⟩ = false := by simp [World.frozen?, r2]
  have hne' : G ≠ C := fun h => hne h.symm
  have L1 := Lib.hid rC
  have L2 := Lib.hid rG
  have L3 := Lib.hid r1
  have L4 := Lib.hid r2
  have L5 := Lib.hid hb1
  have L6 := Lib.hid hl1
  clear rC rG r1 r2 hb1 hu hl1 hl2
  go_wp2_with (fail)
  refine ⟨rfl, _, rfl, _, by simp [results, Try.results46], rfl, rfl, ?_, ?_, ?_⟩
  · have hb : Below B w w1 := ⟨L5.out.os, L5.out.tape, L5.out.output, L5.out.size, fun k hk => L5.out.block k (Nat.lt_of_lt_of_le (Nat.lt_of_lt_of_le hk hC) (Nat.le_of_lt L6.out))⟩
    exact (hb.setCell (p := ⟨C, 0, none⟩) hC _).setCell (p := ⟨G, 0, none⟩) hG _
  · rw [heap_setCell_other _ _ _ _ (by show C ≠ G; exact hne)]
    exact heap_setCell_same _ _ _ _ _ _ L3.out
  · exact heap_setCell_same (w1.setCell ⟨C, 0, none⟩ (.int .i64 op)) G 0 _ _ _ (by rw [heap_setCell_other _ _ _ _ (by show G ≠ C; exact fun h => hne h.symm)]; exact L4.out)
end Go.Proofs.Ytikobhbknnlgbaa
