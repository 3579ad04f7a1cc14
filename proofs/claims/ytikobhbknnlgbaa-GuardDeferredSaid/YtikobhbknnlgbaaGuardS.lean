/- Layer 3: Run and Do of any function, with the blocks that change behind it. -/
import Derived.Test.YtikobhbknnlgbaaGuardRun
import Derived.Test.YtikobhbknnlgbaaRowsG0
import Derived.RegionTactic
namespace Go.Proofs.Ytikobhbknnlgbaa
open Go.RowKit

set_option maxHeartbeats 1000000 in
/-- Run's deferred function, of a frame that panics with a crash -/
theorem run1_crashS (C G : Nat) (op x : Int) (y : Bool) (older : List PanicEntry) (hne : C ≠ G) (w : World) (rC : w.heap[C]? = some (.cells #[.int .i64 x] 24)) (rG : w.heap[G]? = some (.cells #[.bool y] 4)) :
    CallsD Try.prog 46 #[.pointer (some ⟨C, 0, none⟩), .pointer (some ⟨G, 0, none⟩)] (.panicking ({ v := crashI op, recovered := false } :: older)) w fun e u' w' =>
      e = .returned (.tuple #[]) ∧ u' = .panicking ({ v := crashI op, recovered := true } :: older) ∧ Ch (fun k => k = C ∨ k = G) w w' ∧ w'.heap[C]? = some (.cells #[.int .i64 op] 24) ∧ w'.heap[G]? = some (.cells #[.bool true] 4) := by
  have hl1 : C < w.heap.size := (Array.getElem?_eq_some_iff.1 rC).1
  have hl2 : G < w.heap.size := (Array.getElem?_eq_some_iff.1 rG).1
  refine callsD_of_wpS Try.func46 rfl fun c₀ cs hu => ?_
  apply wpS_seq
  apply wpS_region
  simp [wpOpsS, go_sem, recoverD, hu, Try.ntmps46, Exit.thenS]
  rw [tm37]
  refine wpS_of_wp ?_
  go_wp2_with (fail)
  refine (guardLost_yes op w).mono ?_
  rintro e w1 ⟨rfl, hb1⟩
  have r1 : w1.heap[C]? = some (.cells #[.int .i64 x] 24) := by rw [hb1.block _ hl1]; exact rC
  have r2 : w1.heap[G]? = some (.cells #[.bool y] 4) := by rw [hb1.block _ hl2]; exact rG
  have c1 := cell_of_row w1 C 0 _ _ _ r1
  have c2 := cell_of_row w1 G 0 _ _ _ r2
  simp only [List.getElem?_toArray, List.getElem?_cons_zero] at c1 c2
  have f1 : w1.frozen? ⟨C, 0, none⟩ = false := by simp [World.frozen?, r1]
  have f2 : w1.frozen? ⟨G, 0, none⟩ = false := by simp [World.frozen?, r2]
  have hne' : G ≠ C := fun h => hne h.symm
  have L1 := Lib.hid rC
  have L2 := Lib.hid rG
  have L3 := Lib.hid r1
  have L4 := Lib.hid r2
  have L5 := Lib.hid hb1
  have L6 := Lib.hid hl1
  clear rC rG r1 r2 hb1 hu hl1 hl2
  go_wp2_with (fail)
  refine ⟨rfl, _, rfl, _, by simp [results, Try.results46], rfl, rfl, ?_, ?_, ?_⟩
  · exact ((Ch.of_below (S := fun k => k = C ∨ k = G) L5.out).set (a := ⟨C, 0, none⟩) (.inl rfl) _).set (a := ⟨G, 0, none⟩) (.inr rfl) _
  · rw [heap_setCell_other _ _ _ _ (by show C ≠ G; exact hne)]
    exact heap_setCell_same _ _ _ _ _ _ L3.out
  · exact heap_setCell_same (w1.setCell ⟨C, 0, none⟩ (.int .i64 op)) G 0 _ _ _ (by rw [heap_setCell_other _ _ _ _ (by show G ≠ C; exact fun h => hne h.symm)]; exact L4.out)
/-- what Run leaves behind: its callee was entered in w1, ended in w', and behind that only what Run made is written -/
def RunPostS (W : World) (B : Nat) (Ret : World → World → Prop) (Pan : Int → World → World → Prop) (e : Ending) (w'' : World) : Prop :=
  ∃ w1 w', Below B W w1 ∧ w1.heap.size ≤ w'.heap.size ∧ Ch (fun k => B ≤ k ∧ k < w1.heap.size) w' w'' ∧ ((e = .returned (.tuple #[crash 0, .bool false]) ∧ Ret w1 w') ∨ ∃ op, e = .returned (.tuple #[crash op, .bool true]) ∧ Pan op w1 w')

set_option maxHeartbeats 1000000 in
set_option maxRecDepth 100000 in
theorem guardRunS (k : FuncId) (caps : Array Value) (hk : FnOk k) (w : World) (Ret : World → World → Prop) (Pan : Int → World → World → Prop)
    (h : ∀ w1, Below w.heap.size w w1 → Calls Try.prog k caps w1 (RunPre w.heap.size w1 (Ret w1) (fun op => Pan op w1))) :
    Calls Try.prog 14 #[.func (.func k) #[] caps] w (RunPostS w w.heap.size Ret Pan) := by
  have hmf : ∀ (fn : Fn) (first cap : Array Value) (w : World), (Instr.makeFunc fn first cap).run Try.prog w = .ok (.func fn first cap) w := fun _ _ _ _ => rfl
  have hfn := func_nil
  have H := Lib.hid h
  have hkk : ∀ (args : Array Value) (w : World), (callFunc k args).run Try.prog w = .ok (.enter k args) w := hk
  clear hk
  clear h
  go_enter_defers Try.func14, Try.ntmps14
  go_wp2_with (fail)
  have hr := rows_two w.heap (.cells #[.int .i64 0] 24) (.cells #[.bool false] 4)
  have hb1 : Below w.heap.size w ((w.alloc (.cells #[.int .i64 0] 24)).alloc (.cells #[.bool false] 4)) := ((Below.refl _ w).alloc (Nat.le_refl _) _).alloc (by simp) _
  have hr1 : ((w.alloc (.cells #[.int .i64 0] 24)).alloc (.cells #[.bool false] 4)).heap[w.heap.size]? = some (.cells #[.int .i64 0] 24) := hr.1
  have hr2 : ((w.alloc (.cells #[.int .i64 0] 24)).alloc (.cells #[.bool false] 4)).heap[w.heap.size + 1]? = some (.cells #[.bool false] 4) := hr.2
  have hs1 : ((w.alloc (.cells #[.int .i64 0] 24)).alloc (.cells #[.bool false] 4)).heap.size = w.heap.size + 2 := by simp
  clear hr
  have HK := H.out _ hb1
  clear H
  generalize (w.alloc (.cells #[.int .i64 0] 24)).alloc (.cells #[.bool false] 4) = w1 at *
  obtain ⟨B, hB⟩ : ∃ B, B = w.heap.size := ⟨_, rfl⟩
  rw [← hB] at hr1 hr2 hs1 HK hb1 ⊢
  have HB1 := Lib.hid hb1
  have HS1 := Lib.hid hs1
  clear hb1
  have HBB := Lib.hid hB
  clear hB
  refine HK.mono ?_
  rintro e w2 ⟨hkeep, hsz, hcase⟩
  have rC : w2.heap[B]? = some (.cells #[.int .i64 0] 24) := by rw [hkeep B (Nat.le_refl _) (by omega)]; exact hr1
  have rG : w2.heap[B + 1]? = some (.cells #[.bool false] 4) := by rw [hkeep (B + 1) (by omega) (by omega)]; exact hr2
  have HS := Lib.hid hsz
  clear hkeep hr1 hr2 hs1 hsz HK
  rcases hcase with ⟨rfl, hRet⟩ | ⟨op, rfl, hPan⟩
  · have HR := Lib.hid hRet
    clear hRet
    have c1 := cell_of_row w2 B 0 _ _ _ rC
    have c2 := cell_of_row w2 (B + 1) 0 _ _ _ rG
    simp only [List.getElem?_toArray, List.getElem?_cons_zero] at c1 c2
    have f1 : w2.frozen? ⟨B, 0, none⟩ = false := by simp [World.frozen?, rC]
    have f2 : w2.frozen? ⟨B + 1, 0, none⟩ = false := by simp [World.frozen?, rG]
    have L1 := Lib.hid rC
    have L2 := Lib.hid rG
    clear rC rG
    go_wp2_with (fail)
    clear c1 c2 f1 f2
    have R2 : ((w2.setCell ⟨B, 0, none⟩ (.int .i64 0)).setCell ⟨B + 1, 0, none⟩ (.bool false)).heap[B + 1]? = some (.cells #[.bool false] 4) :=
      heap_setCell_same (w2.setCell ⟨B, 0, none⟩ (.int .i64 0)) (B + 1) 0 _ _ _ (by rw [heap_setCell_other _ _ _ _ (by show B + 1 ≠ B; omega)]; exact L2.out)
    have R1 : ((w2.setCell ⟨B, 0, none⟩ (.int .i64 0)).setCell ⟨B + 1, 0, none⟩ (.bool false)).heap[B]? = some (.cells #[.int .i64 0] 24) := by
      rw [heap_setCell_other _ _ _ _ (by show B ≠ B + 1; omega)]
      exact heap_setCell_same _ _ _ _ _ _ L1.out
    have hbb : Ch (fun k => B ≤ k ∧ k < w1.heap.size) w2 ((w2.setCell ⟨B, 0, none⟩ (.int .i64 0)).setCell ⟨B + 1, 0, none⟩ (.bool false)) := ((Ch.refl _ w2).set (a := ⟨B, 0, none⟩) ⟨Nat.le_refl _, by have := HS1.out; show B < _; omega⟩ _).set (a := ⟨B + 1, 0, none⟩) ⟨by show B ≤ B + 1; omega, by have := HS1.out; show B + 1 < _; omega⟩ _
    generalize (w2.setCell ⟨B, 0, none⟩ (.int .i64 0)).setCell ⟨B + 1, 0, none⟩ (.bool false) = w3 at *
    refine leaves_cons (f := 46) (args := #[.pointer (some ⟨B, 0, none⟩), .pointer (some ⟨B + 1, 0, none⟩)]) (by simp) (by simp [go_sem]) ?_
    refine (run1_idle ⟨B, 0, none⟩ ⟨B + 1, 0, none⟩ w3).mono ?_
    rintro e u' w'' ⟨rfl, rfl, rfl⟩
    have c1 := cell_of_row w'' B 0 _ _ _ R1
    have c2 := cell_of_row w'' (B + 1) 0 _ _ _ R2
    simp only [List.getElem?_toArray, List.getElem?_cons_zero] at c1 c2
    have hP : RunPostS w B Ret Pan (.returned (.tuple #[crash 0, .bool false])) w'' := ⟨w1, w2, HB1.out, HS.out, hbb, .inl ⟨rfl, HR.out⟩⟩
    try rw [HBB.out] at hP
    simp [Leaves, settle, results, Try.results14, go_sem, c1, c2]
    exact hP
  · show Leaves _ _ _ _ _ _ _
    have hne : B ≠ B + 1 := by omega
    refine leaves_cons (f := 46) (args := #[.pointer (some ⟨B, 0, none⟩), .pointer (some ⟨B + 1, 0, none⟩)]) (by simp) (by simp [go_sem]) ?_
    refine (run1_crashS B (B + 1) op 0 false [] hne w2 rC rG).mono ?_
    rintro e u' w'' ⟨rfl, rfl, hbb, R1, R2⟩
    have c1 := cell_of_row w'' B 0 _ _ _ R1
    have c2 := cell_of_row w'' (B + 1) 0 _ _ _ R2
    simp only [List.getElem?_toArray, List.getElem?_cons_zero] at c1 c2
    have hP : RunPostS w B Ret Pan (.returned (.tuple #[crash op, .bool true])) w'' := ⟨w1, w2, HB1.out, HS.out, (Ch.refl _ w2).trans hbb (fun x _ h => by have := HS1.out; rcases h with rfl | rfl <;> exact ⟨by omega, by omega⟩), .inr ⟨op, rfl, hPan⟩⟩
    simp [Leaves, settle, results, Try.results14, go_sem, c1, c2]
    exact hP
end Go.Proofs.Ytikobhbknnlgbaa
