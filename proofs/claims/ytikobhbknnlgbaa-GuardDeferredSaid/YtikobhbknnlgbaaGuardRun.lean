/- Layer 3: Run of any function. -/
import Derived.Test.YtikobhbknnlgbaaGuard2
namespace Go.Proofs.Ytikobhbknnlgbaa
open Go.RowKit

set_option maxRecDepth 100000 in
theorem func_nil (fn : Fn) (first cap : Array Value) (w : World) : (binOp .eql 1 (.func fn first cap) .nilFunc).run Try.prog w = .ok (.bool false) w := by
  first
  | rfl
  | simp [binOp, go_sem, run_underlying Try.underlying1]
set_option maxRecDepth 100000 in
theorem nil_nil (w : World) : (binOp .eql 1 .nilFunc .nilFunc).run Try.prog w = .ok (.bool true) w := by
  first
  | rfl
  | simp [binOp, go_sem, run_underlying Try.underlying1]

/-- a function that is entered as it stands -/
def FnOk (k : FuncId) : Prop := ∀ (args : Array Value) (w : World), (callFunc k args).run Try.prog w = .ok (.enter k args) w

theorem rows_two (h : Array Obj) (X Y : Obj) : ((h.push X).push Y)[h.size]? = some X ∧ ((h.push X).push Y)[h.size + 1]? = some Y := by
  constructor
  · rw [Array.getElem?_push, if_neg (by simp)]; simp
  · rw [Array.getElem?_push, if_pos (by simp)]

/-- what Run leaves behind -/
def RunPost (B : Nat) (Ret : World → Prop) (Pan : Int → World → Prop) (e : Ending) (w'' : World) : Prop :=
  ∃ w', Below B w' w'' ∧ ((e = .returned (.tuple #[crash 0, .bool false]) ∧ Ret w') ∨ ∃ op, e = .returned (.tuple #[crash op, .bool true]) ∧ Pan op w')
/-- what is asked of the function that Run calls, in the world w1 -/
def RunPre (B : Nat) (w1 : World) (Ret : World → Prop) (Pan : Int → World → Prop) (e : Ending) (w' : World) : Prop :=
  (∀ b, B ≤ b → b < w1.heap.size → w'.heap[b]? = w1.heap[b]?) ∧ w1.heap.size ≤ w'.heap.size ∧ ((e = .returned (.tuple #[]) ∧ Ret w') ∨ ∃ op, e = .panicked [{ v := crashI op, recovered := false }] ∧ Pan op w')

set_option maxHeartbeats 1000000 in
set_option maxRecDepth 100000 in
theorem guardRun (k : FuncId) (caps : Array Value) (hk : FnOk k) (w : World) (Ret : World → Prop) (Pan : Int → World → Prop)
    (h : ∀ w1, Below w.heap.size w w1 → Calls Try.prog k caps w1 (RunPre w.heap.size w1 Ret Pan)) :
    Calls Try.prog 14 #[.func (.func k) #[] caps] w (RunPost w.heap.size Ret Pan) := by
  have hmf : ∀ (fn : Fn) (first cap : Array Value) (w : World), (Instr.makeFunc fn first cap).run Try.prog w = .ok (.func fn first cap) w := fun _ _ _ _ => rfl
  have hfn := func_nil
  have H := Lib.hid h
  have hkk : ∀ (args : Array Value) (w : World), (callFunc k args).run Try.prog w = .ok (.enter k args) w := hk
  clear hk
  clear h
  go_enter_defers Try.func14, Try.ntmps14
  go_wp2_with (fail)
  have hr := rows_two w.heap (.cells #[.int .i64 0] 24) (.cells #[.bool false] 4)
  have hb1 : Below w.heap.size w ((w.alloc (.cells #[.int .i64 0] 24)).alloc (.cells #[.bool false] 4)) := ((Below.refl _ w).alloc (Nat.le_refl _) _).alloc (by simp) _
  have hr1 : ((w.alloc (.cells #[.int .i64 0] 24)).alloc (.cells #[.bool false] 4)).heap[w.heap.size]? = some (.cells #[.int .i64 0] 24) := hr.1
  have hr2 : ((w.alloc (.cells #[.int .i64 0] 24)).alloc (.cells #[.bool false] 4)).heap[w.heap.size + 1]? = some (.cells #[.bool false] 4) := hr.2
  have hs1 : ((w.alloc (.cells #[.int .i64 0] 24)).alloc (.cells #[.bool false] 4)).heap.size = w.heap.size + 2 := by simp
  clear hr
  have HK := H.out _ hb1
  clear H hb1
  generalize (w.alloc (.cells #[.int .i64 0] 24)).alloc (.cells #[.bool false] 4) = w1 at *
  obtain ⟨B, hB⟩ : ∃ B, B = w.heap.size := ⟨_, rfl⟩
  rw [← hB] at hr1 hr2 hs1 HK ⊢
  have HBB := Lib.hid hB
  clear hB
  refine HK.mono ?_
  rintro e w2 ⟨hkeep, hsz, hcase⟩
  have rC : w2.heap[B]? = some (.cells #[.int .i64 0] 24) := by rw [hkeep B (Nat.le_refl _) (by omega)]; exact hr1
  have rG : w2.heap[B + 1]? = some (.cells #[.bool false] 4) := by rw [hkeep (B + 1) (by omega) (by omega)]; exact hr2
  have HS := Lib.hid hsz
  clear hkeep hr1 hr2 hs1 hsz HK
  rcases hcase with ⟨rfl, hRet⟩ | ⟨op, rfl, hPan⟩
  · have HR := Lib.hid hRet
    clear hRet
    have c1 := cell_of_row w2 B 0 _ _ _ rC
    have c2 := cell_of_row w2 (B + 1) 0 _ _ _ rG
    simp only [List.getElem?_toArray, List.getElem?_cons_zero] at c1 c2
    have f1 : w2.frozen? ⟨B, 0, none⟩ = false := by simp [World.frozen?, rC]
    have f2 : w2.frozen? ⟨B + 1, 0, none⟩ = false := by simp [World.frozen?, rG]
    have L1 := Lib.hid rC
    have L2 := Lib.hid rG
    clear rC rG
    go_wp2_with (fail)
    clear c1 c2 f1 f2
    have R2 : ((w2.setCell ⟨B, 0, none⟩ (.int .i64 0)).setCell ⟨B + 1, 0, none⟩ (.bool false)).heap[B + 1]? = some (.cells #[.bool false] 4) :=
      heap_setCell_same (w2.setCell ⟨B, 0, none⟩ (.int .i64 0)) (B + 1) 0 _ _ _ (by rw [heap_setCell_other _ _ _ _ (by show B + 1 ≠ B; omega)]; exact L2.out)
    have R1 : ((w2.setCell ⟨B, 0, none⟩ (.int .i64 0)).setCell ⟨B + 1, 0, none⟩ (.bool false)).heap[B]? = some (.cells #[.int .i64 0] 24) := by
      rw [heap_setCell_other _ _ _ _ (by show B ≠ B + 1; omega)]
      exact heap_setCell_same _ _ _ _ _ _ L1.out
    have hbb : Below B w2 ((w2.setCell ⟨B, 0, none⟩ (.int .i64 0)).setCell ⟨B + 1, 0, none⟩ (.bool false)) := ((Below.refl B w2).setCell (p := ⟨B, 0, none⟩) (Nat.le_refl _) _).setCell (p := ⟨B + 1, 0, none⟩) (Nat.le_succ _) _
    generalize (w2.setCell ⟨B, 0, none⟩ (.int .i64 0)).setCell ⟨B + 1, 0, none⟩ (.bool false) = w3 at *
    refine leaves_cons (f := 46) (args := #[.pointer (some ⟨B, 0, none⟩), .pointer (some ⟨B + 1, 0, none⟩)]) (by simp) (by simp [go_sem]) ?_
    refine (run1_idle ⟨B, 0, none⟩ ⟨B + 1, 0, none⟩ w3).mono ?_
    rintro e u' w'' ⟨rfl, rfl, rfl⟩
    have c1 := cell_of_row w'' B 0 _ _ _ R1
    have c2 := cell_of_row w'' (B + 1) 0 _ _ _ R2
    simp only [List.getElem?_toArray, List.getElem?_cons_zero] at c1 c2
    have hP : RunPost w.heap.size Ret Pan (.returned (.tuple #[crash 0, .bool false])) w'' := ⟨w2, HBB.out ▸ hbb, .inl ⟨rfl, HR.out⟩⟩
    simp [Leaves, settle, results, Try.results14, go_sem, c1, c2]
    exact hP
  · show Leaves _ _ _ _ _ _ _
    have hne : B ≠ B + 1 := by omega
    refine leaves_cons (f := 46) (args := #[.pointer (some ⟨B, 0, none⟩), .pointer (some ⟨B + 1, 0, none⟩)]) (by simp) (by simp [go_sem]) ?_
    refine (run1_crash B (B + 1) op 0 false [] B (Nat.le_refl _) (Nat.le_succ _) hne w2 rC rG).mono ?_
    rintro e u' w'' ⟨rfl, rfl, hbb, R1, R2⟩
    have c1 := cell_of_row w'' B 0 _ _ _ R1
    have c2 := cell_of_row w'' (B + 1) 0 _ _ _ R2
    simp only [List.getElem?_toArray, List.getElem?_cons_zero] at c1 c2
    have hP : RunPost B Ret Pan (.returned (.tuple #[crash op, .bool true])) w'' := ⟨w2, hbb, .inr ⟨op, rfl, hPan⟩⟩
    simp [Leaves, settle, results, Try.results14, go_sem, c1, c2]
    exact hP
end Go.Proofs.Ytikobhbknnlgbaa
