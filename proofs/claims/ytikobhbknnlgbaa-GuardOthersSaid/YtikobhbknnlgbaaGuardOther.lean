/- Layer 3: Run, Do and Row of a function that panics with what is no crash. -/
import Derived.Test.YtikobhbknnlgbaaGuardMeets
import Derived.Test.YtikobhbknnlgbaaGuard2
import Derived.Conc.MuLone
namespace Go.Proofs.Ytikobhbknnlgbaa
open Go.RowKit

set_option maxRecDepth 100000 in
theorem funcE_someO (fn : Fn) (first cap : Array Value) (w : World) : (binOp .eql 30 (.func fn first cap) .nilFunc).run Try.prog w = .ok (.bool false) w := by
  first
  | rfl
  | simp [binOp, go_sem, run_underlying Try.underlying30]
theorem rows_threeO (h : Array Obj) (X Y Z : Obj) : (((h.push X).push Y).push Z)[h.size]? = some X ∧ (((h.push X).push Y).push Z)[h.size + 1]? = some Y ∧ (((h.push X).push Y).push Z)[h.size + 2]? = some Z := by
  refine ⟨?_, ?_, ?_⟩
  · rw [Array.getElem?_push, if_neg (by simp; omega)]; exact (rows_two h X Y).1
  · rw [Array.getElem?_push, if_neg (by simp)]; exact (rows_two h X Y).2
  · rw [Array.getElem?_push, if_pos (by simp)]
set_option maxHeartbeats 1000000 in
/-- Run's deferred function, of a frame that panics with what is no crash -/
theorem run1_other (C G : Nat) (t : TypeId) (v : Value) (ht : t ≠ 24) (x : Int) (y : Bool) (older : List PanicEntry) (B : Nat) (hC : B ≤ C) (hG : B ≤ G) (hne : C ≠ G) (w : World) (rC : w.heap[C]? = some (.cells #[.int .i64 x] 24)) (rG : w.heap[G]? = some (.cells #[.bool y] 4)) :
    CallsD Try.prog 46 #[.pointer (some ⟨C, 0, none⟩), .pointer (some ⟨G, 0, none⟩)] (.panicking ({ v := .iface t v, recovered := false } :: older)) w fun e u' w' =>
      e = .panicked [{ v := .iface t v, recovered := false }] ∧ u' = .panicking ({ v := .iface t v, recovered := true } :: older) ∧ Below B w w' := by
  have hl1 : C < w.heap.size := (Array.getElem?_eq_some_iff.1 rC).1
  have hl2 : G < w.heap.size := (Array.getElem?_eq_some_iff.1 rG).1
  refine callsD_of_wpS Try.func46 rfl fun c₀ cs hu => ?_
  apply wpS_seq
  apply wpS_region
  simp [wpOpsS, go_sem, recoverD, hu, Try.ntmps46, Exit.thenS]
  rw [tm37]
  refine wpS_of_wp ?_
  go_wp2_with (fail)
  refine (guardLost_no t v ht w).mono ?_
  rintro e w1 ⟨rfl, hb1⟩
  have r1 : w1.heap[C]? = some (.cells #[.int .i64 x] 24) := by rw [hb1.block _ hl1]; exact rC
  have r2 : w1.heap[G]? = some (.cells #[.bool y] 4) := by rw [hb1.block _ hl2]; exact rG
  have c1 := cell_of_row w1 C 0 _ _ _ r1
  have c2 := cell_of_row w1 G 0 _ _ _ r2
  simp only [List.getElem?_toArray, List.getElem?_cons_zero] at c1 c2
  have f1 : w1.frozen? ⟨C, 0, none⟩ = false := by simp [World.frozen?, r1]
  have f2 : w1.frozen? ⟨G, 0, none⟩ = false := by simp [World.frozen?, r2]
  have hne' : G ≠ C := fun h => hne h.symm
  have r3 : ((w1.setCell ⟨C, 0, none⟩ (.int .i64 0)).setCell ⟨G, 0, none⟩ (.bool false)).heap[G]? = some (.cells #[.bool false] 4) := heap_setCell_same (w1.setCell ⟨C, 0, none⟩ (.int .i64 0)) G 0 _ _ _ (by rw [heap_setCell_other _ _ _ _ (by show G ≠ C; exact hne')]; exact r2)
  have c3 := cell_of_row _ G 0 _ _ _ r3
  simp only [List.getElem?_toArray, List.getElem?_cons_zero] at c3
  have L5 := Lib.hid hb1
  have L6 := Lib.hid hl1
  clear rC rG r1 r2 r3 hb1 hu hl1 hl2
  go_wp2_with (fail)
  have hb : Below B w w1 := ⟨L5.out.os, L5.out.tape, L5.out.output, L5.out.size, fun k hk => L5.out.block k (Nat.lt_of_lt_of_le (Nat.lt_of_lt_of_le hk hC) (Nat.le_of_lt L6.out))⟩
  have hb2 := (hb.setCell (p := ⟨C, 0, none⟩) hC (.int .i64 0)).setCell (p := ⟨G, 0, none⟩) hG (.bool false)
  simp [bodyPostS]
  exact hb2
/-- a call that panics with what is no crash, and makes memory at most -/
def Thr (t : TypeId) (v : Value) (w : World) (e : Ending) (w' : World) : Prop := ∃ older : List PanicEntry, e = .panicked ({ v := .iface t v, recovered := false } :: older) ∧ Below w.heap.size w w' ∧ older.dropWhile (fun x => !x.goexit) = []
theorem Thr.pre {t : TypeId} {v : Value} {w w1 w' : World} {e : Ending} (hb : Below w.heap.size w w1) (h : Thr t v w1 e w') : Thr t v w e w' := by
  obtain ⟨o, he, h, ho⟩ := h
  exact ⟨o, he, hb.trans (h.mono hb.size), ho⟩
set_option maxHeartbeats 1000000 in
set_option maxRecDepth 100000 in
theorem guardRunO (k : FuncId) (caps : Array Value) (hk : FnOk k) (t : TypeId) (v : Value) (ht : t ≠ 24) (w : World)
    (h : ∀ w1, Below w.heap.size w w1 → Calls Try.prog k caps w1 (Thr t v w1)) :
    Calls Try.prog 14 #[.func (.func k) #[] caps] w (Thr t v w) := by
  have hmf : ∀ (fn : Fn) (first cap : Array Value) (w : World), (Instr.makeFunc fn first cap).run Try.prog w = .ok (.func fn first cap) w := fun _ _ _ _ => rfl
  have hfn := func_nil
  have H := Lib.hid h
  have hkk : ∀ (args : Array Value) (w : World), (callFunc k args).run Try.prog w = .ok (.enter k args) w := hk
  clear hk
  clear h
  go_enter_defers Try.func14, Try.ntmps14
  go_wp2_with (fail)
  have hr := rows_two w.heap (.cells #[.int .i64 0] 24) (.cells #[.bool false] 4)
  have hb1 : Below w.heap.size w ((w.alloc (.cells #[.int .i64 0] 24)).alloc (.cells #[.bool false] 4)) := ((Below.refl _ w).alloc (Nat.le_refl _) _).alloc (by simp) _
  have hr1 : ((w.alloc (.cells #[.int .i64 0] 24)).alloc (.cells #[.bool false] 4)).heap[w.heap.size]? = some (.cells #[.int .i64 0] 24) := hr.1
  have hr2 : ((w.alloc (.cells #[.int .i64 0] 24)).alloc (.cells #[.bool false] 4)).heap[w.heap.size + 1]? = some (.cells #[.bool false] 4) := hr.2
  have hs1 : ((w.alloc (.cells #[.int .i64 0] 24)).alloc (.cells #[.bool false] 4)).heap.size = w.heap.size + 2 := by simp
  clear hr
  have HK := H.out _ hb1
  have HB1 := Lib.hid hb1
  clear H hb1
  generalize (w.alloc (.cells #[.int .i64 0] 24)).alloc (.cells #[.bool false] 4) = w1 at *
  obtain ⟨B, hB⟩ : ∃ B, B = w.heap.size := ⟨_, rfl⟩
  rw [← hB] at hr1 hr2 hs1 HB1 ⊢
  have HBB := Lib.hid hB
  clear hB
  refine HK.mono ?_
  rintro e w2 ⟨older, rfl, hb2, hol⟩
  have rC : w2.heap[B]? = some (.cells #[.int .i64 0] 24) := by rw [hb2.block B (by omega)]; exact hr1
  have rG : w2.heap[B + 1]? = some (.cells #[.bool false] 4) := by rw [hb2.block (B + 1) (by omega)]; exact hr2
  have HB2 : Hid (Below B w w2) := Lib.hid (HB1.out.trans (hb2.mono (by omega)))
  clear hr1 hr2 hs1 HK hb2
  show Leaves _ _ _ _ _ _ _
  have hne : B ≠ B + 1 := by omega
  refine leaves_cons (f := 46) (args := #[.pointer (some ⟨B, 0, none⟩), .pointer (some ⟨B + 1, 0, none⟩)]) (by simp) (by simp [go_sem]) ?_
  refine (run1_other B (B + 1) t v ht 0 false older B (Nat.le_refl _) (Nat.le_succ _) hne w2 rC rG).mono ?_
  rintro e u' w'' ⟨rfl, rfl, hbb⟩
  have hbw : Below w.heap.size w w'' := HBB.out ▸ (HB2.out.trans hbb)
  simp [Leaves, raised]
  exact ⟨_, rfl, hbw, by simp [hol]⟩
set_option maxHeartbeats 1000000 in
set_option maxRecDepth 100000 in
/-- what such a call panics with -/
theorem meetsO (k : FuncId) (caps : Array Value) (hk : FnOk k) (t : TypeId) (v : Value) (w : World)
    (h : ∀ w1, Below w.heap.size w w1 → Calls Try.prog k caps w1 (Thr t v w1)) :
    Calls Try.prog 28 #[.func (.func k) #[] caps] w fun e w' => e = .returned (.iface t v) ∧ Below w.heap.size w w' := by
  have hmf : ∀ (fn : Fn) (first cap : Array Value) (w : World), (Instr.makeFunc fn first cap).run Try.prog w = .ok (.func fn first cap) w := fun _ _ _ _ => rfl
  have H := Lib.hid h
  have hkk : ∀ (args : Array Value) (w : World), (callFunc k args).run Try.prog w = .ok (.enter k args) w := hk
  clear hk
  clear h
  go_enter_defers Try.func28, Try.ntmps28
  go_wp2_with (fail)
  have hr1 := heap_alloc_new w (.cells #[.nilIface] 20)
  have hb1 : Below w.heap.size w (w.alloc (.cells #[.nilIface] 20)) := (Below.refl _ w).alloc (Nat.le_refl _) _
  have hs1 : (w.alloc (.cells #[.nilIface] 20)).heap.size = w.heap.size + 1 := by simp
  have HK := H.out _ hb1
  have HB1 := Lib.hid hb1
  clear H hb1
  generalize w.alloc (.cells #[.nilIface] 20) = w1 at *
  obtain ⟨B, hB⟩ : ∃ B, B = w.heap.size := ⟨_, rfl⟩
  rw [← hB] at hr1 hs1 HB1 ⊢
  have HBB := Lib.hid hB
  clear hB
  refine HK.mono ?_
  rintro e w2 ⟨older, rfl, hb2, hol⟩
  have rC : w2.heap[B]? = some (.cells #[.nilIface] 20) := by rw [hb2.block B (by omega)]; exact hr1
  have HB2 : Hid (Below B w w2) := Lib.hid (HB1.out.trans (hb2.mono (by omega)))
  clear hr1 hs1 HK hb2
  have L1 := Lib.hid rC
  clear rC
  show Leaves _ _ _ _ _ _ _
  refine leaves_cons (f := 48) (args := #[.pointer (some ⟨B, 0, none⟩)]) (by simp) (by simp [go_sem]) ?_
  refine (meets1_panic B t v .nilIface older w2 L1.out).mono ?_
  rintro e u' w'' ⟨rfl, rfl, rfl⟩
  have R2 : (w2.setCell ⟨B, 0, none⟩ (.iface t v)).heap[B]? = some (.cells #[.iface t v] 20) := heap_setCell_same _ _ _ _ _ _ L1.out
  have hbb2 : Below B w (w2.setCell ⟨B, 0, none⟩ (.iface t v)) := HB2.out.setCell (p := ⟨B, 0, none⟩) (Nat.le_refl _) _
  generalize w2.setCell ⟨B, 0, none⟩ (.iface t v) = w4 at *
  have c2 := cell_of_row w4 B 0 _ _ _ R2
  simp only [List.getElem?_toArray, List.getElem?_cons_zero] at c2
  have hP : (fun (e : Ending) w' => e = .returned (.iface t v) ∧ Below B w w') (.returned (.iface t v)) w4 := ⟨rfl, hbb2⟩
  simp [Leaves, settle, results, Try.results28, go_sem, c2, hol]
  exact HBB.out ▸ hP.2
section
variable {t : TypeId} {v : Value} (w : World)
theorem ok1O : FnOk 22 := fun args w => Go.MuLone.run_callFunc_enter Try.func22 (by kernel_rfl) rfl args w
theorem ok2O : FnOk 23 := fun args w => Go.MuLone.run_callFunc_enter Try.func23 (by kernel_rfl) rfl args w
theorem ok3O : FnOk 24 := fun args w => Go.MuLone.run_callFunc_enter Try.func24 (by kernel_rfl) rfl args w
theorem ok31O : FnOk 25 := fun args w => Go.MuLone.run_callFunc_enter Try.func25 (by kernel_rfl) rfl args w
theorem ok4O : FnOk 26 := fun args w => Go.MuLone.run_callFunc_enter Try.func26 (by kernel_rfl) rfl args w
theorem okD1O : FnOk 47 := fun args w => Go.MuLone.run_callFunc_enter Try.func47 (by kernel_rfl) rfl args w
/-- 'func() { panic(x) }' -/
theorem thr1 (X : Nat) (hX : w.heap[X]? = some (.cells #[.iface t v] 20)) : Calls Try.prog 22 #[.pointer (some ⟨X, 0, none⟩)] w (Thr t v w) := by
  have c := cell_of_row w X 0 _ _ _ hX
  simp only [List.getElem?_toArray, List.getElem?_cons_zero] at c
  clear hX
  go_enter Try.func22, Try.ntmps22
  go_wp2_with (fail)
  exact ⟨rfl, [], rfl, Below.refl _ _, rfl⟩
/-- the function value that is boxed -/
abbrev fnO (X : Nat) : Value := .func (.func 22) #[] #[.pointer (some ⟨X, 0, none⟩)]
theorem thr2 (ht : t ≠ 24) (X Y : Nat) (hX : w.heap[X]? = some (.cells #[.iface t v] 20)) (hY : w.heap[Y]? = some (.cells #[fnO X] 1)) : Calls Try.prog 23 #[.pointer (some ⟨Y, 0, none⟩)] w (Thr t v w) := by
  have c := cell_of_row w Y 0 _ _ _ hY
  simp only [List.getElem?_toArray, List.getElem?_cons_zero] at c
  have HR := Lib.hid (guardRunO 22 #[.pointer (some ⟨X, 0, none⟩)] ok1O t v ht w (fun w1 hb => thr1 w1 X ((hb.block X (Array.getElem?_eq_some_iff.1 hX).1).trans hX)))
  clear hX hY
  go_enter Try.func23, Try.ntmps23
  go_wp2_with (fail)
  refine HR.out.mono ?_
  rintro e w2 ⟨older, rfl, hb2, hol⟩
  exact ⟨rfl, older, rfl, hb2, hol⟩
theorem thr31 (X Y : Nat) (hX : w.heap[X]? = some (.cells #[.iface t v] 20)) (hY : w.heap[Y]? = some (.cells #[fnO X] 1)) : Calls Try.prog 25 #[.pointer (some ⟨Y, 0, none⟩)] w (Thr t v w) := by
  have c := cell_of_row w Y 0 _ _ _ hY
  simp only [List.getElem?_toArray, List.getElem?_cons_zero] at c
  have hkk : ∀ (args : Array Value) (w : World), (callFunc 22 args).run Try.prog w = .ok (.enter 22 args) w := ok1O
  have HR := Lib.hid (thr1 w X hX)
  clear hX hY
  go_enter Try.func25, Try.ntmps25
  go_wp2_with (fail)
  refine HR.out.mono ?_
  rintro e w2 ⟨older, rfl, hb2, hol⟩
  exact ⟨rfl, older, rfl, hb2, hol⟩
/-- the function that Do hands to Run -/
theorem thrD1 (X Y P Q : Nat) (hX : w.heap[X]? = some (.cells #[.iface t v] 20)) (hY : w.heap[Y]? = some (.cells #[fnO X] 1)) (hP : w.heap[P]? = some (.cells #[.func (.func 25) #[] #[.pointer (some ⟨Y, 0, none⟩)]] 30)) :
    Calls Try.prog 47 #[.pointer (some ⟨P, 0, none⟩), .pointer (some ⟨Q, 0, none⟩)] w (Thr t v w) := by
  have c := cell_of_row w P 0 _ _ _ hP
  simp only [List.getElem?_toArray, List.getElem?_cons_zero] at c
  have hkk : ∀ (args : Array Value) (w : World), (callFunc 25 args).run Try.prog w = .ok (.enter 25 args) w := ok31O
  have HR := Lib.hid (thr31 w X Y hX hY)
  clear hX hY hP
  go_enter Try.func47, Try.ntmps47
  go_wp2_with (fail)
  refine HR.out.mono ?_
  rintro e w2 ⟨older, rfl, hb2, hol⟩
  exact ⟨rfl, older, rfl, hb2, hol⟩
set_option maxHeartbeats 2000000 in
set_option maxRecDepth 100000 in
/-- Do of it -/
theorem thrDo (ht : t ≠ 24) (X Y : Nat) (hX : w.heap[X]? = some (.cells #[.iface t v] 20)) (hY : w.heap[Y]? = some (.cells #[fnO X] 1)) :
    Calls Try.prog 15 #[.func (.func 25) #[] #[.pointer (some ⟨Y, 0, none⟩)]] w (Thr t v w) := by
  have hmf : ∀ (fn : Fn) (first cap : Array Value) (w : World), (Instr.makeFunc fn first cap).run Try.prog w = .ok (.func fn first cap) w := fun _ _ _ _ => rfl
  have hfs := funcE_someO
  have HX := Lib.hid hX
  have HY := Lib.hid hY
  clear hX hY
  go_enter Try.func15, Try.ntmps15
  go_wp2_with (fail)
  have h3 := rows_threeO w.heap (.cells #[.func (.func 25) #[] #[.pointer (some ⟨Y, 0, none⟩)]] 30) (.cells #[.int .i64 0] 24) (.cells #[.int .i64 0] 27)
  have hb2 : Below w.heap.size w (((w.alloc (.cells #[.func (.func 25) #[] #[.pointer (some ⟨Y, 0, none⟩)]] 30)).alloc (.cells #[.int .i64 0] 24)).alloc (.cells #[.int .i64 0] 27)) := (((Below.refl _ w).alloc (Nat.le_refl _) _).alloc (by simp) _).alloc (by simp; omega) _
  have hr0 : (((w.alloc (.cells #[.func (.func 25) #[] #[.pointer (some ⟨Y, 0, none⟩)]] 30)).alloc (.cells #[.int .i64 0] 24)).alloc (.cells #[.int .i64 0] 27)).heap[w.heap.size]? = _ := h3.1
  have hs2 : (((w.alloc (.cells #[.func (.func 25) #[] #[.pointer (some ⟨Y, 0, none⟩)]] 30)).alloc (.cells #[.int .i64 0] 24)).alloc (.cells #[.int .i64 0] 27)).heap.size = w.heap.size + 3 := by simp
  clear h3
  generalize (((w.alloc (.cells #[.func (.func 25) #[] #[.pointer (some ⟨Y, 0, none⟩)]] 30)).alloc (.cells #[.int .i64 0] 24)).alloc (.cells #[.int .i64 0] 27)) = w2 at *
  refine (guardRunO _ _ okD1O t v ht w2 (fun w3 hb3 => thrD1 w3 X Y w.heap.size _ ((hb3.block X (by have := (Array.getElem?_eq_some_iff.1 HX.out).1; omega)).trans ((hb2.block X (Array.getElem?_eq_some_iff.1 HX.out).1).trans HX.out)) ((hb3.block Y (by have := (Array.getElem?_eq_some_iff.1 HY.out).1; omega)).trans ((hb2.block Y (Array.getElem?_eq_some_iff.1 HY.out).1).trans HY.out)) ((hb3.block _ (by omega)).trans hr0))).mono ?_
  rintro e w4 ⟨older, rfl, hb4, hol⟩
  exact ⟨rfl, older, rfl, hb2.trans (hb4.mono hb2.size), hol⟩
theorem thr3 (ht : t ≠ 24) (X Y : Nat) (hX : w.heap[X]? = some (.cells #[.iface t v] 20)) (hY : w.heap[Y]? = some (.cells #[fnO X] 1)) : Calls Try.prog 24 #[.pointer (some ⟨Y, 0, none⟩)] w (Thr t v w) := by
  have hmf : ∀ (fn : Fn) (first cap : Array Value) (w : World), (Instr.makeFunc fn first cap).run Try.prog w = .ok (.func fn first cap) w := fun _ _ _ _ => rfl
  have HR := Lib.hid (thrDo w ht X Y hX hY)
  clear hX hY
  go_enter Try.func24, Try.ntmps24
  go_wp2_with (fail)
  refine HR.out.mono ?_
  rintro e w2 ⟨older, rfl, hb2, hol⟩
  exact ⟨rfl, older, rfl, hb2, hol⟩
set_option maxHeartbeats 2000000 in
set_option maxRecDepth 100000 in
/-- Row of it and of another one -/
theorem thrRow (ht : t ≠ 24) (X S : Nat) (g : Value) (hX : w.heap[X]? = some (.cells #[.iface t v] 20)) (hS : w.heap[S]? = some (.cells #[fnO X, g] 1)) :
    Calls Try.prog 19 #[.slice (some ⟨S, 0, none⟩) 2 2] w (Thr t v w) := by
  have HX := Lib.hid hX
  have HS := Lib.hid hS
  clear hX hS
  go_enter Try.func19, Try.ntmps19
  go_wp2_with (fail)
  have hb1 : Below w.heap.size w (w.alloc (.cells #[.int .i64 0] 24)) := (Below.refl _ w).alloc (Nat.le_refl _) _
  have HX1 := Lib.hid ((hb1.block X (Array.getElem?_eq_some_iff.1 HX.out).1).trans HX.out)
  have HS1 := Lib.hid ((hb1.block S (Array.getElem?_eq_some_iff.1 HS.out).1).trans HS.out)
  have HB1 := Lib.hid hb1
  clear hb1 HX HS
  generalize w.alloc (.cells #[.int .i64 0] 24) = w1 at *
  go_loopw [11] (fun i wr => i = .int .i64 0 ∧ wr = w1) (fun _ _ => 0)
  case atStart => exact ⟨rfl, rfl⟩
  case round =>
    obtain ⟨rfl, rfl⟩ := hrel
    have c0 := cell_of_row _ S 0 _ _ _ HS1.out
    simp only [List.getElem?_toArray, List.getElem?_cons_zero] at c0
    have e1 : (0 : Int) < 2 := by omega
    go_wp2_with (fail)
    refine (guardRunO 22 #[.pointer (some ⟨X, 0, none⟩)] ok1O t v ht _ (fun w3 hb => thr1 w3 X ((hb.block X (Array.getElem?_eq_some_iff.1 HX1.out).1).trans HX1.out))).mono ?_
    rintro e w4 ⟨older, rfl, hb4, hol⟩
    exact ⟨rfl, older, rfl, HB1.out.trans (hb4.mono HB1.out.size), hol⟩
theorem thr4 (ht : t ≠ 24) (X Y Z : Nat) (hX : w.heap[X]? = some (.cells #[.iface t v] 20)) (hY : w.heap[Y]? = some (.cells #[fnO X] 1)) : Calls Try.prog 26 #[.pointer (some ⟨Y, 0, none⟩), .pointer (some ⟨Z, 0, none⟩)] w (Thr t v w) := by
  have hmf : ∀ (fn : Fn) (first cap : Array Value) (w : World), (Instr.makeFunc fn first cap).run Try.prog w = .ok (.func fn first cap) w := fun _ _ _ _ => rfl
  have c := cell_of_row w Y 0 _ _ _ hY
  simp only [List.getElem?_toArray, List.getElem?_cons_zero] at c
  have HX := Lib.hid hX
  clear hX hY
  go_enter Try.func26, Try.ntmps26
  go_wp2_with (fail)
  refine (thrRow _ ht X w.heap.size _ ((((Below.refl _ w).alloc (Nat.le_refl _) _).block X (Array.getElem?_eq_some_iff.1 HX.out).1).trans HX.out) (heap_alloc_new w _)).mono ?_
  rintro e w4 ⟨older, rfl, hb4, hol⟩
  exact ⟨rfl, older, rfl, ((Below.refl _ w).alloc (Nat.le_refl _) _).trans (hb4.mono (by simp)), hol⟩
end
end Go.Proofs.Ytikobhbknnlgbaa
