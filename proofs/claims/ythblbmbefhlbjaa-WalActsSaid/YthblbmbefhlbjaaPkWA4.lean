/- WalActs: whatever the input, the law's call returns true, and the arguments read afterwards as before. No condition of ours. -/
import Derived.Test.YthblbmbefhlbjaaPkWA3
import Derived.Tactics
import Derived.Tactics2
import Derived.Defers
import Derived.Recover
import Derived.Laws.Pointers
import Derived.RegionTactic
import Derived.Conc.MuLone
import Derived.BigQuiet

/- Laid together: GuardG, Guard2G, GuardRunG, GuardSG, GuardDoSG. -/

/- Layer 3: a crash, lost and told; what Run defers. -/
namespace Go.Proofs.Ythblbmbefhlbjaa
open Go.RowKit

theorem assert_yesG (v : Value) (w : World) : (Instr.typeAssert (.iface 49 v) 20 49 true).run Try.prog w = .ok (.tuple #[v, .bool true]) w := by
  simp [Instr.typeAssert, go_sem, run_underlying Try.underlying49]

end Go.Proofs.Ythblbmbefhlbjaa

/- Layer 3: what Run defers. -/
namespace Go.Proofs.Ythblbmbefhlbjaa
open Go.RowKit

set_option maxRecDepth 100000 in
theorem guardLost_yes (op : Int) (w : World) : Calls Try.prog 71 #[crashI op] w fun e w' => e = .returned (.tuple #[crash op, .bool true]) ∧ Below w.heap.size w w' := by
  have hta := assert_yesG (crash op)
  go_enter Try.func71, Try.ntmps71
  go_wp2
  exact bodyPost_ret (v := .tuple #[crash op, .bool true]) (by simp [results, Try.results71, go_sem]) rfl ⟨rfl, ((Below.refl _ w).alloc (Nat.le_refl _) _).alloc (by simp) _⟩

theorem tm37 (P Q v : Value) : (#[P, Q] ++ ((Array.replicate 12 undef).setIfInBounds 1 v).setIfInBounds 0 v) = #[P, Q, v, v, undef, undef, undef, undef, undef, undef, undef, undef, undef, undef] := rfl

/-- Run's deferred function, of a frame that returns -/
theorem run1_idle (p q : Addr) (w : World) :
    CallsD Try.prog 70 #[.pointer (some p), .pointer (some q)] .returning w fun e u' w' => e = .returned (.tuple #[]) ∧ u' = .returning ∧ w' = w := by
  refine callsD_of_wpS Try.func70 rfl fun c₀ cs hu => ?_
  apply wpS_seq
  apply wpS_region
  simp [wpOpsS, go_sem, recoverD, hu, Try.ntmps70, Exit.thenS]
  rw [tm37]
  refine wpS_of_wp ?_
  go_wp2_with (fail)
  cases c₀
  simp_all [bodyPostS, results, Try.results70]

end Go.Proofs.Ythblbmbefhlbjaa

/- Layer 3: Run of any function. -/
namespace Go.Proofs.Ythblbmbefhlbjaa
open Go.RowKit

set_option maxRecDepth 100000 in
theorem func_nil (fn : Fn) (first cap : Array Value) (w : World) : (binOp .eql 1 (.func fn first cap) .nilFunc).run Try.prog w = .ok (.bool false) w := by
  first
  | rfl
  | simp [binOp, go_sem, run_underlying Try.underlying1]
/-- a function that is entered as it stands -/
def FnOkG (k : FuncId) : Prop := ∀ (args : Array Value) (w : World), (callFunc k args).run Try.prog w = .ok (.enter k args) w

theorem rows_twoG (h : Array Obj) (X Y : Obj) : ((h.push X).push Y)[h.size]? = some X ∧ ((h.push X).push Y)[h.size + 1]? = some Y := by
  constructor
  · rw [Array.getElem?_push, if_neg (by simp)]; simp
  · rw [Array.getElem?_push, if_pos (by simp)]

/-- what is asked of the function that Run calls, in the world w1 -/
def RunPre (B : Nat) (w1 : World) (Ret : World → Prop) (Pan : Int → World → Prop) (e : Ending) (w' : World) : Prop :=
  (∀ b, B ≤ b → b < w1.heap.size → w'.heap[b]? = w1.heap[b]?) ∧ w1.heap.size ≤ w'.heap.size ∧ ((e = .returned (.tuple #[]) ∧ Ret w') ∨ ∃ op, e = .panicked [{ v := crashI op, recovered := false }] ∧ Pan op w')

end Go.Proofs.Ythblbmbefhlbjaa

/- Layer 3: Run and Do of any function, with the blocks that change behind it. -/
namespace Go.Proofs.Ythblbmbefhlbjaa
open Go.RowKit

set_option maxHeartbeats 1000000 in
/-- Run's deferred function, of a frame that panics with a crash -/
theorem run1_crashS (C G : Nat) (op x : Int) (y : Bool) (older : List PanicEntry) (hne : C ≠ G) (w : World) (rC : w.heap[C]? = some (.cells #[.int .i64 x] 49)) (rG : w.heap[G]? = some (.cells #[.bool y] 4)) :
    CallsD Try.prog 70 #[.pointer (some ⟨C, 0, none⟩), .pointer (some ⟨G, 0, none⟩)] (.panicking ({ v := crashI op, recovered := false } :: older)) w fun e u' w' =>
      e = .returned (.tuple #[]) ∧ u' = .panicking ({ v := crashI op, recovered := true } :: older) ∧ Ch (fun k => k = C ∨ k = G) w w' ∧ w'.heap[C]? = some (.cells #[.int .i64 op] 49) ∧ w'.heap[G]? = some (.cells #[.bool true] 4) := by
  have hl1 : C < w.heap.size := (Array.getElem?_eq_some_iff.1 rC).1
  have hl2 : G < w.heap.size := (Array.getElem?_eq_some_iff.1 rG).1
  refine callsD_of_wpS Try.func70 rfl fun c₀ cs hu => ?_
  apply wpS_seq
  apply wpS_region
  simp [wpOpsS, go_sem, recoverD, hu, Try.ntmps70, Exit.thenS]
  rw [tm37]
  refine wpS_of_wp ?_
  go_wp2_with (fail)
  refine (guardLost_yes op w).mono ?_
  rintro e w1 ⟨rfl, hb1⟩
  have r1 : w1.heap[C]? = some (.cells #[.int .i64 x] 49) := by rw [hb1.block _ hl1]; exact rC
  have r2 : w1.heap[G]? = some (.cells #[.bool y] 4) := by rw [hb1.block _ hl2]; exact rG
  have c1 := cell_of_row w1 C 0 _ _ _ r1
  have c2 := cell_of_row w1 G 0 _ _ _ r2
  simp only [List.getElem?_toArray, List.getElem?_cons_zero] at c1 c2
  have f1 : w1.frozen? ⟨C, 0, none⟩ = false := by simp [World.frozen?, r1]
  have f2 : w1.frozen? ⟨G, 0, none⟩ = false := by simp [World.frozen?, r2]
  have hne' : G ≠ C := fun h => hne h.symm
  have L1 := Lib.hid rC
  have L2 := Lib.hid rG
  have L3 := Lib.hid r1
  have L4 := Lib.hid r2
  have L5 := Lib.hid hb1
  have L6 := Lib.hid hl1
  clear rC rG r1 r2 hb1 hu hl1 hl2
  go_wp2_with (fail)
  refine ⟨rfl, _, rfl, _, by simp [results, Try.results70], rfl, rfl, ?_, ?_, ?_⟩
  · exact ((Ch.of_below (S := fun k => k = C ∨ k = G) L5.out).set (a := ⟨C, 0, none⟩) (.inl rfl) _).set (a := ⟨G, 0, none⟩) (.inr rfl) _
  · rw [heap_setCell_other _ _ _ _ (by show C ≠ G; exact hne)]
    exact heap_setCell_same _ _ _ _ _ _ L3.out
  · exact heap_setCell_same (w1.setCell ⟨C, 0, none⟩ (.int .i64 op)) G 0 _ _ _ (by rw [heap_setCell_other _ _ _ _ (by show G ≠ C; exact fun h => hne h.symm)]; exact L4.out)
/-- what Run leaves behind: its callee was entered in w1, ended in w', and behind that only what Run made is written -/
def RunPostS (W : World) (B : Nat) (Ret : World → World → Prop) (Pan : Int → World → World → Prop) (e : Ending) (w'' : World) : Prop :=
  ∃ w1 w', Below B W w1 ∧ w1.heap.size ≤ w'.heap.size ∧ Ch (fun k => B ≤ k ∧ k < w1.heap.size) w' w'' ∧ ((e = .returned (.tuple #[crash 0, .bool false]) ∧ Ret w1 w') ∨ ∃ op, e = .returned (.tuple #[crash op, .bool true]) ∧ Pan op w1 w')

set_option maxHeartbeats 1000000 in
set_option maxRecDepth 100000 in
theorem guardRunS (k : FuncId) (caps : Array Value) (hk : FnOkG k) (w : World) (Ret : World → World → Prop) (Pan : Int → World → World → Prop)
    (h : ∀ w1, Below w.heap.size w w1 → Calls Try.prog k caps w1 (RunPre w.heap.size w1 (Ret w1) (fun op => Pan op w1))) :
    Calls Try.prog 46 #[.func (.func k) #[] caps] w (RunPostS w w.heap.size Ret Pan) := by
  have hmf : ∀ (fn : Fn) (first cap : Array Value) (w : World), (Instr.makeFunc fn first cap).run Try.prog w = .ok (.func fn first cap) w := fun _ _ _ _ => rfl
  have hfn := func_nil
  have H := Lib.hid h
  have hkk : ∀ (args : Array Value) (w : World), (callFunc k args).run Try.prog w = .ok (.enter k args) w := hk
  clear hk
  clear h
  go_enter_defers Try.func46, Try.ntmps46
  go_wp2_with (fail)
  have hr := rows_twoG w.heap (.cells #[.int .i64 0] 49) (.cells #[.bool false] 4)
  have hb1 : Below w.heap.size w ((w.alloc (.cells #[.int .i64 0] 49)).alloc (.cells #[.bool false] 4)) := ((Below.refl _ w).alloc (Nat.le_refl _) _).alloc (by simp) _
  have hr1 : ((w.alloc (.cells #[.int .i64 0] 49)).alloc (.cells #[.bool false] 4)).heap[w.heap.size]? = some (.cells #[.int .i64 0] 49) := hr.1
  have hr2 : ((w.alloc (.cells #[.int .i64 0] 49)).alloc (.cells #[.bool false] 4)).heap[w.heap.size + 1]? = some (.cells #[.bool false] 4) := hr.2
  have hs1 : ((w.alloc (.cells #[.int .i64 0] 49)).alloc (.cells #[.bool false] 4)).heap.size = w.heap.size + 2 := by simp
  clear hr
  have HK := H.out _ hb1
  clear H
  generalize (w.alloc (.cells #[.int .i64 0] 49)).alloc (.cells #[.bool false] 4) = w1 at *
  obtain ⟨B, hB⟩ : ∃ B, B = w.heap.size := ⟨_, rfl⟩
  rw [← hB] at hr1 hr2 hs1 HK hb1 ⊢
  have HB1 := Lib.hid hb1
  have HS1 := Lib.hid hs1
  clear hb1
  have HBB := Lib.hid hB
  clear hB
  refine HK.mono ?_
  rintro e w2 ⟨hkeep, hsz, hcase⟩
  have rC : w2.heap[B]? = some (.cells #[.int .i64 0] 49) := by rw [hkeep B (Nat.le_refl _) (by omega)]; exact hr1
  have rG : w2.heap[B + 1]? = some (.cells #[.bool false] 4) := by rw [hkeep (B + 1) (by omega) (by omega)]; exact hr2
  have HS := Lib.hid hsz
  clear hkeep hr1 hr2 hs1 hsz HK
  rcases hcase with ⟨rfl, hRet⟩ | ⟨op, rfl, hPan⟩
  · have HR := Lib.hid hRet
    clear hRet
    have c1 := cell_of_row w2 B 0 _ _ _ rC
    have c2 := cell_of_row w2 (B + 1) 0 _ _ _ rG
    simp only [List.getElem?_toArray, List.getElem?_cons_zero] at c1 c2
    have f1 : w2.frozen? ⟨B, 0, none⟩ = false := by simp [World.frozen?, rC]
    have f2 : w2.frozen? ⟨B + 1, 0, none⟩ = false := by simp [World.frozen?, rG]
    have L1 := Lib.hid rC
    have L2 := Lib.hid rG
    clear rC rG
    go_wp2_with (fail)
    clear c1 c2 f1 f2
    have R2 : ((w2.setCell ⟨B, 0, none⟩ (.int .i64 0)).setCell ⟨B + 1, 0, none⟩ (.bool false)).heap[B + 1]? = some (.cells #[.bool false] 4) :=
      heap_setCell_same (w2.setCell ⟨B, 0, none⟩ (.int .i64 0)) (B + 1) 0 _ _ _ (by rw [heap_setCell_other _ _ _ _ (by show B + 1 ≠ B; omega)]; exact L2.out)
    have R1 : ((w2.setCell ⟨B, 0, none⟩ (.int .i64 0)).setCell ⟨B + 1, 0, none⟩ (.bool false)).heap[B]? = some (.cells #[.int .i64 0] 49) := by
      rw [heap_setCell_other _ _ _ _ (by show B ≠ B + 1; omega)]
      exact heap_setCell_same _ _ _ _ _ _ L1.out
    have hbb : Ch (fun k => B ≤ k ∧ k < w1.heap.size) w2 ((w2.setCell ⟨B, 0, none⟩ (.int .i64 0)).setCell ⟨B + 1, 0, none⟩ (.bool false)) := ((Ch.refl _ w2).set (a := ⟨B, 0, none⟩) ⟨Nat.le_refl _, by have := HS1.out; show B < _; omega⟩ _).set (a := ⟨B + 1, 0, none⟩) ⟨by show B ≤ B + 1; omega, by have := HS1.out; show B + 1 < _; omega⟩ _
    generalize (w2.setCell ⟨B, 0, none⟩ (.int .i64 0)).setCell ⟨B + 1, 0, none⟩ (.bool false) = w3 at *
    refine leaves_cons (f := 70) (args := #[.pointer (some ⟨B, 0, none⟩), .pointer (some ⟨B + 1, 0, none⟩)]) (by simp) (by simp [go_sem]) ?_
    refine (run1_idle ⟨B, 0, none⟩ ⟨B + 1, 0, none⟩ w3).mono ?_
    rintro e u' w'' ⟨rfl, rfl, rfl⟩
    have c1 := cell_of_row w'' B 0 _ _ _ R1
    have c2 := cell_of_row w'' (B + 1) 0 _ _ _ R2
    simp only [List.getElem?_toArray, List.getElem?_cons_zero] at c1 c2
    have hP : RunPostS w B Ret Pan (.returned (.tuple #[crash 0, .bool false])) w'' := ⟨w1, w2, HB1.out, HS.out, hbb, .inl ⟨rfl, HR.out⟩⟩
    try rw [HBB.out] at hP
    simp [Leaves, settle, results, Try.results46, go_sem, c1, c2]
    exact hP
  · show Leaves _ _ _ _ _ _ _
    have hne : B ≠ B + 1 := by omega
    refine leaves_cons (f := 70) (args := #[.pointer (some ⟨B, 0, none⟩), .pointer (some ⟨B + 1, 0, none⟩)]) (by simp) (by simp [go_sem]) ?_
    refine (run1_crashS B (B + 1) op 0 false [] hne w2 rC rG).mono ?_
    rintro e u' w'' ⟨rfl, rfl, hbb, R1, R2⟩
    have c1 := cell_of_row w'' B 0 _ _ _ R1
    have c2 := cell_of_row w'' (B + 1) 0 _ _ _ R2
    simp only [List.getElem?_toArray, List.getElem?_cons_zero] at c1 c2
    have hP : RunPostS w B Ret Pan (.returned (.tuple #[crash op, .bool true])) w'' := ⟨w1, w2, HB1.out, HS.out, (Ch.refl _ w2).trans hbb (fun x _ h => by have := HS1.out; rcases h with rfl | rfl <;> exact ⟨by omega, by omega⟩), .inr ⟨op, rfl, hPan⟩⟩
    simp [Leaves, settle, results, Try.results46, go_sem, c1, c2]
    exact hP
end Go.Proofs.Ythblbmbefhlbjaa

/- Layer 3: Do of any function, with the blocks that change behind it. -/
namespace Go.Proofs.Ythblbmbefhlbjaa
open Go.RowKit

set_option maxRecDepth 100000 in
theorem funcE_some (fn : Fn) (first cap : Array Value) (w : World) : (binOp .eql 52 (.func fn first cap) .nilFunc).run Try.prog w = .ok (.bool false) w := by
  first
  | rfl
  | simp [binOp, go_sem, run_underlying Try.underlying52]

/-- a function value that is called -/
def FCallsS (v : Value) (W : World) (R : Ending → World → Prop) : Prop := ∃ (k : FuncId) (caps : Array Value), v = .func (.func k) #[] caps ∧ FnOkG k ∧ Calls Try.prog k caps W R
def DoPreS (B : Nat) (w1 : World) (Ret : Int → World → Prop) (Pan : Int → World → Prop) (e : Ending) (w' : World) : Prop :=
  (∀ b, B ≤ b → b < w1.heap.size → w'.heap[b]? = w1.heap[b]?) ∧ w1.heap.size ≤ w'.heap.size ∧ ((∃ n, e = .returned (.int .i64 n) ∧ Ret n w') ∨ ∃ op, e = .panicked [{ v := crashI op, recovered := false }] ∧ Pan op w')
/-- what Do leaves behind: its callee was entered in w1, ended in w', and behind that only what Do made is written -/
def DoPostS (W : World) (B : Nat) (Ret : Int → World → World → Prop) (Pan : Int → World → World → Prop) (e : Ending) (w'' : World) : Prop :=
  ∃ w1 w', Below B W w1 ∧ w1.heap.size ≤ w'.heap.size ∧ Ch (fun k => B ≤ k ∧ k < w1.heap.size) w' w'' ∧ ((∃ n, e = .returned (.tuple #[.int .i64 n, crash 0, .bool false]) ∧ Ret n w1 w') ∨ ∃ op, e = .returned (.tuple #[.int .i64 0, crash op, .bool true]) ∧ Pan op w1 w')
def Do1PostS (Q : Nat) (C : Nat) (W : World) (Ret : Int → World → Prop) (Pan : Int → World → Prop) (e : Ending) (w' : World) : Prop :=
  (∀ b, C ≤ b → b ≠ Q → b < W.heap.size → w'.heap[b]? = W.heap[b]?) ∧ W.heap.size ≤ w'.heap.size ∧
  ((e = .returned (.tuple #[]) ∧ ∃ n w0, Ret n w0 ∧ W.heap.size ≤ w0.heap.size ∧ Ch (At1 Q) w0 w' ∧ w'.heap[Q]? = some (.cells #[.int .i64 n] 34)) ∨ ∃ op, e = .panicked [{ v := crashI op, recovered := false }] ∧ Pan op w' ∧ w'.heap[Q]? = some (.cells #[.int .i64 0] 34))

theorem okDo1 : FnOkG 47 := fun args w => Go.MuLone.run_callFunc_enter Try.func47 (by kernel_rfl) rfl args w

set_option maxRecDepth 100000 in
theorem guardDo1S (P Q C : Nat) (v : Value) (W : World) (hP : W.heap[P]? = some (.cells #[v] 52)) (hQ : W.heap[Q]? = some (.cells #[.int .i64 0] 34)) (hC : C ≤ Q) (Ret : Int → World → Prop) (Pan : Int → World → Prop)
    (h : FCallsS v W (DoPreS C W Ret Pan)) : Calls Try.prog 47 #[.pointer (some ⟨P, 0, none⟩), .pointer (some ⟨Q, 0, none⟩)] W (Do1PostS Q C W Ret Pan) := by
  obtain ⟨k, caps, rfl, hk, hc⟩ := h
  have hkk : ∀ (args : Array Value) (w : World), (callFunc k args).run Try.prog w = .ok (.enter k args) w := hk
  have c := cell_of_row W P 0 _ _ _ hP
  simp only [List.getElem?_toArray, List.getElem?_cons_zero] at c
  have HQL : Hid (Q < W.heap.size) := Lib.hid (Array.getElem?_eq_some_iff.1 hQ).1
  have HQ := Lib.hid hQ
  have HC := Lib.hid hc
  clear hP hQ hk hc
  go_enter Try.func47, Try.ntmps47
  go_wp2_with (fail)
  refine HC.out.mono ?_
  rintro e w2 ⟨hkeep, hsz, hcase⟩
  have hr : w2.heap[Q]? = some (.cells #[.int .i64 0] 34) := by rw [hkeep Q hC HQL.out]; exact HQ.out
  rcases hcase with ⟨n, rfl, hret⟩ | ⟨op, rfl, hpan⟩
  · have HK := Lib.hid hkeep
    have HSZ := Lib.hid hsz
    have HRT := Lib.hid hret
    have HR := Lib.hid hr
    have c2 := cell_of_row w2 Q 0 _ _ _ hr
    simp only [List.getElem?_toArray, List.getElem?_cons_zero] at c2
    have f2 : w2.frozen? ⟨Q, 0, none⟩ = false := by simp [World.frozen?, hr]
    clear hkeep hsz hret hr c HC
    go_wp2_with (fail)
    go_end0
    refine ⟨fun b hb hne hlt => ?_, by simpa using HSZ.out, .inl ⟨rfl, n, w2, HRT.out, HSZ.out, (Ch.refl _ _).set1 0 _, heap_setCell_same _ _ _ _ _ _ HR.out⟩⟩
    rw [heap_setCell_other _ _ _ _ (by show b ≠ Q; exact hne)]
    exact HK.out b hb hlt
  · exact ⟨rfl, fun b hb hne hlt => hkeep b hb hlt, hsz, .inr ⟨op, rfl, hpan, hr⟩⟩

theorem rows_threeG (h : Array Obj) (X Y Z : Obj) : (((h.push X).push Y).push Z)[h.size]? = some X ∧ (((h.push X).push Y).push Z)[h.size + 1]? = some Y ∧ (((h.push X).push Y).push Z)[h.size + 2]? = some Z := by
  refine ⟨?_, ?_, ?_⟩
  · rw [Array.getElem?_push, if_neg (by simp; omega)]; exact (rows_twoG h X Y).1
  · rw [Array.getElem?_push, if_neg (by simp)]; exact (rows_twoG h X Y).2
  · rw [Array.getElem?_push, if_pos (by simp)]

set_option maxHeartbeats 2000000 in
set_option maxRecDepth 100000 in
theorem guardDoS (v : Value) (w : World) (Ret : Int → World → World → Prop) (Pan : Int → World → World → Prop) (h : ∀ w1, Below w.heap.size w w1 → FCallsS v w1 (DoPreS w.heap.size w1 (fun n => Ret n w1) (fun op => Pan op w1))) :
    Calls Try.prog 22 #[v] w (DoPostS w w.heap.size Ret Pan) := by
  have hmf : ∀ (fn : Fn) (first cap : Array Value) (w : World), (Instr.makeFunc fn first cap).run Try.prog w = .ok (.func fn first cap) w := fun _ _ _ _ => rfl
  obtain ⟨k, caps, rfl, _, _⟩ := h w (Below.refl _ _)
  have hfs := funcE_some
  have H := Lib.hid h
  clear h
  go_enter Try.func22, Try.ntmps22
  go_wp2_with (fail)
  have h3 := rows_threeG w.heap (.cells #[.func (.func k) #[] caps] 52) (.cells #[.int .i64 0] 49) (.cells #[.int .i64 0] 34)
  have hb2 : Below w.heap.size w (((w.alloc (.cells #[.func (.func k) #[] caps] 52)).alloc (.cells #[.int .i64 0] 49)).alloc (.cells #[.int .i64 0] 34)) := (((Below.refl _ w).alloc (Nat.le_refl _) _).alloc (by simp) _).alloc (by simp; omega) _
  have hs2 : (((w.alloc (.cells #[.func (.func k) #[] caps] 52)).alloc (.cells #[.int .i64 0] 49)).alloc (.cells #[.int .i64 0] 34)).heap.size = w.heap.size + 3 := by simp
  have hr0 : (((w.alloc (.cells #[.func (.func k) #[] caps] 52)).alloc (.cells #[.int .i64 0] 49)).alloc (.cells #[.int .i64 0] 34)).heap[w.heap.size]? = _ := h3.1
  have hr1 : (((w.alloc (.cells #[.func (.func k) #[] caps] 52)).alloc (.cells #[.int .i64 0] 49)).alloc (.cells #[.int .i64 0] 34)).heap[w.heap.size + 1]? = _ := h3.2.1
  have hr2 : (((w.alloc (.cells #[.func (.func k) #[] caps] 52)).alloc (.cells #[.int .i64 0] 49)).alloc (.cells #[.int .i64 0] 34)).heap[w.heap.size + 2]? = _ := h3.2.2
  clear h3
  generalize (((w.alloc (.cells #[.func (.func k) #[] caps] 52)).alloc (.cells #[.int .i64 0] 49)).alloc (.cells #[.int .i64 0] 34)) = w2 at *
  obtain ⟨B, hB⟩ : ∃ B, B = w.heap.size := ⟨_, rfl⟩
  have HBB := Lib.hid hB
  rw [← hB] at hr0 hr1 hr2 hs2 ⊢
  rw [show B + 1 + 1 = B + 2 from rfl]
  have HB2 := Lib.hid hb2
  refine (guardRunS _ _ okDo1 w2 (fun w3 w' => ∃ n w0, Ret n w3 w0 ∧ w3.heap.size ≤ w0.heap.size ∧ Ch (At1 (B + 2)) w0 w' ∧ w'.heap[B + 2]? = some (.cells #[.int .i64 n] 34) ∧ w'.heap[B + 1]? = some (.cells #[.int .i64 0] 49)) (fun op w3 w' => Pan op w3 w' ∧ w'.heap[B + 2]? = some (.cells #[.int .i64 0] 34) ∧ w'.heap[B + 1]? = some (.cells #[.int .i64 0] 49)) ?_).mono ?_
  · intro w3 hb3
    have q0 : w3.heap[B]? = _ := (hb3.block _ (by omega)).trans hr0
    have q1 : w3.heap[B + 1]? = _ := (hb3.block _ (by omega)).trans hr1
    have q2 : w3.heap[B + 2]? = _ := (hb3.block _ (by omega)).trans hr2
    have hz3 := hb3.size
    refine (guardDo1S B (B + 2) w.heap.size _ w3 q0 q2 (by omega) (fun n => Ret n w3) (fun op => Pan op w3) (H.out w3 (hb2.trans (hb3.mono (by omega))))).mono ?_
    rintro e w' ⟨hkeep, hsz, hcase⟩
    have r1 : w'.heap[B + 1]? = some (.cells #[.int .i64 0] 49) := by rw [hkeep (B + 1) (by omega) (by omega) (by omega)]; exact q1
    refine ⟨fun b hb hlt => hkeep b (by omega) (by omega) hlt, hsz, ?_⟩
    rcases hcase with ⟨rfl, n, w0, hret, hz0, hc0, hq⟩ | ⟨op, rfl, hpan, hq⟩
    · exact .inl ⟨rfl, n, w0, hret, hz0, hc0, hq, r1⟩
    · exact .inr ⟨op, rfl, hpan, hq, r1⟩
  rintro e w4 ⟨w3, w', hb3, hz3, hc, hcase⟩
  have hl3 := hb3.size
  have HB3 : Hid (Below w.heap.size w w3) := Lib.hid (HB2.out.trans (hb3.mono (by omega)))
  have HL3 : Hid (B + 1 < w3.heap.size) := Lib.hid (by omega)
  clear H hr0 hr1 hr2 hb2 HB2 hb3
  rcases hcase with ⟨rfl, n, w0, hret, hz0, hc0, re, rc⟩ | ⟨op, rfl, hpan, re, rc⟩
  · have HCW : Hid (Ch (fun k => B ≤ k ∧ k < w3.heap.size) w0 w4) := Lib.hid (((Ch.refl _ w0).trans hc0 (fun x _ h => ⟨by rw [show x = B + 2 from h]; omega, by rw [show x = B + 2 from h]; omega⟩)).trans hc (fun x _ h => ⟨by omega, h.2⟩))
    have HRT := Lib.hid hret
    have HZ0 := Lib.hid hz0
    replace re : w4.heap[B + 2]? = _ := hc.row re (by omega)
    replace rc : w4.heap[B + 1]? = _ := hc.row rc (by omega)
    clear hc hc0 hz0 hret hs2 hB hz3 hl3
    have hb4 := (Below.refl w4.heap.size w4).alloc (Nat.le_refl _) (.cells #[.int .i64 0] 49)
    have r5c : (w4.alloc (.cells #[.int .i64 0] 49)).heap[B + 1]? = some (.cells #[.int .i64 0] 49) := by rw [hb4.block _ (Array.getElem?_eq_some_iff.1 rc).1]; exact rc
    have r5e : (w4.alloc (.cells #[.int .i64 0] 49)).heap[B + 2]? = some (.cells #[.int .i64 n] 34) := by rw [hb4.block _ (Array.getElem?_eq_some_iff.1 re).1]; exact re
    have r5n := heap_alloc_new w4 (.cells #[.int .i64 0] 49)
    have HB5 := Lib.hid (HCW.out.trans (Ch.of_below (S := fun k => B ≤ k ∧ k < w3.heap.size) hb4) (fun _ _ h => h))
    clear hb4 rc re HCW
    go_wp2_with (fail)
    generalize w4.alloc (.cells #[.int .i64 0] 49) = w5 at *
    generalize w4.heap.size = G at *
    have cc := cell_of_row w5 (B + 1) 0 _ _ _ r5c
    have ce := cell_of_row w5 (B + 2) 0 _ _ _ r5e
    have cn := cell_of_row w5 G 0 _ _ _ r5n
    simp only [List.getElem?_toArray, List.getElem?_cons_zero] at cc ce cn
    have fc : w5.frozen? ⟨B + 1, 0, none⟩ = false := by simp [World.frozen?, r5c]
    have HR5 := Lib.hid r5c
    clear r5c r5e r5n
    go_region
    all_goals
      go_wp2_with (fail)
      have hrow : ((w5.setCell ⟨B + 1, 0, none⟩ (.int .i64 0)).drew).heap[B + 1]? = some (.cells #[.int .i64 0] 49) := heap_setCell_same w5 (B + 1) 0 _ _ (.int .i64 0) HR5.out
      have hb6 := (HB5.out.set (a := ⟨B + 1, 0, none⟩) ⟨by show B ≤ B + 1; omega, HL3.out⟩ (.int .i64 0)).drew
      generalize (w5.setCell ⟨B + 1, 0, none⟩ (.int .i64 0)).drew = w6 at *
      have c6 := cell_of_row w6 (B + 1) 0 _ _ _ hrow
      simp only [List.getElem?_toArray, List.getElem?_cons_zero] at c6
      exact bodyPost_ret (v := .tuple #[.int .i64 n, crash 0, .bool false]) (by simp [results, Try.results22, go_sem, c6]) rfl ⟨w3, w0, HB3.out, HZ0.out, HBB.out ▸ hb6, .inl ⟨n, rfl, HRT.out⟩⟩
  · have HCW : Hid (Ch (fun k => B ≤ k ∧ k < w3.heap.size) w' w4) := Lib.hid ((Ch.refl _ w').trans hc (fun x _ h => ⟨by omega, h.2⟩))
    have HPN := Lib.hid hpan
    have HZ0 := Lib.hid hz3
    replace re : w4.heap[B + 2]? = _ := hc.row re (by omega)
    replace rc : w4.heap[B + 1]? = _ := hc.row rc (by omega)
    clear hc hz3 hpan hs2 hB hl3
    have hb4 := (Below.refl w4.heap.size w4).alloc (Nat.le_refl _) (.cells #[.int .i64 op] 49)
    have r5c : (w4.alloc (.cells #[.int .i64 op] 49)).heap[B + 1]? = some (.cells #[.int .i64 0] 49) := by rw [hb4.block _ (Array.getElem?_eq_some_iff.1 rc).1]; exact rc
    have r5e : (w4.alloc (.cells #[.int .i64 op] 49)).heap[B + 2]? = some (.cells #[.int .i64 0] 34) := by rw [hb4.block _ (Array.getElem?_eq_some_iff.1 re).1]; exact re
    have r5n := heap_alloc_new w4 (.cells #[.int .i64 op] 49)
    have HB5 := Lib.hid (HCW.out.trans (Ch.of_below (S := fun k => B ≤ k ∧ k < w3.heap.size) hb4) (fun _ _ h => h))
    clear hb4 rc re HCW
    go_wp2_with (fail)
    generalize w4.alloc (.cells #[.int .i64 op] 49) = w5 at *
    generalize w4.heap.size = G at *
    have cc := cell_of_row w5 (B + 1) 0 _ _ _ r5c
    have ce := cell_of_row w5 (B + 2) 0 _ _ _ r5e
    have cn := cell_of_row w5 G 0 _ _ _ r5n
    simp only [List.getElem?_toArray, List.getElem?_cons_zero] at cc ce cn
    have fc : w5.frozen? ⟨B + 1, 0, none⟩ = false := by simp [World.frozen?, r5c]
    have HR5 := Lib.hid r5c
    clear r5c r5e r5n
    go_region
    all_goals
      go_wp2_with (fail)
      have hrow : ((w5.setCell ⟨B + 1, 0, none⟩ (.int .i64 op)).drew).heap[B + 1]? = some (.cells #[.int .i64 op] 49) := heap_setCell_same w5 (B + 1) 0 _ _ (.int .i64 op) HR5.out
      have hb6 := (HB5.out.set (a := ⟨B + 1, 0, none⟩) ⟨by show B ≤ B + 1; omega, HL3.out⟩ (.int .i64 op)).drew
      generalize (w5.setCell ⟨B + 1, 0, none⟩ (.int .i64 op)).drew = w6 at *
      have c6 := cell_of_row w6 (B + 1) 0 _ _ _ hrow
      simp only [List.getElem?_toArray, List.getElem?_cons_zero] at c6
      exact bodyPost_ret (v := .tuple #[.int .i64 0, crash op, .bool true]) (by simp [results, Try.results22, go_sem, c6]) rfl ⟨w3, w', HB3.out, HZ0.out, HBB.out ▸ hb6, .inr ⟨op, rfl, HPN.out⟩⟩
end Go.Proofs.Ythblbmbefhlbjaa
/- Layer 14: an Add that guard's Do calls; the bounds of WalKeeps. -/
namespace Go.Proofs.Ythblbmbefhlbjaa
open Go.RowKit Go.MapKept

def SomeB14 (n : Nat) (w : World) (e : Ending) (w' : World) : Prop := ∃ b : Bool, e = .returned (.bool b) ∧ (80 < n → b = true) ∧ Below w.heap.size w w'
set_option maxHeartbeats 4000000 in
set_option maxRecDepth 100000 in
theorem great14 (A : Option Addr) (n c : Nat) (L : List WAct) (w : World) (hL : WAs w A n c L) : Calls Try.prog 10 #[.slice A n c] w (SomeB14 n w) := by
  have HL := Lib.hid hL
  have hn : n ≤ 140737488351232 := hL.2.2.2.1
  clear hL
  go_enter Try.func10, Try.ntmps10
  go_wp2_with (fail)
  go_loopw [8, 3] (fun i s wr => ∃ (k : Nat) (z : Int), k ≤ n ∧ i = .int .i64 k ∧ s = .int .i64 z ∧ Below w.heap.size w wr) (fun i _ _ => n - (intOf i).toNat)
  case atStart => exact ⟨0, 0, by omega, rfl, rfl, Below.refl _ _⟩
  case round =>
    obtain ⟨wo, rfl⟩ : ∃ wo : World, wo = wr := ⟨_, rfl⟩
    obtain ⟨k, z, hk, rfl, rfl, hb⟩ := hrel
    have HB := Lib.hid hb
    clear hb
    by_cases hlt : k < n
    · obtain ⟨b, o, rfl, hx⟩ := (HL.out.below HB.out).2.2.2.2 (by omega)
      obtain ⟨x, hxk⟩ : ∃ x, L[k]? = some x := ⟨_, List.getElem?_eq_getElem (by have := HL.out.1; omega)⟩
      obtain ⟨⟨c0, c1, c2, A5, m, c', c5, hB5, hc'⟩, hf⟩ := hx k x hxk
      have hm5 := hB5.le
      have HB2 : Hid (∀ o, Below w.heap.size w (wo.alloc o)) := Lib.hid (fun o => HB.out.alloc HB.out.size o)
      clear hx hB5 hf hxk
      go_wp2_with (fail)
      exact ⟨⟨k + 1, _, by omega, by go_num, rfl, HB2.out _⟩, by simp [intOf]; omega⟩
    · obtain rfl : k = n := by omega
      by_cases h2 : (80 : Int) < (k : Int)
      · go_wp2_with (fail)
        go_ret
        exact ⟨_, rfl, fun _ => rfl, HB.out⟩
      · by_cases h5 : (2000 : Int) < z
        · go_wp2_with (fail)
          go_ret
          exact ⟨_, rfl, fun _ => rfl, HB.out⟩
        · go_wp2_with (fail)
          go_ret
          exact ⟨_, rfl, fun h => absurd h (by omega), HB.out⟩
/-- a room that may be -/
def roomW (n : Int) : Nat := (IntKind.u64.wrap n % 2000).toNat
theorem roomW_le (n : Int) : roomW n ≤ 2000 := by
  have h0 : 0 ≤ IntKind.u64.wrap n := by simp [IntKind.wrap, IntKind.bits, IntKind.signed]; omega
  unfold roomW; omega
theorem room14 (n : Int) (w : World) : Calls Try.prog 21 #[.int .i64 n] w fun e w' => e = .returned (.int .i64 (roomW n : Int)) ∧ w = w' := by
  have h0 : 0 ≤ IntKind.u64.wrap n := by simp [IntKind.wrap, IntKind.bits, IntKind.signed]; omega
  have h3 : (IntKind.u64.wrap n).tmod 2000 = (roomW n : Int) := by rw [Int.tmod_eq_emod_of_nonneg h0]; unfold roomW; omega
  have h4 : wrap64 (roomW n : Int) = (roomW n : Int) := IntWalk.wrap64_in _ (by have := roomW_le n; omega)
  have H := Lib.hid (And.intro h3 h4)
  clear h0 h3 h4
  go_enter Try.func21, Try.ntmps21
  go_wp2_with (fail)
  go_ret
  rw [H.out.1, H.out.2]
  exact ⟨rfl, rfl⟩
section
variable {E : Nat → Prop} {w : World} {B L D M g : Nat} {d : Dk} {F : List Ent} {nm : ByteArray} {rs : List (List UInt8)} {v : Value}
def ED (E : Nat → Prop) (a b k : Nat) : Prop := E k ∨ (a ≤ k ∧ k < b)
end
end Go.Proofs.Ythblbmbefhlbjaa
/- Layer 14: the disk, the log, the log's box and the law's own row between the calls. -/
namespace Go.Proofs.Ythblbmbefhlbjaa
open Go.RowKit Go.MapKept

abbrev TLP : TypeId := 33
theorem recs_len : ∀ T : List (List UInt8), T.length ≤ (recs T).length
  | [] => Nat.zero_le _
  | a :: r => by
    have := recs_len r
    rw [recs_cons, List.length_append, record_length]
    simp only [List.length_cons]; omega
/-- the law's own row and the log's box, beside blocks T -/
structure OwnP (B P : Nat) (T : Nat → Prop) (vo : Value) (So : List (List UInt8)) (w : World) : Prop where
  own : Rw B (fun j => T j ∨ j = P) w vo So
  bx : ∃ u, w.heap[P]? = some (.cells #[u] TLP)
  off : ¬ T P
  pb : B ≤ P
section
variable {B P : Nat} {T T' : Nat → Prop} {vo : Value} {So : List (List UInt8)} {w w' : World}
theorem OwnP.lt (h : OwnP B P T vo So w) : P < w.heap.size := by obtain ⟨u, h⟩ := h.bx; exact (Array.getElem?_eq_some_iff.1 h).1
theorem OwnP.ch {S : Nat → Prop} (h : OwnP B P T vo So w) (c : Ch S w w') (hS : ∀ k, k < w.heap.size → S k → T k) (hT : ∀ k, k < w.heap.size → T' k → T k) : OwnP B P T' vo So w' :=
  ⟨h.own.ch c (fun k hk hs => .inl (hS k hk hs)) (fun k hk ht => by
    rcases ht with ht | ht
    · exact .inl (hT k hk ht)
    · exact .inr ht), by obtain ⟨u, hb⟩ := h.bx; exact ⟨u, c.row hb (fun hs => h.off (hS P h.lt hs))⟩, fun ht => h.off (hT P h.lt ht), h.pb⟩
theorem OwnP.below (h : OwnP B P T vo So w) (hb : Below w.heap.size w w') : OwnP B P T vo So w' :=
  h.ch (Ch.of_below (S := fun _ => False) hb) (fun _ _ h => h.elim) (fun _ _ h => h)
/-- the box is set -/
theorem OwnP.setP (h : OwnP B P T vo So w) (u : Value) : OwnP B P T vo So (w.setCell ⟨P, 0, none⟩ u) ∧ (w.setCell ⟨P, 0, none⟩ u).heap[P]? = some (.cells #[u] TLP) := by
  have hcs : Ch (At1 P) w (w.setCell ⟨P, 0, none⟩ u) := (Ch.refl _ w).set1 0 _
  obtain ⟨x, hb⟩ := h.bx
  have hr := heap_set_row hb (j := 0) u
  exact ⟨⟨h.own.ch hcs (fun k _ hk => .inr hk) (fun _ _ hk => hk), ⟨_, hr⟩, h.off, h.pb⟩, hr⟩
end
/-- disk, log, box and row -/
structure KpSt (B L D M P : Nat) (k : Nat) (vo : Value) (So T : List (List UInt8)) (v : Value) (d : Dk) (F : List Ent) (w : World) : Prop where
  dk : DkAt w B D M d F
  lg : LgAt (fun j => vo.ownBlock = some j ∨ j = P) w B L D M F nmL T (recs T).length v
  ok : FsOk d (fsOf F)
  fs : WalFs (fsOf F) nmL T
  op : d.ops ≤ 6 * (k : Int)
  own : OwnP B P (WFoot L D M F v) vo So w
  bx : w.heap[P]? = some (.cells #[pL L] TLP)
section
variable {B L D M P k : Nat} {vo v : Value} {So T : List (List UInt8)} {d : Dk} {F : List Ent} {w w' : World}
theorem KpSt.len (h : KpSt B L D M P k vo So T v d F w) : T.length ≤ (recs T).length ∧ (recs T).length ≤ 1073741824 := by
  have h1 := recs_len T
  have h2 := bsOf_len h.ok nmL
  rw [walFs_bs h.fs] at h2
  exact ⟨h1, h2⟩
theorem KpSt.wlch {k' : Nat} {T' : List (List UInt8)} {v' : Value} {d' : Dk} {F' : List Ent} (h : KpSt B L D M P k vo So T v d F w) (c : WlCh L D M F F' v v' w w') (hd : DkAt w' B D M d' F') (hl : LgAt (fun j => vo.ownBlock = some j ∨ j = P) w' B L D M F' nmL T' (recs T').length v') (ok : FsOk d' (fsOf F')) (fs : WalFs (fsOf F') nmL T') (op : d'.ops ≤ 6 * (k' : Int)) :
    KpSt B L D M P k' vo So T' v' d' F' w' :=
  ⟨hd, hl, ok, fs, op, h.own.ch c.ch (fun _ _ hk => hk) (fun j hj ht => by
    rcases c.foot j ht with h1 | h1
    · exact h1
    · omega), c.ch.row h.bx (fun hs => h.own.off hs)⟩
theorem KpSt.dkch {k' : Nat} {d' : Dk} {F' : List Ent} (h : KpSt B L D M P k vo So T v d F w) (c : DkCh D M F F' w w') (hd : DkAt w' B D M d' F') (ok : FsOk d' (fsOf F')) (fs : WalFs (fsOf F') nmL T) (op : d'.ops ≤ 6 * (k' : Int)) :
    KpSt B L D M P k' vo So T v d' F' w' :=
  h.wlch (WlCh.of_dk c) hd (h.lg.dkch c) ok fs op
theorem KpSt.below (h : KpSt B L D M P k vo So T v d F w) (hb : Below w.heap.size w w') : KpSt B L D M P k vo So T v d F w' :=
  h.dkch (DkCh.of_below hb) (h.dk.below hb) h.ok h.fs h.op
theorem KpSt.later {k' : Nat} (h : KpSt B L D M P k vo So T v d F w) (hk : k ≤ k') : KpSt B L D M P k' vo So T v d F w :=
  ⟨h.dk, h.lg, h.ok, h.fs, by have := h.op; omega, h.own, h.bx⟩
theorem KpSt.lt (h : KpSt B L D M P k vo So T v d F w) : ∀ j, vo.ownBlock = some j ∨ j = P → j < w.heap.size := fun j hj => by
  rcases hj with hj | hj
  · exact (Rw.lt h.own.own hj).2
  · rw [hj]; exact h.own.lt
/-- behind an append to the row -/
theorem KpSt.app {x : List UInt8} {v' : Value} {o : Obj} (h : KpSt B L D M P k vo So T v d F w) (hr : Rw B (fun j => WFoot L D M F v j ∨ j = P) w' v' (So ++ [x])) (hg : (w.alloc o).grownBy w' vo.ownBlock) (hf : v'.ownBlock = vo.ownBlock ∨ v'.ownBlock = some (w.alloc o).heap.size) :
    KpSt B L D M P k v' (So ++ [x]) T v d F w' ∧ Below B w w' := by
  have hb7 : Below w.heap.size w (w.alloc o) := (Below.refl _ _).alloc (Nat.le_refl _) _
  have hl7 := (h.lg.widen (E' := fun j => (vo.ownBlock = some j ∨ j = P) ∨ j = (w.alloc o).heap.size) (fun j hj => by
    rcases hj with hj | hj
    · exact .inl hj
    · exact .inr (by rw [hj]; exact hb7.size))).below hb7
  have c : Ch (fun j => vo.ownBlock = some j) (w.alloc o) w' := Ch.of_grown hg (fun j hj => hj)
  have hoff : ∀ j, vo.ownBlock = some j → ¬ WFoot L D M F v j := fun j hj hw => Rw.offT h.own.own hj (.inl hw)
  have hL : ¬ vo.ownBlock = some L := fun e => hoff L e (.inl (.inl rfl))
  have hl8 := hl7.chE c (fun j _ hj => .inl (.inl hj)) hL
  have hBl : B ≤ w.heap.size := Nat.le_trans h.lg.base (by have := h.lg.lt; omega)
  have hP7 := hb7.block P h.own.lt
  refine ⟨⟨(h.dk.below hb7).ch c (fun j hj hs => hoff j hs (.inl (.inr hj))), hl8.widen (fun j hj => .inl ?_), h.ok, h.fs, h.op, ⟨hr, ?_, h.own.off, h.own.pb⟩, ?_⟩, (hb7.mono hBl).trans (c.below (fun j hj => (Rw.lt h.own.own hj).1) (Nat.le_trans hBl hb7.size))⟩
  · rcases hj with hj | hj
    · rcases hf with h1 | h1
      · exact .inl (.inl (by rw [← h1]; exact hj))
      · rw [h1] at hj; injection hj with hj; exact .inr hj.symm
    · exact .inl (.inr hj)
  · obtain ⟨u, hu⟩ := h.own.bx
    exact ⟨u, c.row (hP7.trans hu) (fun e => Rw.offT h.own.own e (.inr rfl))⟩
  · exact c.row (hP7.trans h.bx) (fun e => Rw.offT h.own.own e (.inr rfl))
end
/-- disk, box and row, once the log is gone -/
structure KpD (B D M P : Nat) (k : Int) (vo : Value) (So : List (List UInt8)) (d : Dk) (F : List Ent) (w : World) : Prop where
  dk : DkAt w B D M d F
  ok : FsOk d (fsOf F)
  op : d.ops ≤ k
  own : OwnP B P (DFoot D M F) vo So w
section
variable {B L D M P k : Nat} {kk : Int} {vo v : Value} {So T : List (List UInt8)} {d : Dk} {F : List Ent} {w w' : World}
theorem KpD.lt (h : KpD B D M P kk vo So d F w) : ∀ j, vo.ownBlock = some j ∨ j = P → j < w.heap.size := fun j hj => by
  rcases hj with hj | hj
  · exact (Rw.lt h.own.own hj).2
  · rw [hj]; exact h.own.lt
theorem KpSt.gone (h : KpSt B L D M P k vo So T v d F w) : KpD B D M P (6 * (k : Int)) vo So d F w :=
  ⟨h.dk, h.ok, h.op, h.own.ch (Ch.refl (fun _ => False) w) (fun _ _ h => h.elim) (fun _ _ hk => .inl (.inr hk))⟩
theorem KpD.dkch {k' : Int} {d' : Dk} {F' : List Ent} (h : KpD B D M P kk vo So d F w) (c : DkCh D M F F' w w') (hd : DkAt w' B D M d' F') (ok : FsOk d' (fsOf F')) (op : d'.ops ≤ k') : KpD B D M P k' vo So d' F' w' :=
  ⟨hd, ok, op, h.own.ch c.ch (fun _ _ hk => hk) (fun j hj ht => by
    rcases c.dfoot ht with h1 | h1
    · exact h1
    · omega)⟩
theorem KpD.below (h : KpD B D M P kk vo So d F w) (hb : Below w.heap.size w w') : KpD B D M P kk vo So d F w' :=
  h.dkch (DkCh.of_below hb) (h.dk.below hb) h.ok h.op
/-- behind an Open whose log goes into the box -/
theorem KpD.opened {k' : Nat} {d' : Dk} {F' : List Ent} (h : KpD B D M P kk vo So d F w) (c : DkCh D M F F' w w') (hd : DkAt w' B D M d' F') (ok : FsOk d' (fsOf F')) (op : d'.ops ≤ 6 * (k' : Int)) (hl : LgAt (fun j => vo.ownBlock = some j ∨ j = P) w' B L D M F' nmL T (recs T).length v) (fs : WalFs (fsOf F') nmL T)
    (hL : w.heap.size ≤ L) (hv : ∀ j, v.ownBlock = some j → w.heap.size ≤ j) : KpSt B L D M P k' vo So T v d' F' (w'.setCell ⟨P, 0, none⟩ (pL L)) ∧ Below B w' (w'.setCell ⟨P, 0, none⟩ (pL L)) := by
  have ho : OwnP B P (WFoot L D M F' v) vo So w' := h.own.ch c.ch (fun _ _ hk => hk) (fun j hj ht => by
    rcases ht with (ht | ht) | ht
    · omega
    · rcases c.dfoot ht with h1 | h1
      · exact h1
      · omega
    · have := hv j ht; omega)
  obtain ⟨ho2, hb2⟩ := ho.setP (pL L)
  have hcs : Ch (At1 P) w' (w'.setCell ⟨P, 0, none⟩ (pL L)) := (Ch.refl _ w').set1 0 _
  have hBl : B ≤ w'.heap.size := Nat.le_trans hl.base (by have := hl.lt; omega)
  exact ⟨⟨hd.ch hcs (fun j hj hs => ho.off (.inl (.inr (by rw [← show j = P from hs]; exact hj)))), hl.chE hcs (fun j _ hj => .inr hj) (fun hs => ho.off (.inl (.inl (show L = P from hs).symm))), ok, fs, op, ho2, hb2⟩, hcs.below (fun j hj => by rw [show j = P from hj]; exact ho.pb) hBl⟩
end
/-- what the next Open finds: all that was told, or one more -/
theorem opened_half {d : Dk} {fs : Fs} {T : List (List UInt8)} {b : List UInt8} (kp : Int) (h : HalfFs fs nmL T b) :
    ∃ T', (T' = T ∨ T' = T ++ [b]) ∧ (scan (bsOf (opPower d fs kp).2.2 nmL)).1 = T' ∧ (scan (bsOf (opPower d fs kp).2.2 nmL)).2.1 = (recs T').length ∧ (openD (opPower d fs kp).2.1 (opPower d fs kp).2.2 nmL).1 = .inl 0 ∧ WalFs (openD (opPower d fs kp).2.1 (opPower d fs kp).2.2 nmL).2.2 nmL T' := by
  obtain ⟨hb, hok, k, hk, hg⟩ := halfFs_pow kp h
  obtain ⟨T', h1, h2, h3, h4, h5, _⟩ := openD_half (d := (opPower d fs kp).2.1) rfl rfl hb hok hk hg
  exact ⟨T', h1, h2, h3, h4, h5⟩
theorem opened_whole {d : Dk} {fs : Fs} {T : List (List UInt8)} (kp : Int) (h : WalFs fs nmL T) :
    ∃ T', T' = T ∧ (scan (bsOf (opPower d fs kp).2.2 nmL)).1 = T' ∧ (scan (bsOf (opPower d fs kp).2.2 nmL)).2.1 = (recs T').length ∧ (openD (opPower d fs kp).2.1 (opPower d fs kp).2.2 nmL).1 = .inl 0 ∧ WalFs (openD (opPower d fs kp).2.1 (opPower d fs kp).2.2 nmL).2.2 nmL T' := by
  have hp : WalFs (opPower d fs kp).2.2 nmL T := walFs_pow kp h
  obtain ⟨h1, h2, h3⟩ := openD_whole (opPower d fs kp).2.1 hp
  exact ⟨T, rfl, h2, h3, by rw [h1], by rw [h1]; exact hp⟩
end Go.Proofs.Ythblbmbefhlbjaa
/- Layer 14: the program's disk and log beside the document's. No condition. -/
namespace Go.Proofs.Ythblbmbefhlbjaa
open Go.RowKit Go.MapKept

/-- the program's disk and the document's, beside blocks Z -/
structure WN (Z : Nat → Prop) (w : World) (B D M G : Nat) (d : Dk) (F : List Ent) (r : Rk) (Lf : Fs) (vr : Value) (P : List Value) : Prop where
  dk : DkAt w B D M d F
  rk : RkAt w B G (fun k => Z k ∨ DFoot D M F k) r Lf vr P
  zlt : ∀ k, Z k → k < w.heap.size
  zd : ∀ k, Z k → ¬ DFoot D M F k
  zr : ∀ k, Z k → ¬ RF G vr k
/-- .. and both logs -/
structure WX (Z : Nat → Prop) (w : World) (B D M L G H : Nat) (d : Dk) (F : List Ent) (T1 : List (List UInt8)) (g1 : Nat) (v : Value) (r : Rk) (Lf : Fs) (vr : Value) (P : List Value) (T2 : List (List UInt8)) (g2 : Nat) (vh : Value) : Prop where
  dk : DkAt w B D M d F
  lg : LgAt (fun k => Z k ∨ RF G vr k ∨ RL H vh k) w B L D M F nmL T1 g1 v
  rk : RkAt w B G (fun k => (Z k ∨ WFoot L D M F v k) ∨ RL H vh k) r Lf vr P
  rl : RlAt (fun k => (Z k ∨ WFoot L D M F v k) ∨ RF G vr k) w B H G nmL T2 g2 vh
  zlt : ∀ k, Z k → k < w.heap.size
  zl : ∀ k, Z k → ¬ LT L D M F k
  zr : ∀ k, Z k → ¬ RF G vr k
section
variable {Z Z' S : Nat → Prop} {w w' : World} {B D M L G H g1 g2 : Nat} {d d' : Dk} {F F' : List Ent} {T1 T1' T2 : List (List UInt8)} {v v' vr vh : Value} {r r' : Rk} {Lf L' : Fs} {P : List Value}
theorem WX.lt (h : WX Z w B D M L G H d F T1 g1 v r Lf vr P T2 g2 vh) {k : Nat} (hk : WFoot L D M F v k) : k < w.heap.size := (h.lg.foot_lt h.dk hk).2
theorem WX.vown (h : WX Z w B D M L G H d F T1 g1 v r Lf vr P T2 g2 vh) {k : Nat} (hk : v.ownBlock = some k) : ¬ (Z k ∨ RF G vr k ∨ RL H vh k) := fun hx => Rw.offT h.lg.rw hk (.inr hx)
theorem WX.rw_ (h : WX Z w B D M L G H d F T1 g1 v r Lf vr P T2 g2 vh) {k : Nat} (hk : RF G vr k) (hw : WFoot L D M F v k) : False := by
  rcases hw with (rfl | hw) | hw
  · exact apart_tyR h.rk h.lg.row (by decide) (by decide) hk
  · exact apart_rk h.dk h.rk hk hw
  · exact h.vown hw (.inr (.inl hk))
theorem WX.zw (h : WX Z w B D M L G H d F T1 g1 v r Lf vr P T2 g2 vh) {k : Nat} (hz : Z k) (hw : WFoot L D M F v k) : False := by
  rcases hw with hw | hw
  · exact h.zl k hz hw
  · exact h.vown hw (.inl hz)
theorem WX.lw (h : WX Z w B D M L G H d F T1 g1 v r Lf vr P T2 g2 vh) {k : Nat} (hk : RL H vh k) (hw : WFoot L D M F v k) : False := h.rl.notT hk (.inl (.inr hw))
/-- the program's log took a step -/
theorem WX.prog {v' : Value} {g1' : Nat} (h : WX Z w B D M L G H d F T1 g1 v r Lf vr P T2 g2 vh) (c : WlCh L D M F F' v v' w w') (hd : DkAt w' B D M d' F') (hl : LgAt (fun k => Z k ∨ RF G vr k ∨ RL H vh k) w' B L D M F' nmL T1' g1' v') : WX Z w' B D M L G H d' F' T1' g1' v' r Lf vr P T2 g2 vh := by
  have hf : ∀ k, k < w.heap.size → WFoot L D M F' v' k → WFoot L D M F v k := fun k hk hx => (c.foot k hx).resolve_right (fun h1 => by omega)
  refine ⟨hd, hl, h.rk.next' c.ch (fun k _ hk => .inl (.inr hk)) (fun k hk hw => h.rw_ hk hw) (fun k hk ht => ht.imp (fun h1 => h1.imp id (hf k hk)) id), h.rl.ch c.ch (fun k _ hk => .inl (.inr hk)) (fun k hk ht => ht.imp (fun h1 => h1.imp id (hf k hk)) id), fun k hk => Nat.lt_of_lt_of_le (h.zlt k hk) c.ch.size, fun k hk hx => h.zw hk (hf k (h.zlt k hk) (.inl hx)), h.zr⟩
theorem WX.dkch (h : WX Z w B D M L G H d F T1 g1 v r Lf vr P T2 g2 vh) (c : DkCh D M F F' w w') (hd : DkAt w' B D M d' F') : WX Z w' B D M L G H d' F' T1 g1 v r Lf vr P T2 g2 vh :=
  h.prog (WlCh.of_dk c) hd (h.lg.dkch c)
theorem WX.below (h : WX Z w B D M L G H d F T1 g1 v r Lf vr P T2 g2 vh) (hb : Below w.heap.size w w') : WX Z w' B D M L G H d F T1 g1 v r Lf vr P T2 g2 vh :=
  h.dkch (DkCh.of_below hb) (h.dk.below hb)
/-- the document's took one -/
theorem WX.doc {vr' vh' : Value} {P' : List Value} {T2' : List (List UInt8)} {g2' : Nat} (h : WX Z w B D M L G H d F T1 g1 v r Lf vr P T2 g2 vh) (hr : RkAt w' B G (fun k => (Z k ∨ WFoot L D M F v k) ∨ RL H vh' k) r' L' vr' P') (hl : RlAt (fun k => (Z k ∨ WFoot L D M F v k) ∨ RF G vr' k) w' B H G nmL T2' g2' vh')
    (c : Ch (fun k => RF G vr k ∨ RL H vh k) w w') (ho : ∀ k, RF G vr' k ∨ RL H vh' k → (RF G vr k ∨ RL H vh k) ∨ w.heap.size ≤ k) : WX Z w' B D M L G H d F T1 g1 v r' L' vr' P' T2' g2' vh' := by
  have hoff : ∀ k, WFoot L D M F v k → ¬ (RF G vr k ∨ RL H vh k) := fun k hw hs => hs.elim (fun h1 => h.rw_ h1 hw) (fun h1 => h.lw h1 hw)
  refine ⟨h.dk.ch c (fun k hk hs => hoff k (.inl (.inr hk)) hs), ?_, hr, hl, fun k hk => Nat.lt_of_lt_of_le (h.zlt k hk) c.size, h.zl, fun k hk hx => ?_⟩
  · refine (((h.lg.widen (E' := fun k => (Z k ∨ RF G vr k ∨ RL H vh k) ∨ w.heap.size ≤ k) (fun k hk => hk)).chE c (fun k _ hk => .inl (.inr hk)) (fun hs => hoff L (.inl (.inl rfl)) hs)).widen (fun k hk => .inl ?_))
    rcases hk with hk | hk
    · exact .inl (.inl hk)
    · exact (ho k hk).imp (fun h1 => .inr h1) id
  · rcases ho k (.inl hx) with h1 | h1
    · rcases h1 with h1 | h1
      · exact h.zr k hk h1
      · exact h.rl.notT h1 (.inl (.inl hk))
    · have := h.zlt k hk; omega
/-- blocks of Z changed -/
theorem WX.chZ (h : WX Z w B D M L G H d F T1 g1 v r Lf vr P T2 g2 vh) (c : Ch S w w') (hS : ∀ k, k < w.heap.size → S k → Z k) : WX Z w' B D M L G H d F T1 g1 v r Lf vr P T2 g2 vh := by
  have hS' : ∀ k, (k < w.heap.size) → ¬ Z k → ¬ S k := fun k hk hz hs => hz (hS k hk hs)
  have hd : ∀ k, DFoot D M F k → ¬ S k := fun k hk => hS' k (h.dk.foot_lt hk).2 (fun hz => h.zl k hz (.inr hk))
  exact ⟨h.dk.ch c hd, h.lg.chE c (fun k hk hs => .inl (hS k hk hs)) (hS' L h.lg.lt (fun hz => h.zl L hz (.inl rfl))), h.rk.next' c (fun k hk hs => .inl (.inl (hS k hk hs))) (fun k hk => hS' k (h.rk.foot_lt hk).2 (fun hz => h.zr k hz hk)) (fun _ _ ht => ht),
    h.rl.ch c (fun k hk hs => .inl (.inl (hS k hk hs))) (fun _ _ ht => ht), fun k hk => Nat.lt_of_lt_of_le (h.zlt k hk) c.size, h.zl, h.zr⟩
/-- other blocks Z -/
theorem WX.setZ (h : WX Z w B D M L G H d F T1 g1 v r Lf vr P T2 g2 vh) (hZ : ∀ k, Z' k → Z k) : WX Z' w B D M L G H d F T1 g1 v r Lf vr P T2 g2 vh :=
  ⟨h.dk, h.lg.widen (fun k hk => .inl (hk.imp (hZ k) id)), h.rk.wider (fun k hk => .inl (hk.imp (fun h1 => h1.imp (hZ k) id) id)), h.rl.ch (S := fun _ => False) (Ch.refl _ _) (fun _ _ h => h.elim) (fun k _ ht => ht.imp (fun h1 => h1.imp (hZ k) id) id), fun k hk => h.zlt k (hZ k hk), fun k hk => h.zl k (hZ k hk), fun k hk => h.zr k (hZ k hk)⟩
theorem WX.newZ {w1 : World} (h : WX Z w B D M L G H d F T1 g1 v r Lf vr P T2 g2 vh) (hb : Below w.heap.size w w1) : WX (fun k => Z k ∨ (w.heap.size ≤ k ∧ k < w1.heap.size)) w1 B D M L G H d F T1 g1 v r Lf vr P T2 g2 vh := by
  have hl2 : RlAt (fun k => ((Z k ∨ (w.heap.size ≤ k)) ∨ WFoot L D M F v k) ∨ RF G vr k) w B H G nmL T2 g2 vh := ⟨h.rl.row, h.rl.base, fun hx => h.rl.off (by
      rcases hx with ((h1 | h1) | h1) | h1
      · exact .inl (.inl h1)
      · have := h.rl.lt; omega
      · exact .inl (.inr h1)
      · exact .inr h1), h.rl.rw.widen (fun k hk => by
      rcases hk with h1 | ((h1 | h1) | h1) | h1
      · exact .inl (.inl h1)
      · exact .inl (.inr (.inl (.inl h1)))
      · exact .inr h1
      · exact .inl (.inr (.inl (.inr h1)))
      · exact .inl (.inr (.inr h1)))⟩
  refine ⟨h.dk.below hb, ((h.lg.widen (E' := fun k => (Z k ∨ (w.heap.size ≤ k ∧ k < w1.heap.size)) ∨ RF G vr k ∨ RL H vh k) (fun k hk => ?_)).below hb), ((h.rk.wider (E' := fun k => ((Z k ∨ (w.heap.size ≤ k ∧ k < w1.heap.size)) ∨ WFoot L D M F v k) ∨ RL H vh k) (fun k hk => ?_)).below hb), ((hl2.below hb).ch (S := fun _ => False) (Ch.refl _ _) (fun _ _ h => h.elim) (fun k _ hk => ?_)), fun k hk => ?_, fun k hk hx => ?_, fun k hk hx => ?_⟩
  · rcases hk with (h1 | h1) | h1
    · exact .inl (.inl h1)
    · exact .inr h1.1
    · exact .inl (.inr h1)
  · rcases hk with ((h1 | h1) | h1) | h1
    · exact .inl (.inl (.inl h1))
    · exact .inr h1.1
    · exact .inl (.inl (.inr h1))
    · exact .inl (.inr h1)
  · rcases hk with ((h1 | h1) | h1) | h1
    · exact .inl (.inl (.inl h1))
    · exact .inl (.inl (.inr h1.1))
    · exact .inl (.inr h1)
    · exact .inr h1
  · rcases hk with h1 | h1
    · exact Nat.lt_of_lt_of_le (h.zlt k h1) hb.size
    · exact h1.2
  · rcases hk with h1 | h1
    · exact h.zl k h1 hx
    · have := h.lt (.inl hx); omega
  · rcases hk with h1 | h1
    · exact h.zr k h1 hx
    · have := (h.rk.foot_lt hx).2; omega
/-- the logs are forgotten -/
theorem WX.gone (h : WX Z w B D M L G H d F T1 g1 v r Lf vr P T2 g2 vh) : WN Z w B D M G d F r Lf vr P :=
  ⟨h.dk, h.rk.wider (fun _ hk => .inl (.inl (hk.imp id (fun h1 => .inl (.inr h1))))), h.zlt, fun k hk hx => h.zl k hk (.inr hx), h.zr⟩
theorem WN.dkch (h : WN Z w B D M G d F r Lf vr P) (c : DkCh D M F F' w w') (hd : DkAt w' B D M d' F') : WN Z w' B D M G d' F' r Lf vr P :=
  ⟨hd, h.rk.next' c.ch (fun k _ hk => .inr hk) (fun k hk hw => apart_rk h.dk h.rk hk hw) (fun k hk ht => ht.imp id (fun h1 => (c.dfoot h1).resolve_right (fun h2 => by omega))), fun k hk => Nat.lt_of_lt_of_le (h.zlt k hk) c.ch.size, fun k hk hx => (c.dfoot hx).elim (h.zd k hk) (fun h1 => by have := h.zlt k hk; omega), h.zr⟩
theorem WN.below (h : WN Z w B D M G d F r Lf vr P) (hb : Below w.heap.size w w') : WN Z w' B D M G d F r Lf vr P := h.dkch (DkCh.of_below hb) (h.dk.below hb)
theorem WN.doc {vr' : Value} {P' : List Value} (h : WN Z w B D M G d F r Lf vr P) (hr : RkAt w' B G (fun k => Z k ∨ DFoot D M F k) r' L' vr' P') (c : Ch (RF G vr) w w') (ho : ∀ k, RF G vr' k → RF G vr k ∨ w.heap.size ≤ k) : WN Z w' B D M G d F r' L' vr' P' :=
  ⟨h.dk.ch c (fun k hk hs => apart_rk h.dk h.rk hs hk), hr, fun k hk => Nat.lt_of_lt_of_le (h.zlt k hk) c.size, h.zd, fun k hk hx => (ho k hx).elim (h.zr k hk) (fun h1 => by have := h.zlt k hk; omega)⟩
theorem WN.chZ (h : WN Z w B D M G d F r Lf vr P) (c : Ch S w w') (hS : ∀ k, k < w.heap.size → S k → Z k) : WN Z w' B D M G d F r Lf vr P :=
  ⟨h.dk.ch c (fun k hk hs => h.zd k (hS k (h.dk.foot_lt hk).2 hs) hk), h.rk.next' c (fun k hk hs => .inl (hS k hk hs)) (fun k hk hs => h.zr k (hS k (h.rk.foot_lt hk).2 hs) hk) (fun _ _ ht => ht), fun k hk => Nat.lt_of_lt_of_le (h.zlt k hk) c.size, h.zd, h.zr⟩
theorem WN.setZ (h : WN Z w B D M G d F r Lf vr P) (hZ : ∀ k, Z' k → Z k) : WN Z' w B D M G d F r Lf vr P :=
  ⟨h.dk, h.rk.wider (fun k hk => .inl (hk.imp (hZ k) id)), fun k hk => h.zlt k (hZ k hk), fun k hk => h.zd k (hZ k hk), fun k hk => h.zr k (hZ k hk)⟩
theorem WN.newZ {w1 : World} (h : WN Z w B D M G d F r Lf vr P) (hb : Below w.heap.size w w1) : WN (fun k => Z k ∨ (w.heap.size ≤ k ∧ k < w1.heap.size)) w1 B D M G d F r Lf vr P :=
  ⟨h.dk.below hb, (h.rk.wider (E' := fun k => (Z k ∨ (w.heap.size ≤ k ∧ k < w1.heap.size)) ∨ DFoot D M F k) (fun k hk => by
    rcases hk with (h1 | h1) | h1
    · exact .inl (.inl h1)
    · exact .inr h1.1
    · exact .inl (.inr h1))).below hb, fun k hk => by
    rcases hk with h1 | h1
    · exact Nat.lt_of_lt_of_le (h.zlt k h1) hb.size
    · exact h1.2, fun k hk hx => by
    rcases hk with h1 | h1
    · exact h.zd k h1 hx
    · have := (h.dk.foot_lt hx).2; omega, fun k hk hx => by
    rcases hk with h1 | h1
    · exact h.zr k h1 hx
    · have := (h.rk.foot_lt hx).2; omega⟩
end
end Go.Proofs.Ythblbmbefhlbjaa
/- Layer 14: the law's world opens its log: the closure that guard's Do calls. -/
namespace Go.Proofs.Ythblbmbefhlbjaa
open Go.RowKit Go.MapKept

abbrev TW14 : TypeId := 72
abbrev TWP14 : TypeId := 25
abbrev pX14 (X : Nat) : Value := .pointer (some ⟨X, 0, none⟩)
/-- the program's log is open, the document's isn't yet -/
structure WM (Z : Nat → Prop) (w : World) (B D M L G : Nat) (d : Dk) (F : List Ent) (T1 : List (List UInt8)) (g1 : Nat) (v : Value) (r : Rk) (Lf : Fs) (vr : Value) (P : List Value) : Prop where
  dk : DkAt w B D M d F
  lg : LgAt (fun k => Z k ∨ RF G vr k) w B L D M F nmL T1 g1 v
  rk : RkAt w B G (fun k => Z k ∨ WFoot L D M F v k) r Lf vr P
  zlt : ∀ k, Z k → k < w.heap.size
  zl : ∀ k, Z k → ¬ LT L D M F k
  zr : ∀ k, Z k → ¬ RF G vr k
section
variable {Z Z' S : Nat → Prop} {w w' : World} {B D M L G H g1 : Nat} {d d' : Dk} {F F' : List Ent} {T1 : List (List UInt8)} {v vr : Value} {r : Rk} {Lf : Fs} {P : List Value}
theorem WN.opened (h : WN Z w B D M G d F r Lf vr P) (c : DkCh D M F F' w w') (hd : DkAt w' B D M d' F') (hl : LgAt (fun k => Z k ∨ RF G vr k) w' B L D M F' nmL T1 g1 v) (hL : w.heap.size ≤ L) (hv : ∀ k, v.ownBlock = some k → w.heap.size ≤ k) : WM Z w' B D M L G d' F' T1 g1 v r Lf vr P := by
  refine ⟨hd, hl, ?_, fun k hk => Nat.lt_of_lt_of_le (h.zlt k hk) c.ch.size, fun k hk hx => ?_, h.zr⟩
  · refine ((h.rk.wider (E' := fun k => (Z k ∨ DFoot D M F k) ∨ w.heap.size ≤ k) (fun k hk => hk)).next' (T := fun k => (Z k ∨ DFoot D M F' k) ∨ w.heap.size ≤ k) c.ch (fun k _ hk => .inl (.inr hk)) (fun k hk hw => apart_rk h.dk h.rk hk hw) (fun k hk ht => ?_)).wider (fun k hk => .inl ?_)
    · rcases ht with (h1 | h1) | h1
      · exact .inl (.inl h1)
      · exact (c.dfoot h1).elim (fun h2 => .inl (.inr h2)) .inr
      · exact .inr h1
    · rcases hk with h1 | (h1 | h1) | h1
      · exact .inl (.inl h1)
      · rw [h1]; exact .inr hL
      · exact .inl (.inr h1)
      · exact .inr (hv k h1)
  · rcases hx with hx | hx
    · have := h.zlt k hk; omega
    · exact (c.dfoot hx).elim (h.zd k hk) (fun h1 => by have := h.zlt k hk; omega)
theorem WM.vown (h : WM Z w B D M L G d F T1 g1 v r Lf vr P) {k : Nat} (hk : v.ownBlock = some k) : ¬ (Z k ∨ RF G vr k) := fun hx => Rw.offT h.lg.rw hk (.inr hx)
theorem WM.rw_ (h : WM Z w B D M L G d F T1 g1 v r Lf vr P) {k : Nat} (hk : RF G vr k) (hw : WFoot L D M F v k) : False := by
  rcases hw with (rfl | hw) | hw
  · exact apart_tyR h.rk h.lg.row (by decide) (by decide) hk
  · exact apart_rk h.dk h.rk hk hw
  · exact h.vown hw (.inr hk)
theorem WM.below (h : WM Z w B D M L G d F T1 g1 v r Lf vr P) (hb : Below w.heap.size w w') : WM Z w' B D M L G d F T1 g1 v r Lf vr P :=
  ⟨h.dk.below hb, h.lg.below hb, h.rk.below hb, fun k hk => Nat.lt_of_lt_of_le (h.zlt k hk) hb.size, h.zl, h.zr⟩
theorem WM.chZ (h : WM Z w B D M L G d F T1 g1 v r Lf vr P) (c : Ch S w w') (hS : ∀ k, k < w.heap.size → S k → Z k) : WM Z w' B D M L G d F T1 g1 v r Lf vr P := by
  have hS' : ∀ k, (k < w.heap.size) → ¬ Z k → ¬ S k := fun k hk hz hs => hz (hS k hk hs)
  exact ⟨h.dk.ch c (fun k hk => hS' k (h.dk.foot_lt hk).2 (fun hz => h.zl k hz (.inr hk))), h.lg.chE c (fun k hk hs => .inl (hS k hk hs)) (hS' L h.lg.lt (fun hz => h.zl L hz (.inl rfl))),
    h.rk.next' c (fun k hk hs => .inl (hS k hk hs)) (fun k hk => hS' k (h.rk.foot_lt hk).2 (fun hz => h.zr k hz hk)) (fun _ _ ht => ht), fun k hk => Nat.lt_of_lt_of_le (h.zlt k hk) c.size, h.zl, h.zr⟩
theorem WM.setZ (h : WM Z w B D M L G d F T1 g1 v r Lf vr P) (hZ : ∀ k, Z' k → Z k) : WM Z' w B D M L G d F T1 g1 v r Lf vr P :=
  ⟨h.dk, h.lg.widen (fun k hk => .inl (hk.imp (hZ k) id)), h.rk.wider (fun k hk => .inl (hk.imp (hZ k) id)), fun k hk => h.zlt k (hZ k hk), fun k hk => h.zl k (hZ k hk), fun k hk => h.zr k (hZ k hk)⟩
/-- the document's log is open too -/
theorem WM.opened {r' : Rk} {L' : Fs} {vr' vh : Value} {P' : List Value} {T2 : List (List UInt8)} {g2 : Nat} (h : WM Z w B D M L G d F T1 g1 v r Lf vr P) (hr : RkAt w' B G (fun k => (Z k ∨ WFoot L D M F v k) ∨ RL H vh k) r' L' vr' P') (hl : RlAt (fun k => (Z k ∨ WFoot L D M F v k) ∨ RF G vr' k) w' B H G nmL T2 g2 vh)
    (c : Ch (RF G vr) w w') (ho : ∀ k, RF G vr' k → RF G vr k ∨ w.heap.size ≤ k) (hH : w.heap.size ≤ H) (hv : ∀ k, vh.ownBlock = some k → w.heap.size ≤ k) : WX Z w' B D M L G H d F T1 g1 v r' L' vr' P' T2 g2 vh := by
  have hoff : ∀ k, WFoot L D M F v k → ¬ RF G vr k := fun k hw hs => h.rw_ hs hw
  refine ⟨h.dk.ch c (fun k hk hs => hoff k (.inl (.inr hk)) hs), ?_, hr, hl, fun k hk => Nat.lt_of_lt_of_le (h.zlt k hk) c.size, h.zl, fun k hk hx => ?_⟩
  · refine (((h.lg.widen (E' := fun k => (Z k ∨ RF G vr k) ∨ w.heap.size ≤ k) (fun k hk => hk)).chE c (fun k _ hk => .inl (.inr hk)) (fun hs => hoff L (.inl (.inl rfl)) hs)).widen (fun k hk => .inl ?_))
    rcases hk with hk | hk | hk | hk
    · exact .inl (.inl hk)
    · exact (ho k hk).imp (fun h1 => .inr h1) id
    · rw [hk]; exact .inr hH
    · exact .inr (hv k hk)
  · exact (ho k hx).elim (h.zr k hk) (fun h1 => by have := h.zlt k hk; omega)
/-- what the closure of open leaves -/
def OFn (Z : Nat → Prop) (w : World) (B D M G X : Nat) (h0 : Value) (d : Dk) (F : List Ent) (r : Rk) (Lf : Fs) (vr : Value) (P : List Value) (w' : World) : Prop :=
  ∃ L v F', WM Z w' B D M L G (openD d (fsOf F) nmL).2.1 F' (scan (bsOf (fsOf F) nmL)).1 (scan (bsOf (fsOf F) nmL)).2.1 v r Lf vr P ∧ fsOf F' = (openD d (fsOf F) nmL).2.2 ∧ w'.heap[X]? = some (.cells #[pD D, pL L, pR G, h0] TW14) ∧ Ch (fun k => k = X ∨ DFoot D M F k) w w'
set_option maxRecDepth 100000 in
set_option maxHeartbeats 8000000 in
theorem openFn14 {X BX : Nat} {l0 h0 : Value} (h : WN Z w B D M G d F r Lf vr P) (ok : FsOk d (fsOf F)) (ho : d.ops + 8 ≤ 1152921504606846976) (hB : B ≤ w.heap.size) (hop : (openD d (fsOf F) nmL).1 = .inl 0) (hZX : Z X) (hX : w.heap[X]? = some (.cells #[pD D, l0, pR G, h0] TW14)) (hbx : w.heap[BX]? = some (.cells #[pX14 X] TWP14)) :
    Calls Try.prog 53 #[.pointer (some ⟨BX, 0, none⟩)] w fun e w' => e = .returned (.int .i64 0) ∧ OFn Z w B D M G X h0 d F r Lf vr P w' := by
  obtain ⟨S, hSd⟩ : ∃ S : World → Prop, ∀ W, S W ↔ (W.cell? ⟨BX, 0, none⟩ = some (pX14 X) ∧ W.cell? ⟨X, 0, none⟩ = some (pD D)) := ⟨_, fun _ => Iff.rfl⟩
  have c0 : ∀ n : Meets S, n.u.cell? ⟨BX, 0, none⟩ = some (pX14 X) := fun n => ((hSd _).1 n.h).1
  have c1 : ∀ n : Meets S, n.u.cell? ⟨X, 0, none⟩ = some (pD D) := fun n => ((hSd _).1 n.h).2
  have HS := Lib.hid hSd
  have H := Lib.hid h
  have HOK := Lib.hid ok
  have HO := Lib.hid ho
  have HB := Lib.hid hB
  have HOP := Lib.hid hop
  have HZX := Lib.hid hZX
  have HX := Lib.hid hX
  have HBX := Lib.hid hbx
  have HNE : Hid (BX ≠ X) := Lib.hid (fun e => by
    rw [e, hX] at hbx
    simp only [Option.some.injEq, Obj.cells.injEq] at hbx
    exact absurd hbx.2.1 (by decide))
  clear h ok ho hB hop hZX hX hbx hSd
  go_enter Try.func53, Try.ntmps53
  go_wp2_with (fail)
  refine region_plan S [([0, 1, 2, 3, 4], 5), ([6, 7, 8, 9, 10], 11)] [12] (by kernel_rfl) (by kernel_rfl) (fun _ _ _ _ _ h => h) ((HS.out _).2 ⟨cell_of_row w BX 0 _ _ _ HBX.out, cell_of_row w X 0 _ _ _ HX.out⟩) (fun hne => ?_)
  simp only [wpPlan, pick, List.getElem?_cons_zero, List.getElem?_cons_succ, Option.elim]
  repeat (go_big_quiet_step (fail))
  refine wpQuiet_nil ?_
  intro K hK
  go_simp
  have hb0 : Below w.heap.size w w.drew := (Below.refl _ w).drew
  refine (walOpen (E := fun k => Z k ∨ RF G vr k) (H.out.dk.below hb0) HOK.out HO.out nmL (by decide) (by decide) HB.out (fun k hk => ?_)).mono ?_
  · rcases hk with hk | hk
    · exact H.out.zlt k hk
    · exact (H.out.rk.foot_lt hk).2
  intro e w2 hx
  obtain ⟨F2, h2, f2, c2, hm⟩ := hx
  rw [HOP.out] at hm
  obtain ⟨L, v, rfl, hl, hL, hv⟩ := hm
  have c2' : DkCh D M F F2 w w2 := (DkCh.of_below hb0).trans c2
  have HWM := Lib.hid (H.out.opened c2' h2 hl hL hv)
  have HX2 : Hid (w2.heap[X]? = some (.cells #[pD D, l0, pR G, h0] TW14)) := Lib.hid (c2'.ch.row HX.out (apart_ty H.out.dk HX.out (by decide) (by decide) (by decide)))
  have HBX2 : Hid (w2.heap[BX]? = some (.cells #[pX14 X] TWP14)) := Lib.hid (c2'.ch.row HBX.out (apart_ty H.out.dk HBX.out (by decide) (by decide) (by decide)))
  have HF2 := Lib.hid f2
  have HC2 := Lib.hid c2'.ch
  clear h2 f2 c2 hl hL hv c2' hb0
  dsimp only
  refine hK.out _ _ ((HS.out _).2 ⟨cell_of_row w2 BX 0 _ _ _ HBX2.out, cell_of_row w2 X 0 _ _ _ HX2.out⟩) (fun _ => ?_)
  clear hK K
  repeat (go_big_quiet_step (fail))
  refine wpQuiet_nil ?_
  intro K hK
  have z1 : w2.cell? ⟨X, 1, none⟩ = some l0 := cell_of_row w2 X 1 _ _ _ HX2.out
  have z2 : w2.frozen? ⟨X, 1, none⟩ = false := frz HX2.out
  go_simp
  have hcs : Ch (At1 X) w2 (w2.setCell ⟨X, 1, none⟩ (pL L)) := (Ch.refl _ w2).set1 1 _
  have HX3 : Hid ((w2.setCell ⟨X, 1, none⟩ (pL L)).heap[X]? = some (.cells #[pD D, pL L, pR G, h0] TW14)) := Lib.hid (heap_set_row HX2.out _)
  have HBX3 : Hid ((w2.setCell ⟨X, 1, none⟩ (pL L)).heap[BX]? = some (.cells #[pX14 X] TWP14)) := Lib.hid (hcs.row HBX2.out HNE.out)
  have HF : Hid (OFn Z w B D M G X h0 d F r Lf vr P (w2.setCell ⟨X, 1, none⟩ (pL L))) := Lib.hid ⟨L, v, F2, HWM.out.chZ hcs (fun k _ hk => by rw [show k = X from hk]; exact HZX.out), HF2.out, HX3.out, (HC2.out.wide (fun _ hk => .inr hk)).trans hcs (fun k _ hk => .inl hk)⟩
  clear hcs z1 z2
  refine hK.out _ _ ((HS.out _).2 ⟨cell_of_row _ BX 0 _ _ _ HBX3.out, cell_of_row _ X 0 _ _ _ HX3.out⟩) (fun _ => ?_)
  clear hK K
  repeat (go_big_quiet_step (fail))
  refine wpQuiet_nil ?_
  clear c0 c1
  generalize w2.setCell ⟨X, 1, none⟩ (pL L) = w3 at *
  go_wp2_with (fail)
  go_ret
  exact ⟨rfl, HF.out⟩
end
end Go.Proofs.Ythblbmbefhlbjaa
/- Layer 14: guard's Do over the closure of open; is all the document's? -/
namespace Go.Proofs.Ythblbmbefhlbjaa
open Go.RowKit Go.MapKept

theorem okOpen14 : FnOkG 53 := fun args w => Go.MuLone.run_callFunc_enter Try.func53 (by kernel_rfl) rfl args w
section
variable {Z Z' S : Nat → Prop} {w w' : World} {B D M L G H g1 : Nat} {d d' : Dk} {F F' : List Ent} {T1 : List (List UInt8)} {v vr : Value} {r : Rk} {Lf : Fs} {P : List Value}
theorem openDo14 {X BX : Nat} {l0 h0 : Value} (h : WN Z w B D M G d F r Lf vr P) (ok : FsOk d (fsOf F)) (ho : d.ops + 8 ≤ 1152921504606846976) (hB : B ≤ w.heap.size) (hop : (openD d (fsOf F) nmL).1 = .inl 0) (hZX : Z X) (hX : w.heap[X]? = some (.cells #[pD D, l0, pR G, h0] TW14)) (hbx : w.heap[BX]? = some (.cells #[pX14 X] TWP14)) :
    Calls Try.prog 22 #[.func (.func 53) #[] #[.pointer (some ⟨BX, 0, none⟩)]] w fun e w' => e = .returned (.tuple #[.int .i64 0, crash 0, .bool false]) ∧ OFn Z w B D M G X h0 d F r Lf vr P w' := by
  have hXl := (Array.getElem?_eq_some_iff.1 hX).1
  have hBl := (Array.getElem?_eq_some_iff.1 hbx).1
  refine (guardDoS _ w (fun x w1 w' => x = 0 ∧ OFn (fun k => Z k ∨ (w.heap.size ≤ k ∧ k < w1.heap.size)) w1 B D M G X h0 d F r Lf vr P w') (fun op w1 w' => False) ?_).mono ?_
  · intro w1 hb1
    refine ⟨_, _, rfl, okOpen14, ?_⟩
    refine (openFn14 (h.newZ hb1) ok ho (Nat.le_trans hB hb1.size) hop (.inl hZX) ((hb1.block X hXl).trans hX) ((hb1.block BX hBl).trans hbx)).mono ?_
    rintro e w2 ⟨rfl, hf⟩
    have hf' := hf
    obtain ⟨L, v, F2, h2, f2, x2, c2⟩ := hf
    refine ⟨fun b hb hlt => c2.block b hlt (fun hs => ?_), c2.size, .inl ⟨0, rfl, rfl, hf'⟩⟩
    rcases hs with hs | hs
    · omega
    · have := (h.dk.foot_lt hs).2; omega
  · rintro e w'' ⟨w1, w', hb1, hz, hc, hcase⟩
    rcases hcase with ⟨x, rfl, rfl, L, v, F2, h2, f2, x2, c2⟩ | ⟨op, _, hf⟩
    · refine ⟨rfl, L, v, F2, (h2.chZ hc (fun k _ hk => .inr hk)).setZ (fun k hk => .inl hk), f2, hc.row x2 (fun hk => by omega), ((Ch.of_below (S := fun k => k = X ∨ DFoot D M F k) hb1).trans c2 (fun _ _ hk => hk)).trans hc (fun k hk hs => by omega)⟩
    · exact hf.elim
end
end Go.Proofs.Ythblbmbefhlbjaa
/- Layer 14: is all the document's? -/
namespace Go.Proofs.Ythblbmbefhlbjaa
open Go.RowKit Go.MapKept

section
variable {Z Z' S : Nat → Prop} {w w' : World} {B D M L G H g : Nat} {d d' : Dk} {F F' : List Ent} {T : List (List UInt8)} {v vr vh : Value} {r : Rk} {Lf : Fs} {P : List Value}
theorem Sim.safe (h : Sim d (fsOf F) r Lf) (ok : FsOk d (fsOf F)) (n : ByteArray) : safeOf Lf n = syncedOf (fsOf F) n := by
  unfold safeOf syncedOf
  rw [h.get ok n]
  cases fget (fsOf F) n <;> rfl
theorem RlAt.get {T' : Nat → Prop} {rs : List (List UInt8)} (h : RlAt T' w B H G nmL rs g v) {i : Nat} (hi : i < rs.length) : ∃ b o c A k, v = .slice (some ⟨b, o, none⟩) rs.length c ∧ rs.length ≤ c ∧ c ≤ maxLen ∧ w.cell? ⟨b, o + i, none⟩ = some (.slice A (rs.getD i []).length k) ∧ Bs w A (rs.getD i []).length k (rs.getD i []) := by
  obtain ⟨A, c, e, hr⟩ := h.rw.rd
  obtain ⟨b, o, rfl, hlt, hc⟩ := hr.2.2.2 (by omega)
  obtain ⟨A', k, hx, hb⟩ := hc i (rs.getD i []) (by rw [List.getD_eq_getElem?_getD, List.getElem?_eq_getElem hi]; rfl)
  exact ⟨b, o, c, A', k, e, hr.2.1, hr.2.2.1, hx, hb⟩
set_option maxRecDepth 100000 in
set_option maxHeartbeats 8000000 in
theorem worldSame14 {X : Nat} (h : WX Z w B D M L G H d F T g v r Lf vr P T g vh) (hs : Sim d (fsOf F) r Lf) (ok : FsOk d (fsOf F)) (hL : Lf.length ≤ 10000) (hT : ∀ x ∈ T, okLen x.length = true) (hX : w.heap[X]? = some (.cells #[pD D, pL L, pR G, pH H] TW14)) (hn : T.length ≤ 1099511627770) :
    Calls Try.prog 38 #[pX14 X] w fun e w' => e = .returned (.bool true) ∧ Below w.heap.size w w' := by
  have HW := Lib.hid h
  have HS := Lib.hid hs
  have HOK := Lib.hid ok
  have HL := Lib.hid hL
  have HT := Lib.hid hT
  have HX := Lib.hid hX
  have HXL := Lib.hid (Array.getElem?_eq_some_iff.1 hX).1
  have HN := Lib.hid hn
  have c0 : w.cell? ⟨X, 0, none⟩ = some (pD D) := cell_of_row w X 0 _ _ _ hX
  clear h hs ok hL hT hX hn
  go_enter Try.func38, Try.ntmps38
  go_wp2_with (fail)
  refine (mReadW HW.out.dk HOK.out.dk.lens nmL).mono ?_
  rintro e w1 ⟨A1, c1, x1, rfl, hB1, _, hb1⟩
  have HBS1 := Lib.hid hB1
  have HB1 := Lib.hid hb1
  have H1 := Lib.hid (HW.out.below hb1)
  have c2 : w1.cell? ⟨X, 2, none⟩ = some (pR G) := cell_of_row w1 X 2 _ _ _ ((hb1.block X HXL.out).trans HX.out)
  clear hB1 hb1 c0
  go_wp2_with (fail)
  refine (rkBytes H1.out.rk nmL (by have := HL.out; omega)).mono ?_
  intro e w2 hx
  obtain ⟨A2, c2', fnd, rfl, rfl, hB2⟩ : ∃ A2 c2 fnd, w1 = w2 ∧ e = .returned (.tuple #[.slice A2 (bsOf (fsOf F) nmL).length c2, .bool fnd]) ∧ Bs w1 A2 (bsOf (fsOf F) nmL).length c2 (bsOf (fsOf F) nmL) := by
    rw [← HS.out.bytes HOK.out nmL]
    unfold bsOf
    obtain ⟨hw, ⟨h1, h2⟩ | ⟨f, A, m, c, h1, h2, h3⟩⟩ := hx
    · rw [h1]; exact ⟨none, 0, false, hw, h2, Bs.none_ _⟩
    · rw [h1]; have hl := h3.len; subst hl; exact ⟨A, c, true, hw, h2, h3⟩
  clear hx c2
  have hcv1 := fun q : Later w1 => (HBS1.out.below q.h).str (P := Try.prog) 27 5 9 Try.underlying27 Try.underlying5 Try.underlying9
  have hcv2 := fun q : Later w1 => (hB2.below q.h).str (P := Try.prog) 27 5 9 Try.underlying27 Try.underlying5 Try.underlying9
  have HRX : Hid (∀ q : Later w1, q.u.heap[X]? = some (.cells #[pD D, pL L, pR G, pH H] TW14)) := Lib.hid (fun q => (q.h.block X (Nat.lt_of_lt_of_le HXL.out HB1.out.size)).trans ((HB1.out.block X HXL.out).trans HX.out))
  have y0 : ∀ q : Later w1, q.u.cell? ⟨X, 0, none⟩ = some (pD D) := fun q => cell_of_row _ X 0 _ _ _ (HRX.out q)
  have y1 : ∀ q : Later w1, q.u.cell? ⟨X, 1, none⟩ = some (pL L) := fun q => cell_of_row _ X 1 _ _ _ (HRX.out q)
  have y2 : ∀ q : Later w1, q.u.cell? ⟨X, 2, none⟩ = some (pR G) := fun q => cell_of_row _ X 2 _ _ _ (HRX.out q)
  have y3 : ∀ q : Later w1, q.u.cell? ⟨X, 3, none⟩ = some (pH H) := fun q => cell_of_row _ X 3 _ _ _ (HRX.out q)
  obtain ⟨Ah, ch, rfl⟩ := H1.out.rl.rw.form
  have h2 : ∀ q : Later w1, q.u.cell? ⟨H, 2, none⟩ = some (.slice Ah T.length ch) := fun q => (H1.out.rl.below q.h).cell 2
  have h3 : ∀ q : Later w1, q.u.cell? ⟨H, 3, none⟩ = some (.int .i64 (g : Int)) := fun q => (H1.out.rl.below q.h).cell 3
  have g2 : ∀ q : Later w1, q.u.cell? ⟨G, 2, none⟩ = some (.int .i64 d.ops) := fun q => by have := (H1.out.rk.below q.h).cell 2; rw [← HS.out.count]; exact this
  have HSY : Hid (∀ q : Later w1, Calls Try.prog 32 #[pD D, .string nmL] q.u fun e w' => e = .returned (.int .i64 (syncedOf (fsOf F) nmL)) ∧ q.u = w') := Lib.hid (fun q => dkSynced (H1.out.dk.below q.h) nmL)
  have HSF : Hid (∀ q : Later w1, Calls Try.prog 60 #[pR G, .string nmL] q.u fun e w' => e = .returned (.int .i64 (syncedOf (fsOf F) nmL)) ∧ q.u = w') := Lib.hid (fun q => by have h1 := rkSafe (H1.out.rk.below q.h) nmL (by have := HL.out; omega); rw [HS.out.safe HOK.out] at h1; exact h1)
  have HOP : Hid (∀ q : Later w1, Calls Try.prog 20 #[pD D] q.u fun e w' => e = .returned (.int .i64 d.ops) ∧ q.u = w') := Lib.hid (fun q => dkOps (H1.out.dk.below q.h))
  have HLE : Hid (∀ q : Later w1, Calls Try.prog 14 #[pL L] q.u fun e w' => e = .returned (.int .i64 (T.length : Int)) ∧ q.u = w') := Lib.hid (fun q => (walLen (H1.out.lg.below q.h)).mono (fun e w' hh => ⟨hh.1, hh.2.symm⟩))
  have HGO : Hid (∀ q : Later w1, Calls Try.prog 15 #[pL L] q.u fun e w' => e = .returned (.int .i64 (g : Int)) ∧ q.u = w') := Lib.hid (fun q => (walGood (H1.out.lg.below q.h)).mono (fun e w' hh => ⟨hh.1, hh.2.symm⟩))
  clear hB2 HBS1
  generalize txt (bsOf (fsOf F) nmL) = Xs at *
  generalize (bsOf (fsOf F) nmL).length = len at *
  generalize syncedOf (fsOf F) nmL = sy at *
  obtain ⟨q, hq⟩ : ∃ q, q = T.length := ⟨_, rfl⟩
  have HQ := Lib.hid hq
  rw [← hq] at h2 HLE
  clear hq
  go_wp2_with (fail)
  try simp only [List.append]
  refine region_later (by kernel_rfl) (by kernel_rfl) ?_
  repeat (go_big_quiet_step ((first | (go_at_call 32; exact Calls.later_same (HSY.out _)) | (go_at_call 60; exact Calls.later_same (HSF.out _)) | (go_at_call 20; exact Calls.later_same (HOP.out _)) | (go_at_call 14; exact Calls.later_same (HLE.out _)) | (go_at_call 15; exact Calls.later_same (HGO.out _)))))
  refine wpQuiet_nil ?_
  intro nq
  have HNQ := Lib.hid nq.h
  clear hcv1 hcv2 y0 y1 y2 h3 g2 HSY HSF HOP HLE HGO
  have y3' : nq.u.cell? ⟨X, 3, none⟩ = some (pH H) := y3 nq
  have h2' : nq.u.cell? ⟨H, 2, none⟩ = some (.slice Ah q ch) := h2 nq
  clear y3 h2
  go_wp2_with (fail)
  clear y3' h2'
  go_loopw [103] (fun i wr => ∃ k : Nat, k ≤ q ∧ i = .int .i64 k ∧ Below w1.heap.size w1 wr) (fun i _ => q - (intOf i).toNat)
  case atStart => exact ⟨0, by omega, rfl, HNQ.out⟩
  case round =>
    obtain ⟨wo, rfl⟩ : ∃ wo : World, wo = wr := ⟨_, rfl⟩
    obtain ⟨k, hk, rfl, hb⟩ := hrel
    have HB := Lib.hid hb
    have HWK := Lib.hid (H1.out.below hb)
    have hxk := (hb.block X (Nat.lt_of_lt_of_le HXL.out HB1.out.size)).trans ((HB1.out.block X HXL.out).trans HX.out)
    have HXK := Lib.hid hxk
    have y1 : wo.cell? ⟨X, 1, none⟩ = some (pL L) := cell_of_row _ X 1 _ _ _ hxk
    clear hb hxk HNQ
    by_cases hlt : k < q
    · have hkl : k < T.length := by have := HQ.out; omega
      obtain ⟨b, o, c, A, kc, hv, hc1, hc2, hcx, hBk⟩ := HWK.out.rl.get hkl
      injection hv with hv1 hv2 hv3
      subst hv1 hv3
      have hin : T.getD k [] ∈ T := by rw [List.getD_eq_getElem?_getD, List.getElem?_eq_getElem hkl]; exact List.getElem_mem hkl
      have hlen := (okLen_yes (HT.out _ hin)).2
      have HGT := Lib.hid (walGet HWK.out.lg k hkl hlen)
      have HBK := Lib.hid hBk
      have hqc : (q : Int) ≤ (ch : Int) := by have := HQ.out; omega
      have hkq : (k : Int) < (q : Int) := by omega
      have hw5 : IntKind.i64.wrap ((k : Int) + 1) = (k : Int) + 1 := IntWalk.i64_in _ (by have := HN.out; have := HQ.out; omega)
      clear hin hBk hc1 hc2
      generalize T.getD k [] = x at *
      go_wp2_with (fail)
      refine HGT.out.mono ?_
      rintro e w3 ⟨A3, c3, rfl, hB3, _, hb3⟩
      have hs1 := hB3.str (P := Try.prog) 27 5 9 Try.underlying27 Try.underlying5 Try.underlying9
      have hs2 := (HBK.out.below hb3).str (P := Try.prog) 27 5 9 Try.underlying27 Try.underlying5 Try.underlying9
      have HB3 := Lib.hid (HB.out.trans (hb3.mono HB.out.size))
      clear hB3 hb3 hcx y1
      generalize txt x = Xs at *
      go_wp2_with (fail)
      exact ⟨⟨k + 1, by omega, by go_num, HB3.out⟩, by simp [intOf]; omega⟩
    · obtain rfl : k = q := by omega
      clear hlt
      have HGT := Lib.hid (walGet_out HWK.out.lg (-1) (.inl (by decide)))
      go_wp2_with (fail)
      refine HGT.out.mono ?_
      rintro e w3 ⟨A3, c3, rfl, hB3, _, hb3⟩
      have HB3 := Lib.hid (HB.out.trans (hb3.mono HB.out.size))
      have HW3 := Lib.hid (HWK.out.below hb3)
      have HXK3 := Lib.hid ((hb3.block X (Nat.lt_of_lt_of_le HXL.out (Nat.le_trans HB1.out.size HB.out.size))).trans HXK.out)
      obtain ⟨S, hSd⟩ : ∃ S : World → Prop, ∀ W, S W ↔ (W.cell? ⟨X, 1, none⟩ = some (pL L) ∧ W.cell? ⟨X, 3, none⟩ = some (pH H) ∧ W.cell? ⟨H, 2, none⟩ = some (.slice Ah T.length ch)) := ⟨_, fun _ => Iff.rfl⟩
      have s1 : ∀ n : Meets S, n.u.cell? ⟨X, 1, none⟩ = some (pL L) := fun n => ((hSd _).1 n.h).1
      have s3 : ∀ n : Meets S, n.u.cell? ⟨X, 3, none⟩ = some (pH H) := fun n => ((hSd _).1 n.h).2.1
      have s4 : ∀ n : Meets S, n.u.cell? ⟨H, 2, none⟩ = some (.slice Ah T.length ch) := fun n => ((hSd _).1 n.h).2.2
      have HSD := Lib.hid hSd
      clear hB3 hb3 y1 hSd
      go_wp2_with (fail)
      refine region_plan S [([0, 1, 2, 3, 4, 5, 6, 7, 8, 9, 10, 11], 12)] [13, 14, 15, 16, 17] (by kernel_rfl) (by kernel_rfl) (fun _ _ _ _ _ h => h) ((HSD.out _).2 ⟨cell_of_row _ X 1 _ _ _ HXK3.out, cell_of_row _ X 3 _ _ _ HXK3.out, HW3.out.rl.cell 2⟩) (fun hne => ?_)
      simp only [wpPlan, pick, List.getElem?_cons_zero, List.getElem?_cons_succ, Option.elim]
      repeat (go_big_quiet_step (fail))
      refine wpQuiet_nil ?_
      intro K hK
      have hb4 : Below w3.heap.size w3 w3.drew := (Below.refl _ w3).drew
      have HGT2 := Lib.hid (walGet_out (HW3.out.below hb4).lg (T.length : Int) (.inr (Int.le_refl _)))
      have HXK4 := Lib.hid ((hb4.block X (Array.getElem?_eq_some_iff.1 HXK3.out).1).trans HXK3.out)
      have HW4 := Lib.hid (HW3.out.below hb4)
      have HB4 := Lib.hid (HB3.out.trans (hb4.mono HB3.out.size))
      clear hb4
      go_simp
      refine HGT2.out.mono ?_
      rintro e w5 ⟨A5, c5, rfl, hB5, _, hb5⟩
      have HXK5 := Lib.hid ((hb5.block X (Array.getElem?_eq_some_iff.1 HXK4.out).1).trans HXK4.out)
      have HB5 := Lib.hid (HB1.out.trans ((HB4.out.trans (hb5.mono HB4.out.size)).mono HB1.out.size))
      have s5 := (HW4.out.below hb5).rl.cell 2
      clear hB5 hb5
      dsimp only
      refine hK.out _ _ ((HSD.out _).2 ⟨cell_of_row _ X 1 _ _ _ HXK5.out, cell_of_row _ X 3 _ _ _ HXK5.out, s5⟩) (fun _ => ?_)
      clear hK K s5
      repeat (go_big_quiet_step (fail))
      refine wpQuiet_nil ?_
      clear s1 s3 s4
      go_wp2_with (fail)
      go_ret
      exact ⟨rfl, HB5.out⟩
end
end Go.Proofs.Ythblbmbefhlbjaa
/- Layer 14: the law's world opens its log. -/
namespace Go.Proofs.Ythblbmbefhlbjaa
open Go.RowKit Go.MapKept

theorem openD_len (d : Dk) (fs : Fs) (nm : ByteArray) : (openD d fs nm).2.2.length ≤ fs.length + 2 := by
  unfold openD
  split
  · show fs.length ≤ _; omega
  · have h1 := trunc_len d fs nm ((scan (bsOf fs nm)).2.1 : Int)
    generalize opTrunc d fs nm ((scan (bsOf fs nm)).2.1 : Int) = o at h1
    obtain ⟨x | op, d2, fs2⟩ := o
    · have h2 := sync_len d2 fs2 nm
      show (opSync d2 fs2 nm).2.2.length ≤ _
      simp only at h1
      omega
    · show fs2.length ≤ _
      simp only at h1
      omega
/-- disk and log as they are told -/
structure WS (Z : Nat → Prop) (w : World) (B D M L G H X : Nat) (d : Dk) (F : List Ent) (T : List (List UInt8)) (v : Value) (r : Rk) (Lf : Fs) (vr : Value) (P : List Value) (vh : Value) : Prop where
  x : WX Z w B D M L G H d F T (recs T).length v r Lf vr P T (recs T).length vh
  sim : Sim d (fsOf F) r Lf
  ok : FsOk d (fsOf F)
  fs : WalFs (fsOf F) nmL T
  row : w.heap[X]? = some (.cells #[pD D, pL L, pR G, pH H] TW14)
  zx : Z X
  xb : B ≤ X
/-- what open leaves -/
def OpenEnd (Z : Nat → Prop) (w : World) (B D M G X : Nat) (o : Out) (T : List (List UInt8)) (w' : World) : Prop :=
  ∃ L H F' v r' Lf' vr' P' vh, WS Z w' B D M L G H X o.2.1 F' T v r' Lf' vr' P' vh ∧ fsOf F' = o.2.2 ∧ Below B w w'
section
variable {Z Z' S : Nat → Prop} {w w' : World} {B D M L G H g1 : Nat} {d d' : Dk} {F F' : List Ent} {T : List (List UInt8)} {v vr : Value} {r : Rk} {Lf : Fs} {P : List Value}
theorem recs_num {d : Dk} {fs : Fs} {T : List (List UInt8)} (ok : FsOk d fs) (h : WalFs fs nmL T) : T.length ≤ (recs T).length ∧ (recs T).length ≤ 1073741824 := by
  have h1 := recs_len T
  have h2 : (bsOf fs nmL).length ≤ 1073741824 := by
    unfold bsOf
    cases hf : fget fs nmL with
    | none => simp
    | some f =>
      have h3 := ok.len hf
      have h4 := ok.ok.used
      show f.bs.length ≤ _
      omega
  rw [walFs_bs h] at h2
  exact ⟨h1, h2⟩
set_option maxRecDepth 100000 in
set_option maxHeartbeats 8000000 in
theorem worldOpen14 {X : Nat} {l0 h0 : Value} (h : WN Z w B D M G d F r Lf vr P) (hs : Sim d (fsOf F) r Lf) (ok : FsOk d (fsOf F)) (ho : d.ops + 8 ≤ 1152921504606846976) (hB : B ≤ w.heap.size) (hL : F.length ≤ 9000) (hop : (openD d (fsOf F) nmL).1 = .inl 0) (hT : (scan (bsOf (fsOf F) nmL)).1 = T ∧ (scan (bsOf (fsOf F) nmL)).2.1 = (recs T).length)
    (hfs : WalFs (openD d (fsOf F) nmL).2.2 nmL T) (hZX : Z X) (hXB : B ≤ X) (hX : w.heap[X]? = some (.cells #[pD D, l0, pR G, h0] TW14)) :
    Calls Try.prog 34 #[pX14 X] w fun e w' => e = .returned (.bool true) ∧ OpenEnd Z w B D M G X (openD d (fsOf F) nmL) T w' := by
  have hmf : ∀ (fn : Fn) (first cap : Array Value) (w : World), (Instr.makeFunc fn first cap).run Try.prog w = .ok (.func fn first cap) w := fun _ _ _ _ => rfl
  have hbb : Below w.heap.size w (w.alloc (.cells #[pX14 X] TWP14)) := (Below.refl _ _).alloc (Nat.le_refl _) _
  have HBX : Hid ((w.alloc (.cells #[pX14 X] TWP14)).heap[w.heap.size]? = some (.cells #[pX14 X] TWP14)) := Lib.hid (heap_alloc_new w _)
  have H1 := Lib.hid (h.below hbb)
  have HX1 := Lib.hid ((hbb.block X (Array.getElem?_eq_some_iff.1 hX).1).trans hX)
  have HB1 : Hid (Below B w (w.alloc (.cells #[pX14 X] TWP14))) := Lib.hid (hbb.mono hB)
  have HBW : Hid (B ≤ (w.alloc (.cells #[pX14 X] TWP14)).heap.size) := Lib.hid (Nat.le_trans hB hbb.size)
  have HS := Lib.hid hs
  have HOK := Lib.hid ok
  have HO := Lib.hid ho
  have HL := Lib.hid hL
  have HOP := Lib.hid hop
  have HT := Lib.hid hT
  have HFS := Lib.hid hfs
  have HZX := Lib.hid hZX
  have HXB := Lib.hid hXB
  obtain ⟨BX, hbx⟩ : ∃ BX, BX = w.heap.size := ⟨_, rfl⟩
  rw [← hbx] at HBX
  have HBXE := Lib.hid hbx
  clear h hs ok ho hB hL hop hT hfs hZX hXB hX hbb hbx
  go_enter Try.func34, Try.ntmps34
  go_wp2_with (fail)
  rw [← HBXE.out]
  generalize w.alloc (.cells #[pX14 X] TWP14) = w1 at *
  go_loopw [9] (fun i wr => i = .int .i64 0 ∧ wr = w1) (fun _ _ => 0)
  case atStart => exact ⟨rfl, rfl⟩
  case round =>
    obtain ⟨rfl, hwr⟩ := hrel
    obtain rfl := hwr.symm
    clear hwr
    go_wp2_with (fail)
    refine (openDo14 H1.out HOK.out HO.out HBW.out HOP.out HZX.out HX1.out HBX.out).mono ?_
    rintro e w2 ⟨rfl, L, v, F2, h2, f2, x2, c2⟩
    have hbc : Below w2.heap.size w2 (w2.alloc (.cells #[.int .i64 0] 49)) := (Below.refl _ _).alloc (Nat.le_refl _) _
    have hbx2 : w2.heap[BX]? = some (.cells #[pX14 X] TWP14) := c2.row HBX.out (fun hk => by
      rcases hk with hk | hk
      · have h5 := HBX.out
        rw [hk, HX1.out] at h5
        simp only [Option.some.injEq, Obj.cells.injEq] at h5
        exact absurd h5.2.1 (by decide)
      · exact apart_ty H1.out.dk HBX.out (by decide) (by decide) (by decide) hk)
    have HBX3 := Lib.hid ((hbc.block BX (Array.getElem?_eq_some_iff.1 hbx2).1).trans hbx2)
    have HX3 := Lib.hid ((hbc.block X (Array.getElem?_eq_some_iff.1 x2).1).trans x2)
    have HM3 := Lib.hid (h2.below hbc)
    have HB3 : Hid (Below B w (w2.alloc (.cells #[.int .i64 0] 49))) := Lib.hid ((HB1.out.trans (c2.below (fun k hk => by
      rcases hk with hk | hk
      · rw [hk]; exact HXB.out
      · exact (H1.out.dk.foot_lt hk).1) HBW.out)).trans (hbc.mono (Nat.le_trans HBW.out c2.size)))
    have HBW3 : Hid (B ≤ (w2.alloc (.cells #[.int .i64 0] 49)).heap.size) := Lib.hid (Nat.le_trans (Nat.le_trans HBW.out c2.size) hbc.size)
    have HF2 := Lib.hid f2
    have e0 : (w2.alloc (.cells #[.int .i64 0] 49)).cell? ⟨BX, 0, none⟩ = some (pX14 X) := cell_of_row _ BX 0 _ _ _ HBX3.out
    have e2 : (w2.alloc (.cells #[.int .i64 0] 49)).cell? ⟨X, 2, none⟩ = some (pR G) := cell_of_row _ X 2 _ _ _ HX3.out
    clear h2 f2 x2 c2 hbx2 hbc H1 HX1 HBX HB1 HBW
    go_wp2_with (fail)
    generalize w2.alloc (.cells #[.int .i64 0] 49) = w3 at *
    have hbs : (bsOf (fsOf F) nmL).length ≤ 1000000000 → True := fun _ => trivial
    refine (refOpen14 (O := fun k => Z k ∨ WFoot L D M F2 v k) HM3.out.rk HS.out HOK.out HO.out (by have h5 := HS.out.perm.length_eq; have h6 := HL.out; simp [fsOf] at h5; omega) (fun k hk => ?_) HBW3.out (by decide) (by decide) ?_ HOP.out).mono ?_
    · rcases hk with hk | hk
      · exact HM3.out.zlt k hk
      · exact (HM3.out.lg.foot_lt HM3.out.dk hk).2
    · have h5 := bsOf_len HOK.out nmL
      omega
    intro e w4 hx
    obtain ⟨H, r4, L4, vr4, P4, vh, rfl, hs4, hr4, hl4, hc4, ho4, hH, hv4⟩ := hx
    rw [HT.out.1, HT.out.2] at hl4
    have HX4 : Hid (WX Z w4 B D M L G H (openD d (fsOf F) nmL).2.1 F2 T (recs T).length v r4 L4 vr4 P4 T (recs T).length vh) := Lib.hid (by
      have h5 := HM3.out
      rw [HT.out.1, HT.out.2] at h5
      exact h5.opened hr4 hl4 hc4 ho4 hH hv4)
    have HBX4 : Hid (w4.heap[BX]? = some (.cells #[pX14 X] TWP14)) := Lib.hid (hc4.row HBX3.out (apart_tyR HM3.out.rk HBX3.out (by decide) (by decide)))
    have HXR4 : Hid (w4.heap[X]? = some (.cells #[pD D, pL L, pR G, h0] TW14)) := Lib.hid (hc4.row HX3.out (apart_tyR HM3.out.rk HX3.out (by decide) (by decide)))
    have HB4 : Hid (Below B w w4) := Lib.hid (HB3.out.trans (hc4.below (fun k hk => (HM3.out.rk.foot_lt hk).1) HBW3.out))
    have HS4 : Hid (Sim (openD d (fsOf F) nmL).2.1 (fsOf F2) r4 L4) := Lib.hid (by rw [HF2.out]; exact hs4)
    have e4 : w4.cell? ⟨BX, 0, none⟩ = some (pX14 X) := cell_of_row _ BX 0 _ _ _ HBX4.out
    have e5 : w4.cell? ⟨X, 3, none⟩ = some h0 := cell_of_row _ X 3 _ _ _ HXR4.out
    have e6 : w4.frozen? ⟨X, 3, none⟩ = false := frz HXR4.out
    have HNE : Hid (BX ≠ X) := Lib.hid (fun e => by
      have h5 := HBX4.out
      rw [e, HXR4.out] at h5
      simp only [Option.some.injEq, Obj.cells.injEq] at h5
      exact absurd h5.2.1 (by decide))
    have hcs : Ch (At1 X) w4 (w4.setCell ⟨X, 3, none⟩ (pH H)) := (Ch.refl _ w4).set1 3 _
    have HX5 : Hid ((w4.setCell ⟨X, 3, none⟩ (pH H)).heap[X]? = some (.cells #[pD D, pL L, pR G, pH H] TW14)) := Lib.hid (heap_set_row HXR4.out _)
    have HBX5 : Hid ((w4.setCell ⟨X, 3, none⟩ (pH H)).heap[BX]? = some (.cells #[pX14 X] TWP14)) := Lib.hid (hcs.row HBX4.out HNE.out)
    have HW5 := Lib.hid (HX4.out.chZ hcs (fun k _ hk => by rw [show k = X from hk]; exact HZX.out))
    have HB5 : Hid (Below B w (w4.setCell ⟨X, 3, none⟩ (pH H))) := Lib.hid (HB4.out.trans (hcs.below (fun k hk => by rw [show k = X from hk]; exact HXB.out) (Nat.le_trans HBW3.out hc4.size)))
    have HOK5 : Hid (FsOk (openD d (fsOf F) nmL).2.1 (fsOf F2)) := Lib.hid (by rw [HF2.out]; exact (openD_ok HOK.out HO.out nmL).1)
    have HFS5 : Hid (WalFs (fsOf F2) nmL T) := Lib.hid (by rw [HF2.out]; exact HFS.out)
    have HL4 : Hid (L4.length ≤ 10000) := Lib.hid (by
      have h5 := HS4.out.perm.length_eq
      have h6 := openD_len d (fsOf F) nmL
      have h7 := HL.out
      rw [HF2.out] at h5
      simp only [fsOf, List.length_map] at h5 h6
      omega)
    have HF : Hid (∀ w6, Below (w4.setCell ⟨X, 3, none⟩ (pH H)).heap.size (w4.setCell ⟨X, 3, none⟩ (pH H)) w6 → OpenEnd Z w B D M G X (openD d (fsOf F) nmL) T w6) := Lib.hid (fun w6 hb => ⟨L, H, F2, v, r4, L4, vr4, P4, vh, ⟨HW5.out.below hb, HS4.out, HOK5.out, HFS5.out, (hb.block X (Array.getElem?_eq_some_iff.1 HX5.out).1).trans HX5.out, HZX.out, HXB.out⟩, HF2.out, HB5.out.trans (hb.mono (Nat.le_trans (Nat.le_trans HBW3.out hc4.size) hcs.size))⟩)
    have HSM := Lib.hid (worldSame14 HW5.out HS4.out HOK5.out HL4.out HFS5.out.1 HX5.out (by have := recs_num HOK5.out HFS5.out; omega))
    have e7 : (w4.setCell ⟨X, 3, none⟩ (pH H)).cell? ⟨BX, 0, none⟩ = some (pX14 X) := cell_of_row _ BX 0 _ _ _ HBX5.out
    have e8 : (w4.setCell ⟨X, 3, none⟩ (pH H)).cell? ⟨X, 1, none⟩ = some (pL L) := cell_of_row _ X 1 _ _ _ HX5.out
    clear hs4 hr4 hl4 hc4 ho4 hH hv4 hcs hbs e0 e2 HX4 HBX4 HXR4 HB4
    go_wp2_with (fail)
    refine HSM.out.mono ?_
    rintro e w6 ⟨rfl, hb6⟩
    have HFF := Lib.hid (HF.out w6 hb6)
    clear hb6 HF HSM e4 e5 e6 e7 e8
    go_wp2_with (fail)
    go_ret
    exact ⟨rfl, HFF.out⟩
end
end Go.Proofs.Ythblbmbefhlbjaa
/- Layer 14: an Add that guard's Do calls, in WalActs. -/
namespace Go.Proofs.Ythblbmbefhlbjaa
open Go.RowKit Go.MapKept

abbrev TAct14 : TypeId := 29
abbrev actC14 (kd n k : Int) (A : Option Addr) (m c : Nat) : Array Value := #[.int .i64 kd, .int .i64 n, .int .i64 k, .slice A m c]
section
variable {E : Nat → Prop} {w : World} {B L D M g : Nat} {d : Dk} {F : List Ent} {nm : ByteArray} {rs : List (List UInt8)} {v : Value}
set_option maxHeartbeats 4000000 in
set_option maxRecDepth 100000 in
theorem actFn14 (h : LgAt E w B L D M F nm rs g v) (hd : DkAt w B D M d F) (ok : FsOk d (fsOf F)) (ho : d.ops + 8 ≤ 1152921504606846976) (hs : nm.size ≤ 140737488355328) (A : Option Addr) (c : Nat) (l : List UInt8) (hl : Bs w A l.length c l)
    (hoff : 0 < l.length → ∀ b, A = some b → ¬ DFoot D M F b.block) (hg : g ≤ 1099511000000) (hn : rs.length ≤ 1099511627770) (hBw : B ≤ w.heap.size) (hE : ∀ k, E k → k < w.heap.size) (BX BA X : Nat) (kd n kp : Int) (h0 h1 : Value) (hEX : E X) (hX : w.heap[X]? = some (.cells #[pD D, pL L, h0, h1] TW14)) (hbx : w.heap[BX]? = some (.cells #[pX14 X] TWP14)) (hba : w.heap[BA]? = some (.cells (actC14 kd n kp A l.length c) TAct14)) :
    Calls Try.prog 35 #[.pointer (some ⟨BX, 0, none⟩), .pointer (some ⟨BA, 0, none⟩)] w (KEnd E B L D M F nm rs g v w l (record l).length (addD d (fsOf F) nm g l)) := by
  obtain ⟨S, hSd⟩ : ∃ S : World → Prop, ∀ W, S W ↔ (W.cell? ⟨BX, 0, none⟩ = some (pX14 X) ∧ W.cell? ⟨X, 1, none⟩ = some (pL L) ∧ W.cell? ⟨BA, 3, none⟩ = some (.slice A l.length c)) := ⟨_, fun _ => Iff.rfl⟩
  have c0 : ∀ n : Meets S, n.u.cell? ⟨BX, 0, none⟩ = some (pX14 X) := fun n => ((hSd _).1 n.h).1
  have c1 : ∀ n : Meets S, n.u.cell? ⟨X, 1, none⟩ = some (pL L) := fun n => ((hSd _).1 n.h).2.1
  have c3 : ∀ n : Meets S, n.u.cell? ⟨BA, 3, none⟩ = some (.slice A l.length c) := fun n => ((hSd _).1 n.h).2.2
  have HS := Lib.hid hSd
  have hb0 : Below w.heap.size w w.drew := (Below.refl _ w).drew
  have HA := Lib.hid (walAdd (h.below hb0) (hd.below hb0) ok ho hs A c l (hl.below hb0) hoff hg hn (Nat.le_trans hBw hb0.size) hE)
  have HBX := Lib.hid hbx
  have HBA := Lib.hid hba
  have HX := Lib.hid hX
  have HNL : Hid (∀ k cur t fz, w.heap[k]? = some (.cells cur t fz) → (t = TW14 ∧ E k ∨ t = TWP14 ∨ t = TAct14) → ¬ WFoot L D M F v k) := Lib.hid (fun k cur t fz hk ht hw => by
    have hdisk : ¬ DFoot D M F k := by
      rcases ht with ⟨rfl, _⟩ | rfl | rfl
      · exact apart_ty hd hk (by decide) (by decide) (by decide)
      · exact apart_ty hd hk (by decide) (by decide) (by decide)
      · exact apart_ty hd hk (by decide) (by decide) (by decide)
    rcases hw with (rfl | hw) | hw
    · rw [h.row] at hk
      simp only [Option.some.injEq, Obj.cells.injEq] at hk
      rcases ht with ⟨rfl, _⟩ | rfl | rfl
      · exact absurd hk.2.1 (by decide)
      · exact absurd hk.2.1 (by decide)
      · exact absurd hk.2.1 (by decide)
    · exact hdisk hw
    · obtain ⟨vs, hv⟩ := h.rw
      obtain ⟨cur', hc'⟩ := own3_ty hv.2.1 k hw
      rw [hc'] at hk
      simp only [Option.some.injEq, Obj.cells.injEq] at hk
      rcases ht with ⟨rfl, _⟩ | rfl | rfl
      · exact absurd hk.2.1 (by decide)
      · exact absurd hk.2.1 (by decide)
      · exact absurd hk.2.1 (by decide))
  have HEX := Lib.hid hEX
  clear h hd ok ho hoff hg hn hBw hE hl hSd hEX hX hbx hba
  go_enter Try.func35, Try.ntmps35
  go_wp2_with (fail)
  refine region_plan S [([0, 1, 2, 3, 4, 5], 6)] [7] (by kernel_rfl) (by kernel_rfl) (fun _ _ _ _ _ h => h) ((HS.out _).2 ⟨cell_of_row w BX 0 _ _ _ HBX.out, cell_of_row w X 1 _ _ _ HX.out, cell_of_row w BA 3 _ _ _ HBA.out⟩) (fun hne => ?_)
  simp only [wpPlan, pick, List.getElem?_cons_zero, List.getElem?_cons_succ, Option.elim]
  repeat (go_big_quiet_step (fail))
  refine wpQuiet_nil ?_
  intro K hK
  go_simp
  refine HA.out.mono ?_
  intro e w2 hq
  have hq := hq.pre hb0
  obtain ⟨F', v', he, h2, h3, h4, h5⟩ := hq
  have HP : Hid (∀ e, e = endM (addD d (fsOf F) nm g l).1 → KEnd E B L D M F nm rs g v w l (record l).length (addD d (fsOf F) nm g l) e w2) := Lib.hid (fun e he => ⟨F', v', he, h2, h3, h4, h5⟩)
  have HBX2 := Lib.hid (h5.ch.row HBX.out (HNL.out _ _ _ _ HBX.out (.inr (.inl rfl))))
  have HBA2 := Lib.hid (h5.ch.row HBA.out (HNL.out _ _ _ _ HBA.out (.inr (.inr rfl))))
  have HX2 := Lib.hid (h5.ch.row HX.out (HNL.out _ _ _ _ HX.out (.inl ⟨rfl, HEX.out⟩)))
  clear h2 h3 h4 h5 HA hb0
  generalize addD d (fsOf F) nm g l = r at *
  obtain ⟨x | op, s⟩ := r
  · obtain rfl : e = .returned (.int .i64 x) := he
    dsimp only
    refine hK.out _ _ ((HS.out _).2 ⟨cell_of_row _ BX 0 _ _ _ HBX2.out, cell_of_row _ X 1 _ _ _ HX2.out, cell_of_row _ BA 3 _ _ _ HBA2.out⟩) (fun _ => ?_)
    clear hK K
    repeat (go_big_quiet_step (fail))
    refine wpQuiet_nil ?_
    clear c0 c1 c3
    go_wp2_with (fail)
    go_ret
    exact HP.out _ rfl
  · obtain rfl : e = .panicked [{ v := crashI op, recovered := false }] := he
    exact ⟨rfl, HP.out _ rfl⟩
theorem okAct14 : FnOkG 35 := fun args w => Go.MuLone.run_callFunc_enter Try.func35 (by kernel_rfl) rfl args w
/-- what is left when Do comes back from an Add -/
def DEnd14 (E : Nat → Prop) (B L D M : Nat) (F : List Ent) (nm : ByteArray) (rs : List (List UInt8)) (g : Nat) (v : Value) (w : World) (l : List UInt8) (r : Out) (e : Ending) (w' : World) : Prop :=
  ∃ F' v', e = (match r.1 with | .inl x => .returned (.tuple #[.int .i64 x, crash 0, .bool false]) | .inr op => .returned (.tuple #[.int .i64 0, crash op, .bool true])) ∧ DkAt w' B D M r.2.1 F' ∧ fsOf F' = r.2.2 ∧ LgAt E w' B L D M F' nm (if r.1 = .inl 0 then rs ++ [l] else rs) (if r.1 = .inl 0 then g + (record l).length else g) v' ∧ WlCh L D M F F' v v' w w'
theorem actDo14 (h : LgAt E w B L D M F nm rs g v) (hd : DkAt w B D M d F) (ok : FsOk d (fsOf F)) (ho : d.ops + 8 ≤ 1152921504606846976) (hs : nm.size ≤ 140737488355328) (A : Option Addr) (c : Nat) (l : List UInt8) (hl : Bs w A l.length c l)
    (hoff : 0 < l.length → ∀ b, A = some b → ¬ DFoot D M F b.block) (hg : g ≤ 1099511000000) (hn : rs.length ≤ 1099511627770) (hBw : B ≤ w.heap.size) (hE : ∀ k, E k → k < w.heap.size) (BX BA X : Nat) (kd n kp : Int) (h0 h1 : Value) (hEX : E X) (hX : w.heap[X]? = some (.cells #[pD D, pL L, h0, h1] TW14)) (hbx : w.heap[BX]? = some (.cells #[pX14 X] TWP14)) (hba : w.heap[BA]? = some (.cells (actC14 kd n kp A l.length c) TAct14)) :
    Calls Try.prog 22 #[.func (.func 35) #[] #[.pointer (some ⟨BX, 0, none⟩), .pointer (some ⟨BA, 0, none⟩)]] w (DEnd14 E B L D M F nm rs g v w l (addD d (fsOf F) nm g l)) := by
  have hX' := (Array.getElem?_eq_some_iff.1 hX).1
  have hB' := (Array.getElem?_eq_some_iff.1 hbx).1
  have hA' := (Array.getElem?_eq_some_iff.1 hba).1
  refine (guardDoS _ w (fun x w1 w' => KEnd (ED E w.heap.size w1.heap.size) B L D M F nm rs g v w1 l (record l).length (addD d (fsOf F) nm g l) (.returned (.int .i64 x)) w') (fun op w1 w' => KEnd (ED E w.heap.size w1.heap.size) B L D M F nm rs g v w1 l (record l).length (addD d (fsOf F) nm g l) (.panicked [{ v := crashI op, recovered := false }]) w') ?_).mono ?_
  · intro w1 hb1
    refine ⟨_, _, rfl, okAct14, ?_⟩
    refine (actFn14 (E := ED E w.heap.size w1.heap.size) ((h.widen (fun k hk => by
      rcases hk with hk | hk
      · exact .inl hk
      · exact .inr hk.1)).below hb1) (hd.below hb1) ok ho hs A c l (hl.below hb1) hoff hg hn (Nat.le_trans hBw hb1.size) (fun k hk => by
      rcases hk with hk | hk
      · exact Nat.lt_of_lt_of_le (hE k hk) hb1.size
      · exact hk.2) BX BA X kd n kp h0 h1 (.inl hEX) ((hb1.block X hX').trans hX) ((hb1.block BX hB').trans hbx) ((hb1.block BA hA').trans hba)).mono ?_
    rintro e w2 hm
    have hm' := hm
    obtain ⟨F2, v2, he, h2, f2, l2, c2⟩ := hm
    refine ⟨fun b hb hlt => c2.ch.block b hlt (fun hf => by have := (h.foot_lt hd hf).2; omega), c2.ch.size, ?_⟩
    rw [he] at hm' ⊢
    generalize addD d (fsOf F) nm g l = r at *
    obtain ⟨x | op, s⟩ := r
    · exact .inl ⟨x, rfl, hm'⟩
    · exact .inr ⟨op, rfl, hm'⟩
  · rintro e w'' ⟨w1, w', hb1, hz, hc, hcase⟩
    have hboth : ∃ F' v', e = (match (addD d (fsOf F) nm g l).1 with | .inl x => .returned (.tuple #[.int .i64 x, crash 0, .bool false]) | .inr op => .returned (.tuple #[.int .i64 0, crash op, .bool true])) ∧ DkAt w' B D M (addD d (fsOf F) nm g l).2.1 F' ∧ fsOf F' = (addD d (fsOf F) nm g l).2.2 ∧ LgAt (ED E w.heap.size w1.heap.size) w' B L D M F' nm (if (addD d (fsOf F) nm g l).1 = .inl 0 then rs ++ [l] else rs) (if (addD d (fsOf F) nm g l).1 = .inl 0 then g + (record l).length else g) v' ∧ WlCh L D M F F' v v' w1 w' := by
      generalize addD d (fsOf F) nm g l = r at *
      obtain ⟨x | op, s⟩ := r
      · rcases hcase with ⟨y, rfl, F2, v2, he, h2⟩ | ⟨op, rfl, F2, v2, he, h2⟩
        · simp only [endM, Ending.returned.injEq, Value.int.injEq, true_and] at he
          exact ⟨F2, v2, by rw [he], h2⟩
        · simp [endM] at he
      · rcases hcase with ⟨y, rfl, F2, v2, he, h2⟩ | ⟨op, rfl, F2, v2, he, h2⟩
        · simp [endM] at he
        · simp [endM] at he
          exact ⟨F2, v2, by rw [he], h2⟩
    obtain ⟨F2, v2, he, h2, f2, l2, c2⟩ := hboth
    have hfoot : ∀ k, WFoot L D M F2 v2 k → k < w.heap.size ∨ w1.heap.size ≤ k := fun k hk => by
      rcases c2.foot k hk with h5 | h5
      · exact .inl (h.foot_lt hd h5).2
      · exact .inr h5
    have c1 : WlCh L D M F F2 v v2 w w' := (WlCh.of_below hb1).trans c2
    refine ⟨F2, v2, he, h2.ch hc (fun k hk hs => by rcases hfoot k (.inl (.inr hk)) with h5 | h5 <;> omega), f2, (l2.chE hc (fun k _ hs => .inr hs) (fun hs => by have := h.lt; omega)).widen (fun k hk => .inl (.inl hk)), ⟨c1.ch.trans hc (fun k hk hs => by omega), c1.foot⟩⟩
end
end Go.Proofs.Ythblbmbefhlbjaa
/- Layer 14: the law's world acts. -/
namespace Go.Proofs.Ythblbmbefhlbjaa
open Go.RowKit Go.MapKept

abbrev actV14 (kd n k : Int) (A : Option Addr) (m c : Nat) : Value := .agg (actC14 kd n k A m c)
theorem addD_len (d : Dk) (fs : Fs) (nm : ByteArray) (g : Nat) (b : List UInt8) : (addD d fs nm g b).2.2.length ≤ fs.length + 3 := by
  unfold addD
  split
  · have h1 := app_len d fs nm (record b)
    generalize appO d fs nm (record b) = o at h1
    obtain ⟨⟨n, x | op⟩, d2, fs2⟩ := o
    · show (if n < ((record b).length : Int) then undo_ 4 (opTrunc d2 fs2 nm (g : Int)) else addS nm g (opSync d2 fs2 nm)).2.2.length ≤ _
      simp only at h1
      have hu : ∀ (d3 : Dk) (fs3 : Fs) (x : Int), fs3.length ≤ fs.length + 2 → (undo_ x (opTrunc d3 fs3 nm (g : Int))).2.2.length ≤ fs.length + 3 := fun d3 fs3 x hl => by
        have h2 := trunc_len d3 fs3 nm (g : Int)
        generalize opTrunc d3 fs3 nm (g : Int) = o at h2
        obtain ⟨x | op, s⟩ := o
        · show s.2.length ≤ _; simp only at h2; omega
        · show s.2.length ≤ _; simp only at h2; omega
      split
      · exact hu _ _ _ (by omega)
      · have h2 := sync_len d2 fs2 nm
        generalize opSync d2 fs2 nm = o at h2
        obtain ⟨x | op, d3, fs3⟩ := o
        · show (if x = 0 then ((.inl 0, (d3, fs3)) : Out) else undo_ 5 (opTrunc d3 fs3 nm (g : Int))).2.2.length ≤ _
          simp only at h2
          split
          · show fs3.length ≤ _; omega
          · exact hu _ _ _ (by omega)
        · show fs3.length ≤ _; simp only at h2; omega
    · show fs2.length ≤ _; simp only at h1; omega
  · show fs.length ≤ _; omega
section
variable {Z Z' S : Nat → Prop} {w w' : World} {B D M L G H g1 g2 : Nat} {d d' : Dk} {F F' : List Ent} {T T1 T2 : List (List UInt8)} {v vr vh : Value} {r : Rk} {Lf : Fs} {P : List Value}
/-- a block of another type is none of theirs -/
theorem WX.apartT {X : Nat} {cur : Array Value} {t : TypeId} {fz : Nat × Nat} (h : WX Z w B D M L G H d F T1 g1 v r Lf vr P T2 g2 vh) (hx : w.heap[X]? = some (.cells cur t fz)) (h1 : t ≠ 85) (h2 : t ≠ 91) (h3 : t ≠ 5) (h4 : t ≠ TL) (h5 : t ≠ 27) (h6 : t ≠ TRD) (h7 : t ≠ TRF) (h8 : t ≠ TR14) :
    ¬ WFoot L D M F v X ∧ ¬ (RF G vr X ∨ RL H vh X) := by
  have hrow : ∀ (T : Nat → Prop) (u : Value) (L : List (List UInt8)), Rw B T w u L → u.ownBlock = some X → False := fun T u L hr hk => by
    obtain ⟨vs, hv⟩ := hr
    obtain ⟨cur', hc'⟩ := own3_ty hv.2.1 X hk
    rw [hc'] at hx
    simp only [Option.some.injEq, Obj.cells.injEq] at hx
    exact h5 hx.2.1.symm
  refine ⟨fun hk => ?_, fun hk => ?_⟩
  · rcases hk with (rfl | hk) | hk
    · rw [h.lg.row] at hx
      simp only [Option.some.injEq, Obj.cells.injEq] at hx
      exact h4 hx.2.1.symm
    · exact apart_ty h.dk hx h1 h2 h3 hk
    · exact hrow _ _ _ h.lg.rw hk
  · rcases hk with hk | rfl | hk
    · exact apart_tyR h.rk hx h6 h7 hk
    · rw [h.rl.row] at hx
      simp only [Option.some.injEq, Obj.cells.injEq] at hx
      exact h8 hx.2.1.symm
    · exact hrow _ _ _ h.rl.rw hk
/-- what an act leaves -/
def St14 (Z : Nat → Prop) (B X : Nat) (j : Int) (w : World) : Prop :=
  ∃ D M L G H d F T v r Lf vr P vh, WS Z w B D M L G H X d F T v r Lf vr P vh ∧ d.ops ≤ 6 * j ∧ (F.length : Int) ≤ 6 * j
theorem St14.below {X : Nat} {j : Int} (h : St14 Z B X j w) (hb : Below w.heap.size w w') : St14 Z B X j w' := by
  obtain ⟨D, M, L, G, H, d, F, T, v, r, Lf, vr, P, vh, h, h1, h2⟩ := h
  exact ⟨D, M, L, G, H, d, F, T, v, r, Lf, vr, P, vh, ⟨h.x.below hb, h.sim, h.ok, h.fs, (hb.block X (Array.getElem?_eq_some_iff.1 h.row).1).trans h.row, h.zx, h.xb⟩, h1, h2⟩
def AEnd14 (Z : Nat → Prop) (w : World) (B X : Nat) (j : Int) (e : Ending) (w' : World) : Prop := ∃ b : Bool, e = .returned (.tuple #[.bool true, .bool b]) ∧ St14 Z B X (j + 1) w' ∧ Below B w w'
set_option maxRecDepth 100000 in
set_option maxHeartbeats 8000000 in
theorem worldAct14_0 {X : Nat} {j n kp : Int} (h : St14 Z B X j w) (hj : 0 ≤ j ∧ j ≤ 100) (hkp : -9223372036854775808 ≤ kp ∧ kp ≤ 9223372036854775807) (A : Option Addr) (c : Nat) (l : List UInt8) (hl : Bs w A l.length c l) (hoff : 0 < l.length → ∀ b, A = some b → b.block < B) (hB : B ≤ w.heap.size) :
    Calls Try.prog 12 #[pX14 X, actV14 0 n kp A l.length c] w (AEnd14 Z w B X j) := by
  have hmf : ∀ (fn : Fn) (first cap : Array Value) (w : World), (Instr.makeFunc fn first cap).run Try.prog w = .ok (.func fn first cap) w := fun _ _ _ _ => rfl
  obtain ⟨D, M, L, G, H, d, F, T, v, r, Lf, vr, P, vh, h, hop, hfl⟩ := h
  have hb0 : Below w.heap.size w ((w.alloc (.cells #[pX14 X] TWP14)).alloc (.cells (actC14 0 n kp A l.length c) TAct14)) := ((Below.refl _ _).alloc (Nat.le_refl _) _).alloc (by simp) _
  have HBX0 : Hid (((w.alloc (.cells #[pX14 X] TWP14)).alloc (.cells (actC14 0 n kp A l.length c) TAct14)).heap[w.heap.size]? = some (.cells #[pX14 X] TWP14)) := Lib.hid (by
    have h1 : Below (w.heap.size + 1) (w.alloc (.cells #[pX14 X] TWP14)) ((w.alloc (.cells #[pX14 X] TWP14)).alloc (.cells (actC14 0 n kp A l.length c) TAct14)) := (Below.refl _ _).alloc (by simp) _
    exact (h1.block _ (by omega)).trans (heap_alloc_new w _))
  have HBA0 : Hid (((w.alloc (.cells #[pX14 X] TWP14)).alloc (.cells (actC14 0 n kp A l.length c) TAct14)).heap[w.heap.size + 1]? = some (.cells (actC14 0 n kp A l.length c) TAct14)) := Lib.hid (by
    have h1 := heap_alloc_new (w.alloc (.cells #[pX14 X] TWP14)) (.cells (actC14 0 n kp A l.length c) TAct14)
    rw [show (w.alloc (.cells #[pX14 X] TWP14)).heap.size = w.heap.size + 1 from by simp] at h1
    exact h1)
  have HL0 := Lib.hid (hl.below hb0)
  have HW0 := Lib.hid (h.x.below hb0)
  have HX0 := Lib.hid ((hb0.block X (Array.getElem?_eq_some_iff.1 h.row).1).trans h.row)
  have HB0 : Hid (Below B w ((w.alloc (.cells #[pX14 X] TWP14)).alloc (.cells (actC14 0 n kp A l.length c) TAct14))) := Lib.hid (hb0.mono hB)
  have HBW0 := Lib.hid (Nat.le_trans hB hb0.size)
  have HSI := Lib.hid h.sim
  have HOK := Lib.hid h.ok
  have HFS := Lib.hid h.fs
  have HZX := Lib.hid h.zx
  have HXB := Lib.hid h.xb
  have HOP := Lib.hid hop
  have HFL := Lib.hid hfl
  have HJ := Lib.hid hj
  have HKP := Lib.hid hkp
  have HOFF := Lib.hid hoff
  have HNUM := Lib.hid (recs_num h.ok h.fs)
  have HLL : Hid (Lf.length ≤ 10000) := Lib.hid (by have h5 := h.sim.perm.length_eq; simp only [fsOf, List.length_map] at h5; omega)
  have e0 : ((w.alloc (.cells #[pX14 X] TWP14)).alloc (.cells (actC14 0 n kp A l.length c) TAct14)).cell? ⟨w.heap.size + 1, 0, none⟩ = some (.int .i64 0) := cell_of_row _ _ 0 _ _ _ HBA0.out
  clear h hl hop hfl hj hkp hoff hB hb0
  go_enter Try.func12, Try.ntmps12
  go_wp2_with (fail)
  obtain ⟨BX, hbx⟩ : ∃ BX, BX = w.heap.size := ⟨_, rfl⟩
  obtain ⟨BA, hba⟩ : ∃ BA, BA = w.heap.size + 1 := ⟨_, rfl⟩
  rw [← hbx] at HBX0
  rw [← hba] at HBA0
  rw [← hba, ← hbx]
  clear hbx hba e0
  generalize (w.alloc (.cells #[pX14 X] TWP14)).alloc (.cells (actC14 0 n kp A l.length c) TAct14) = w0 at *
  refine (actDo14 HW0.out.lg HW0.out.dk HOK.out (by have := HOP.out; have := HJ.out; omega) (by decide) A c l HL0.out (fun h0 b hb hk => by have h1 := HOFF.out h0 b hb; have h2 := (HW0.out.dk.foot_lt hk).1; omega) (by have := HNUM.out; omega) (by have := HNUM.out; omega) HBW0.out (fun k hk => ?_) BX BA X 0 n kp _ _ (.inl HZX.out) HX0.out HBX0.out HBA0.out).mono ?_
  · rcases hk with hk | hk | hk
    · exact HW0.out.zlt k hk
    · exact (HW0.out.rk.foot_lt hk).2
    · exact (HW0.out.rl.foot_lt hk).2
  intro e w2 hx
  obtain ⟨F2, v2, he, hd2, f2, hl2, c2⟩ := hx
  have HAK := Lib.hid (addD_keeps d l (by decide) HFS.out)
  have HAO := Lib.hid (addD_ok HOK.out (by have := HOP.out; have := HJ.out; omega) nmL (recs T).length l)
  have HAL := Lib.hid (addD_len d (fsOf F) nmL (recs T).length l)
  have HW2 := Lib.hid (HW0.out.prog c2 hd2 hl2)
  have HBX2 := Lib.hid (c2.ch.row HBX0.out (HW0.out.apartT HBX0.out (by decide) (by decide) (by decide) (by decide) (by decide) (by decide) (by decide) (by decide)).1)
  have HBA2 := Lib.hid (c2.ch.row HBA0.out (HW0.out.apartT HBA0.out (by decide) (by decide) (by decide) (by decide) (by decide) (by decide) (by decide) (by decide)).1)
  have HX2 := Lib.hid (c2.ch.row HX0.out (HW0.out.apartT HX0.out (by decide) (by decide) (by decide) (by decide) (by decide) (by decide) (by decide) (by decide)).1)
  have HB2 := Lib.hid (HB0.out.trans (c2.below HW0.out.lg HW0.out.dk HBW0.out))
  have HBW2 : Hid (B ≤ w2.heap.size) := Lib.hid (Nat.le_trans HBW0.out c2.ch.size)
  have HF2 := Lib.hid f2
  have HL2 : Hid (Bs w2 A l.length c l) := Lib.hid (HL0.out.ch c2.ch (fun h0 b hb hk => by have h1 := HOFF.out h0 b hb; have h2 := (HW0.out.lg.foot_lt HW0.out.dk hk).1; omega))
  have HRA : Hid (∀ W, Below w2.heap.size w2 W → Calls Try.prog 36 #[pH H, .slice A l.length c] W (RAdd (fun k => Z k ∨ WFoot L D M F2 v2 k) W B H G nmL T (recs T).length vr vh l (addD d (fsOf F) nmL (recs T).length l))) := Lib.hid (fun W hb =>
    refAdd14 (HW2.out.below hb).rl (HW2.out.below hb).rk HSI.out HOK.out (by have := HOP.out; have := HJ.out; omega) HLL.out (fun k hk => by
      rcases hk with hk | hk
      · exact (HW2.out.below hb).zlt k hk
      · exact ((HW2.out.below hb).lg.foot_lt (HW2.out.below hb).dk hk).2) (Nat.le_trans HBW2.out hb.size) (by decide) A c l (HL2.out.below hb) (fun h0 b hb' => ⟨fun hk => by have h1 := HOFF.out h0 b hb'; have h2 := ((HW2.out.below hb).rk.foot_lt hk).1; omega, fun hk => by have h1 := HOFF.out h0 b hb'; have h2 := ((HW2.out.below hb).rl.foot_lt hk).1; omega⟩) (by have := HNUM.out; omega) (by have := HNUM.out; omega))
  clear hd2 f2 hl2 c2 HW0 HBX0 HBA0 HX0 HB0 HBW0 HL0
  obtain ⟨S, hSd⟩ : ∃ S : World → Prop, ∀ W, S W ↔ (W.cell? ⟨BX, 0, none⟩ = some (pX14 X) ∧ W.cell? ⟨X, 3, none⟩ = some (pH H) ∧ W.cell? ⟨BA, 3, none⟩ = some (.slice A l.length c)) := ⟨_, fun _ => Iff.rfl⟩
  have s0 : ∀ n : Meets S, n.u.cell? ⟨BX, 0, none⟩ = some (pX14 X) := fun n => ((hSd _).1 n.h).1
  have s1 : ∀ n : Meets S, n.u.cell? ⟨X, 3, none⟩ = some (pH H) := fun n => ((hSd _).1 n.h).2.1
  have s2 : ∀ n : Meets S, n.u.cell? ⟨BA, 3, none⟩ = some (.slice A l.length c) := fun n => ((hSd _).1 n.h).2.2
  have HSD := Lib.hid hSd
  clear hSd
  obtain ⟨o, ho⟩ : ∃ o, o = addD d (fsOf F) nmL (recs T).length l := ⟨_, rfl⟩
  rw [← ho] at HAK HAO HAL HW2 HF2 HRA he
  clear ho
  obtain ⟨x | op, d2, fs2⟩ := o
  · obtain rfl := he
    have hbc : Below w2.heap.size w2 (w2.alloc (.cells #[.int .i64 0] 49)) := (Below.refl _ _).alloc (Nat.le_refl _) _
    have HW3 := Lib.hid (HW2.out.below hbc)
    have HBX3 := Lib.hid ((hbc.block BX (Array.getElem?_eq_some_iff.1 HBX2.out).1).trans HBX2.out)
    have HBA3 := Lib.hid ((hbc.block BA (Array.getElem?_eq_some_iff.1 HBA2.out).1).trans HBA2.out)
    have HX3 := Lib.hid ((hbc.block X (Array.getElem?_eq_some_iff.1 HX2.out).1).trans HX2.out)
    have HB3 := Lib.hid (HB2.out.trans (hbc.mono HBW2.out))
    have HBW3 := Lib.hid (Nat.le_trans HBW2.out hbc.size)
    have HR3 := Lib.hid (HRA.out _ (hbc.trans (((Below.refl _ (w2.alloc (.cells #[.int .i64 0] 49))).drew).mono hbc.size)))
    clear hbc HRA HW2 HBX2 HBA2 HX2 HB2 HBW2 HL2
    go_wp2_with (fail)
    generalize w2.alloc (.cells #[.int .i64 0] 49) = w3 at *
    refine region_plan S [([0, 1, 2, 3, 4, 5], 6)] [7, 8, 9, 10, 11] (by kernel_rfl) (by kernel_rfl) (fun _ _ _ _ _ h => h) ((HSD.out _).2 ⟨cell_of_row _ BX 0 _ _ _ HBX3.out, cell_of_row _ X 3 _ _ _ HX3.out, cell_of_row _ BA 3 _ _ _ HBA3.out⟩) (fun hne => ?_)
    simp only [wpPlan, pick, List.getElem?_cons_zero, List.getElem?_cons_succ, Option.elim]
    repeat (go_big_quiet_step (fail))
    refine wpQuiet_nil ?_
    intro K hK
    go_simp
    refine HR3.out.mono ?_
    intro y w4 hr
    obtain ⟨e4, gn, r4, L4, vr4, P4, vh4, rfl, hag, hs4, hrk, hrl, hch, how⟩ := hr
    have hb3 : Below w3.heap.size w3 w3.drew := (Below.refl _ w3).drew
    have HW4 := Lib.hid ((HW3.out.below hb3).doc hrk hrl hch how)
    have HBX4 := Lib.hid (hch.row (w := w3.drew) HBX3.out (HW3.out.apartT HBX3.out (by decide) (by decide) (by decide) (by decide) (by decide) (by decide) (by decide) (by decide)).2)
    have HBA4 := Lib.hid (hch.row (w := w3.drew) HBA3.out (HW3.out.apartT HBA3.out (by decide) (by decide) (by decide) (by decide) (by decide) (by decide) (by decide) (by decide)).2)
    have HX4 := Lib.hid (hch.row (w := w3.drew) HX3.out (HW3.out.apartT HX3.out (by decide) (by decide) (by decide) (by decide) (by decide) (by decide) (by decide) (by decide)).2)
    have HB4 : Hid (Below B w w4) := Lib.hid ((HB3.out.trans (hb3.mono HBW3.out)).trans (hch.below (fun k hk => by
      rcases hk with hk | hk
      · exact (HW3.out.rk.foot_lt hk).1
      · exact (HW3.out.rl.foot_lt hk).1) (Nat.le_trans HBW3.out hb3.size)))
    have HBW4 : Hid (B ≤ w4.heap.size) := Lib.hid (Nat.le_trans (Nat.le_trans HBW3.out hb3.size) hch.size)
    clear hb3 hrk hrl hch how HR3 HW3 HBX3 HBA3 HX3 HB3 HBW3
    dsimp only
    refine hK.out _ _ ((HSD.out _).2 ⟨cell_of_row _ BX 0 _ _ _ HBX4.out, cell_of_row _ X 3 _ _ _ HX4.out, cell_of_row _ BA 3 _ _ _ HBA4.out⟩) (fun _ => ?_)
    clear hK K
    repeat (go_big_quiet_step (fail))
    refine wpQuiet_nil ?_
    clear s0 s1 s2 hne
    obtain ⟨rfl, rfl⟩ : gn = false ∧ e4 = x := by
      rcases hag with ⟨z, h1, h2, h3⟩ | ⟨_, h1, _⟩
      · injection h1 with h1; exact ⟨h3, by rw [h2, h1]⟩
      · cases h1
    obtain ⟨T', ht, hg, hf⟩ : ∃ T', (if (Sum.inl e4 : Int ⊕ Int) = .inl 0 then T ++ [l] else T) = T' ∧ (if (Sum.inl e4 : Int ⊕ Int) = .inl 0 then (recs T).length + (record l).length else (recs T).length) = (recs T').length ∧ WalFs fs2 nmL T' := by
      have h5 : if e4 = 0 then okLen l.length = true ∧ WalFs fs2 nmL (T ++ [l]) else WalFs fs2 nmL T := HAK.out
      by_cases hx : e4 = 0
      · rw [if_pos hx] at h5
        subst hx
        exact ⟨_, if_pos rfl, by rw [if_pos rfl, recs_snoc, List.length_append], h5.2⟩
      · rw [if_neg hx] at h5
        have hne : ¬ (Sum.inl e4 : Int ⊕ Int) = .inl 0 := fun e => hx (by injection e)
        exact ⟨_, if_neg hne, if_neg hne, h5⟩
    have HS5 : Hid (WS Z w4 B D M L G H X d2 F2 T' v2 r4 L4 vr4 P4 vh4) := Lib.hid (by
      have h5 := HW4.out
      dsimp only at h5
      rw [ht, hg] at h5
      have hf2 : fsOf F2 = fs2 := HF2.out
      exact ⟨h5, by rw [hf2]; exact hs4, by rw [hf2]; exact HAO.out.1, by rw [hf2]; exact hf, HX4.out, HZX.out, HXB.out⟩)
    have HL4 : Hid (L4.length ≤ 10000) := Lib.hid (by
      have h5 := HS5.out.sim.perm.length_eq
      have h6 := HAL.out
      have h7 := HFL.out
      have h8 := HJ.out
      rw [show fsOf F2 = fs2 from HF2.out] at h5
      simp only [fsOf, List.length_map] at h6
      omega)
    have HSM := Lib.hid (worldSame14 HS5.out.x HS5.out.sim HS5.out.ok HL4.out HS5.out.fs.1 HS5.out.row (by have := recs_num HS5.out.ok HS5.out.fs; omega))
    have q0 : w4.cell? ⟨BX, 0, none⟩ = some (pX14 X) := cell_of_row _ BX 0 _ _ _ HBX4.out
    have HST : Hid (St14 Z B X (j + 1) w4) := Lib.hid ⟨D, M, L, G, H, d2, F2, T', v2, r4, L4, vr4, P4, vh4, HS5.out, by have h5 : d2.ops ≤ d.ops + 3 := HAO.out.2; have := HOP.out; omega, by have h5 := congrArg List.length HF2.out; have h6 := HAL.out; simp only [fsOf, List.length_map] at h5 h6; have := HFL.out; omega⟩
    clear hag hs4 ht hg hf HW4
    go_wp2_with (fail)
    refine HSM.out.mono ?_
    rintro e w5 ⟨rfl, hb5⟩
    have HFIN : Hid (∀ b, AEnd14 Z w B X j (.returned (.tuple #[.bool true, .bool b])) w5) := Lib.hid (fun b => ⟨b, rfl, HST.out.below hb5, HB4.out.trans (hb5.mono HBW4.out)⟩)
    clear hb5 q0 HSM
    go_wp2_with (fail)
    refine bodyPost_ret (results_two Try.results12 _ _ _) rfl ?_
    exact HFIN.out _
  · obtain rfl := he
    have hbc : Below w2.heap.size w2 (w2.alloc (.cells #[.int .i64 op] 49)) := (Below.refl _ _).alloc (Nat.le_refl _) _
    have HW3 := Lib.hid (HW2.out.below hbc)
    have HBX3 := Lib.hid ((hbc.block BX (Array.getElem?_eq_some_iff.1 HBX2.out).1).trans HBX2.out)
    have HBA3 := Lib.hid ((hbc.block BA (Array.getElem?_eq_some_iff.1 HBA2.out).1).trans HBA2.out)
    have HX3 := Lib.hid ((hbc.block X (Array.getElem?_eq_some_iff.1 HX2.out).1).trans HX2.out)
    have HB3 := Lib.hid (HB2.out.trans (hbc.mono HBW2.out))
    have HBW3 := Lib.hid (Nat.le_trans HBW2.out hbc.size)
    have HR3 := Lib.hid (HRA.out _ (hbc.trans (((Below.refl _ (w2.alloc (.cells #[.int .i64 op] 49))).drew).mono hbc.size)))
    clear hbc HRA HW2 HBX2 HBA2 HX2 HB2 HBW2 HL2
    go_wp2_with (fail)
    generalize w2.alloc (.cells #[.int .i64 op] 49) = w3 at *
    refine region_plan S [([0, 1, 2, 3, 4, 5], 6)] [7, 8, 9, 10, 11] (by kernel_rfl) (by kernel_rfl) (fun _ _ _ _ _ h => h) ((HSD.out _).2 ⟨cell_of_row _ BX 0 _ _ _ HBX3.out, cell_of_row _ X 3 _ _ _ HX3.out, cell_of_row _ BA 3 _ _ _ HBA3.out⟩) (fun hne => ?_)
    simp only [wpPlan, pick, List.getElem?_cons_zero, List.getElem?_cons_succ, Option.elim]
    repeat (go_big_quiet_step (fail))
    refine wpQuiet_nil ?_
    intro K hK
    go_simp
    refine HR3.out.mono ?_
    intro y w4 hr
    obtain ⟨e4, gn, r4, L4, vr4, P4, vh4, rfl, hag, hs4, hrk, hrl, hch, how⟩ := hr
    have hb3 : Below w3.heap.size w3 w3.drew := (Below.refl _ w3).drew
    have HW4 := Lib.hid ((HW3.out.below hb3).doc hrk hrl hch how)
    have HBX4 := Lib.hid (hch.row (w := w3.drew) HBX3.out (HW3.out.apartT HBX3.out (by decide) (by decide) (by decide) (by decide) (by decide) (by decide) (by decide) (by decide)).2)
    have HBA4 := Lib.hid (hch.row (w := w3.drew) HBA3.out (HW3.out.apartT HBA3.out (by decide) (by decide) (by decide) (by decide) (by decide) (by decide) (by decide) (by decide)).2)
    have HX4 := Lib.hid (hch.row (w := w3.drew) HX3.out (HW3.out.apartT HX3.out (by decide) (by decide) (by decide) (by decide) (by decide) (by decide) (by decide) (by decide)).2)
    have HB4 : Hid (Below B w w4) := Lib.hid ((HB3.out.trans (hb3.mono HBW3.out)).trans (hch.below (fun k hk => by
      rcases hk with hk | hk
      · exact (HW3.out.rk.foot_lt hk).1
      · exact (HW3.out.rl.foot_lt hk).1) (Nat.le_trans HBW3.out hb3.size)))
    have HBW4 : Hid (B ≤ w4.heap.size) := Lib.hid (Nat.le_trans (Nat.le_trans HBW3.out hb3.size) hch.size)
    clear hb3 hrk hrl hch how HR3 HW3 HBX3 HBA3 HX3 HB3 HBW3
    dsimp only
    refine hK.out _ _ ((HSD.out _).2 ⟨cell_of_row _ BX 0 _ _ _ HBX4.out, cell_of_row _ X 3 _ _ _ HX4.out, cell_of_row _ BA 3 _ _ _ HBA4.out⟩) (fun _ => ?_)
    clear hK K
    repeat (go_big_quiet_step (fail))
    refine wpQuiet_nil ?_
    clear s0 s1 s2 hne
    obtain ⟨op', h1, h2, rfl⟩ : ∃ op', (Sum.inr op : Int ⊕ Int) = .inr op' ∧ op' = r4.count ∧ gn = true := by
      rcases hag with ⟨_, h, _⟩ | h
      · cases h
      · exact h
    clear h1 h2 hag
    have HF2' : Hid (fsOf F2 = fs2) := Lib.hid HF2.out
    have HWN := Lib.hid HW4.out.gone
    have HSP : Hid (Sim d2 (fsOf F2) r4 L4) := Lib.hid (by rw [HF2'.out]; exact hs4)
    have OKP : Hid (FsOk d2 (fsOf F2)) := Lib.hid (by rw [HF2'.out]; exact HAO.out.1)
    have HOPB : Hid (d2.ops ≤ 6 * j + 3) := Lib.hid (by have h5 : d2.ops ≤ d.ops + 3 := HAO.out.2; have := HOP.out; omega)
    have HFLB : Hid ((F2.length : Int) ≤ 6 * j + 3) := Lib.hid (by have h5 := congrArg List.length HF2.out; have h6 := HAL.out; simp only [fsOf, List.length_map] at h5 h6; have := HFL.out; omega)
    have HLP : Hid (L4.length ≤ 10000) := Lib.hid (by have h5 := HSP.out.perm.length_eq; simp only [fsOf, List.length_map] at h5; have := HFLB.out; have := HJ.out; omega)
    have HPW := Lib.hid (show ∃ T', (scan (bsOf (opPower d2 (fsOf F2) kp).2.2 nmL)).1 = T' ∧ (scan (bsOf (opPower d2 (fsOf F2) kp).2.2 nmL)).2.1 = (recs T').length ∧ (openD (opPower d2 (fsOf F2) kp).2.1 (opPower d2 (fsOf F2) kp).2.2 nmL).1 = .inl 0 ∧ WalFs (openD (opPower d2 (fsOf F2) kp).2.1 (opPower d2 (fsOf F2) kp).2.2 nmL).2.2 nmL T' from by
      rw [HF2'.out]
      obtain ⟨T', _, h5⟩ := opened_half (d := d2) kp (show HalfFs fs2 nmL T l from HAK.out)
      exact ⟨T', h5⟩)
    have HBXP := HBX4
    have HBAP := HBA4
    have HXP := HX4
    have HBP := HB4
    have HBWP := HBW4
    clear HW4 hs4 HBX4 HBA4 HX4 HB4 HBW4
    obtain ⟨S2, hSd⟩ : ∃ S : World → Prop, ∀ W, S W ↔ (W.cell? ⟨BX, 0, none⟩ = some (pX14 X) ∧ W.cell? ⟨X, 0, none⟩ = some (pD D) ∧ W.cell? ⟨X, 2, none⟩ = some (pR G) ∧ W.cell? ⟨BA, 2, none⟩ = some (.int .i64 kp)) := ⟨_, fun _ => Iff.rfl⟩
    have p0 : ∀ n : Meets S2, n.u.cell? ⟨BX, 0, none⟩ = some (pX14 X) := fun n => ((hSd _).1 n.h).1
    have p1 : ∀ n : Meets S2, n.u.cell? ⟨X, 0, none⟩ = some (pD D) := fun n => ((hSd _).1 n.h).2.1
    have p2 : ∀ n : Meets S2, n.u.cell? ⟨X, 2, none⟩ = some (pR G) := fun n => ((hSd _).1 n.h).2.2.1
    have p3 : ∀ n : Meets S2, n.u.cell? ⟨BA, 2, none⟩ = some (.int .i64 kp) := fun n => ((hSd _).1 n.h).2.2.2
    have HSD2 := Lib.hid hSd
    clear hSd
    go_wp2_with (fail)
    refine region_plan S2 [([0, 1, 2, 3, 4, 5], 6)] [] (by kernel_rfl) (by kernel_rfl) (fun _ _ _ _ _ h => h) ((HSD2.out _).2 ⟨cell_of_row _ BX 0 _ _ _ HBXP.out, cell_of_row _ X 0 _ _ _ HXP.out, cell_of_row _ X 2 _ _ _ HXP.out, cell_of_row _ BA 2 _ _ _ HBAP.out⟩) (fun hne => ?_)
    simp only [wpPlan, pick, List.getElem?_cons_zero, List.getElem?_cons_succ, Option.elim]
    repeat (go_big_quiet_step (fail))
    refine wpQuiet_nil ?_
    intro K hK
    have hb5 : Below w4.heap.size w4 w4.drew := (Below.refl _ w4).drew
    have HMP := Lib.hid (mPower (HWN.out.below hb5).dk OKP.out kp)
    have HN5 := Lib.hid (HWN.out.below hb5)
    have HB5 : Hid (Below B w w4.drew) := Lib.hid (HBP.out.trans (hb5.mono HBWP.out))
    have HBW5 : Hid (B ≤ w4.drew.heap.size) := Lib.hid (Nat.le_trans HBWP.out hb5.size)
    have HBX5 : Hid (w4.drew.heap[BX]? = some (.cells #[pX14 X] TWP14)) := Lib.hid HBXP.out
    have HBA5 : Hid (w4.drew.heap[BA]? = some (.cells (actC14 0 n kp A l.length c) TAct14)) := Lib.hid HBAP.out
    have HX5 : Hid (w4.drew.heap[X]? = some (.cells #[pD D, pL L, pR G, pH H] TW14)) := Lib.hid HXP.out
    clear hb5
    go_simp
    refine HMP.out.mono ?_
    rintro e w6 ⟨F6, rfl, h6, c6, f6⟩
    have HN6 := Lib.hid (HN5.out.dkch c6 h6)
    have HBX6 := Lib.hid (c6.ch.row HBX5.out (apart_ty HN5.out.dk HBX5.out (by decide) (by decide) (by decide)))
    have HBA6 := Lib.hid (c6.ch.row HBA5.out (apart_ty HN5.out.dk HBA5.out (by decide) (by decide) (by decide)))
    have HX6 := Lib.hid (c6.ch.row HX5.out (apart_ty HN5.out.dk HX5.out (by decide) (by decide) (by decide)))
    have HB6 : Hid (Below B w w6) := Lib.hid (HB5.out.trans (DkCh.below HN5.out.dk c6 HBW5.out))
    have HBW6 : Hid (B ≤ w6.heap.size) := Lib.hid (Nat.le_trans HBW5.out c6.ch.size)
    have HF6 := Lib.hid f6
    clear h6 c6 f6 HMP
    dsimp only [opPower, endM]
    refine hK.out _ _ ((HSD2.out _).2 ⟨cell_of_row _ BX 0 _ _ _ HBX6.out, cell_of_row _ X 0 _ _ _ HX6.out, cell_of_row _ X 2 _ _ _ HX6.out, cell_of_row _ BA 2 _ _ _ HBA6.out⟩) (fun _ => ?_)
    clear hK K
    refine wpQuiet_nil ?_
    go_wp2_with (fail)
    refine region_plan S2 [([0, 1, 2, 3, 4, 5], 6)] [] (by kernel_rfl) (by kernel_rfl) (fun _ _ _ _ _ h => h) ((HSD2.out _).2 ⟨cell_of_row _ BX 0 _ _ _ HBX6.out, cell_of_row _ X 0 _ _ _ HX6.out, cell_of_row _ X 2 _ _ _ HX6.out, cell_of_row _ BA 2 _ _ _ HBA6.out⟩) (fun hne => ?_)
    simp only [wpPlan, pick, List.getElem?_cons_zero, List.getElem?_cons_succ, Option.elim]
    repeat (go_big_quiet_step (fail))
    refine wpQuiet_nil ?_
    intro K hK
    have hb7 : Below w6.heap.size w6 w6.drew := (Below.refl _ w6).drew
    have HRP := Lib.hid (rkPower (HN6.out.below hb7).rk (by have := HLP.out; omega) (fun e he => OKP.out.safe e (HSP.out.perm.mem_iff.1 he)) (fun e he => by have h5 := OKP.out.len (in_fget OKP.out.names (HSP.out.perm.mem_iff.1 (show (e.1, e.2) ∈ _ from he))); have := OKP.out.ok.used; omega) kp)
    have HN7 := Lib.hid (HN6.out.below hb7)
    have HB7 : Hid (Below B w w6.drew) := Lib.hid (HB6.out.trans (hb7.mono HBW6.out))
    have HBW7 : Hid (B ≤ w6.drew.heap.size) := Lib.hid (Nat.le_trans HBW6.out hb7.size)
    have HBX7 : Hid (w6.drew.heap[BX]? = some (.cells #[pX14 X] TWP14)) := Lib.hid HBX6.out
    have HBA7 : Hid (w6.drew.heap[BA]? = some (.cells (actC14 0 n kp A l.length c) TAct14)) := Lib.hid HBA6.out
    have HX7 : Hid (w6.drew.heap[X]? = some (.cells #[pD D, pL L, pR G, pH H] TW14)) := Lib.hid HX6.out
    clear hb7
    go_simp
    refine HRP.out.mono ?_
    rintro e w8 ⟨rfl, P8, k8, hc8⟩
    have HN8 := Lib.hid (HN7.out.doc k8 hc8 (fun _ hk => .inl hk))
    have HBX8 := Lib.hid (hc8.row HBX7.out (apart_tyR HN7.out.rk HBX7.out (by decide) (by decide)))
    have HBA8 := Lib.hid (hc8.row HBA7.out (apart_tyR HN7.out.rk HBA7.out (by decide) (by decide)))
    have HX8 := Lib.hid (hc8.row HX7.out (apart_tyR HN7.out.rk HX7.out (by decide) (by decide)))
    have HB8 : Hid (Below B w w8) := Lib.hid (HB7.out.trans (hc8.below (fun k hk => (HN7.out.rk.foot_lt hk).1) HBW7.out))
    have HBW8 : Hid (B ≤ w8.heap.size) := Lib.hid (Nat.le_trans HBW7.out hc8.size)
    clear k8 hc8 HRP
    dsimp only
    refine hK.out _ _ ((HSD2.out _).2 ⟨cell_of_row _ BX 0 _ _ _ HBX8.out, cell_of_row _ X 0 _ _ _ HX8.out, cell_of_row _ X 2 _ _ _ HX8.out, cell_of_row _ BA 2 _ _ _ HBA8.out⟩) (fun _ => ?_)
    clear hK K
    refine wpQuiet_nil ?_
    clear p0 p1 p2 p3 hne
    obtain ⟨T', hsc, hgl, hop', hfs'⟩ := HPW.out
    have hopp : (opPower d2 (fsOf F2) kp).2.2 = fsOf F6 := HF6.out.symm
    obtain ⟨d8, hd8⟩ : ∃ d8, d8 = (opPower d2 (fsOf F2) kp).2.1 := ⟨_, rfl⟩
    rw [← hd8] at hop' hfs'
    rw [hopp] at hsc hgl hop' hfs'
    have HOK8 : Hid (FsOk d8 (fsOf F6)) := Lib.hid (by rw [hd8, ← hopp]; exact power_ok OKP.out kp)
    have HSI8 : Hid (Sim d8 (fsOf F6) r4.power (powL kp L4)) := Lib.hid (by rw [hd8, ← hopp]; exact HSP.out.power OKP.out kp _)
    have HO8 : Hid (d8.ops = d2.ops) := Lib.hid (by rw [hd8]; rfl)
    have HL8 : Hid (F6.length = F2.length) := Lib.hid (by have h5 := congrArg List.length hopp; simpa [fsOf, powFs, opPower] using h5.symm)
    have HN8' : Hid (WN Z w8 B D M G d8 F6 r4.power (powL kp L4) vr4 P8) := Lib.hid (by rw [hd8]; exact HN8.out)
    have HOPN := Lib.hid (worldOpen14 HN8'.out HSI8.out HOK8.out (by have := HO8.out; have := HOPB.out; have := HJ.out; omega) HBW8.out (by have := HL8.out; have := HFLB.out; have := HJ.out; omega) hop' ⟨hsc, hgl⟩ hfs' HZX.out HXB.out HX8.out)
    have HOO : Hid ((openD d8 (fsOf F6) nmL).2.1.ops ≤ d8.ops + 2) := Lib.hid (openD_ok HOK8.out (by have := HO8.out; have := HOPB.out; have := HJ.out; omega) nmL).2
    have HOL := Lib.hid (openD_len d8 (fsOf F6) nmL)
    have q0 : w8.cell? ⟨BX, 0, none⟩ = some (pX14 X) := cell_of_row _ BX 0 _ _ _ HBX8.out
    clear hop' hsc hgl hfs' hopp hd8
    go_wp2_with (fail)
    refine HOPN.out.mono ?_
    rintro e w9 ⟨rfl, L9, H9, F9, v9, r9, Lf9, vr9, P9, vh9, hws, hf9, hb9⟩
    have HFIN : Hid (AEnd14 Z w B X j (.returned (.tuple #[.bool true, .bool false])) w9) := Lib.hid ⟨false, rfl, ⟨D, M, L9, G, H9, _, F9, T', v9, r9, Lf9, vr9, P9, vh9, hws, by have := HOO.out; have := HO8.out; have := HOPB.out; omega, by have h5 := congrArg List.length hf9; have h6 := HOL.out; simp only [fsOf, List.length_map] at h5 h6; have := HL8.out; have := HFLB.out; omega⟩, HB8.out.trans hb9⟩
    clear hws hf9 hb9 q0 HOPN
    go_wp2_with (fail)
    refine bodyPost_ret (v := .tuple #[.bool true, .bool false]) (results_two Try.results12 _ _ _) rfl ?_
    exact HFIN.out
end
end Go.Proofs.Ythblbmbefhlbjaa
/- Layer 14: the law's world acts: room, a sync that fails, the power. -/
namespace Go.Proofs.Ythblbmbefhlbjaa
open Go.RowKit Go.MapKept

section
variable {Z Z' S : Nat → Prop} {w w' : World} {B D M L G H g1 g2 : Nat} {d d' : Dk} {F F' : List Ent} {T T1 T2 : List (List UInt8)} {v vr vh : Value} {r r' : Rk} {Lf : Fs} {P : List Value}
/-- a number of the document's disk is set -/
theorem WX.nums (h : WX Z w B D M L G H d F T1 g1 v r Lf vr P T2 g2 vh) (c : Ch (At1 G) w w') (hr : w'.heap[G]? = some (rkObj vr r')) : WX Z w' B D M L G H d F T1 g1 v r' Lf vr P T2 g2 vh :=
  h.doc (h.rk.nums c hr) (h.rl.ch c (fun _ _ hk => .inr (.inl hk)) (fun _ _ ht => ht)) (c.wide (fun _ hk => .inl (.inl hk))) (fun _ hk => .inl hk)
set_option maxRecDepth 100000 in
set_option maxHeartbeats 8000000 in
theorem worldAct14_4 {X : Nat} {j n kp : Int} (h : St14 Z B X j w) (hj : 0 ≤ j ∧ j ≤ 100) (hkp : -9223372036854775808 ≤ kp ∧ kp ≤ 9223372036854775807) (A : Option Addr) (c : Nat) (l : List UInt8) (hl : Bs w A l.length c l) (hoff : 0 < l.length → ∀ b, A = some b → b.block < B) (hB : B ≤ w.heap.size) :
    Calls Try.prog 12 #[pX14 X, actV14 4 n kp A l.length c] w (AEnd14 Z w B X j) := by
  have hmf : ∀ (fn : Fn) (first cap : Array Value) (w : World), (Instr.makeFunc fn first cap).run Try.prog w = .ok (.func fn first cap) w := fun _ _ _ _ => rfl
  obtain ⟨D, M, L, G, H, d, F, T, v, r, Lf, vr, P, vh, h, hop, hfl⟩ := h
  have hb0 : Below w.heap.size w ((w.alloc (.cells #[pX14 X] TWP14)).alloc (.cells (actC14 4 n kp A l.length c) TAct14)) := ((Below.refl _ _).alloc (Nat.le_refl _) _).alloc (by simp) _
  have HBX0 : Hid (((w.alloc (.cells #[pX14 X] TWP14)).alloc (.cells (actC14 4 n kp A l.length c) TAct14)).heap[w.heap.size]? = some (.cells #[pX14 X] TWP14)) := Lib.hid (by
    have h1 : Below (w.heap.size + 1) (w.alloc (.cells #[pX14 X] TWP14)) ((w.alloc (.cells #[pX14 X] TWP14)).alloc (.cells (actC14 4 n kp A l.length c) TAct14)) := (Below.refl _ _).alloc (by simp) _
    exact (h1.block _ (by omega)).trans (heap_alloc_new w _))
  have HBA0 : Hid (((w.alloc (.cells #[pX14 X] TWP14)).alloc (.cells (actC14 4 n kp A l.length c) TAct14)).heap[w.heap.size + 1]? = some (.cells (actC14 4 n kp A l.length c) TAct14)) := Lib.hid (by
    have h1 := heap_alloc_new (w.alloc (.cells #[pX14 X] TWP14)) (.cells (actC14 4 n kp A l.length c) TAct14)
    rw [show (w.alloc (.cells #[pX14 X] TWP14)).heap.size = w.heap.size + 1 from by simp] at h1
    exact h1)
  have HL0 := Lib.hid (hl.below hb0)
  have HW0 := Lib.hid (h.x.below hb0)
  have HX0 := Lib.hid ((hb0.block X (Array.getElem?_eq_some_iff.1 h.row).1).trans h.row)
  have HB0 : Hid (Below B w ((w.alloc (.cells #[pX14 X] TWP14)).alloc (.cells (actC14 4 n kp A l.length c) TAct14))) := Lib.hid (hb0.mono hB)
  have HBW0 := Lib.hid (Nat.le_trans hB hb0.size)
  have HSI := Lib.hid h.sim
  have HOK := Lib.hid h.ok
  have HFS := Lib.hid h.fs
  have HZX := Lib.hid h.zx
  have HXB := Lib.hid h.xb
  have HOP := Lib.hid hop
  have HFL := Lib.hid hfl
  have HJ := Lib.hid hj
  have HKP := Lib.hid hkp
  have HOFF := Lib.hid hoff
  have HNUM := Lib.hid (recs_num h.ok h.fs)
  have HLL : Hid (Lf.length ≤ 10000) := Lib.hid (by have h5 := h.sim.perm.length_eq; simp only [fsOf, List.length_map] at h5; omega)
  have e0 : ((w.alloc (.cells #[pX14 X] TWP14)).alloc (.cells (actC14 4 n kp A l.length c) TAct14)).cell? ⟨w.heap.size + 1, 0, none⟩ = some (.int .i64 4) := cell_of_row _ _ 0 _ _ _ HBA0.out
  clear h hl hop hfl hj hkp hoff hB hb0
  go_enter Try.func12, Try.ntmps12
  go_wp2_with (fail)
  obtain ⟨BX, hbx⟩ : ∃ BX, BX = w.heap.size := ⟨_, rfl⟩
  obtain ⟨BA, hba⟩ : ∃ BA, BA = w.heap.size + 1 := ⟨_, rfl⟩
  rw [← hbx] at HBX0
  rw [← hba] at HBA0
  rw [← hba, ← hbx]
  clear hbx hba e0
  generalize (w.alloc (.cells #[pX14 X] TWP14)).alloc (.cells (actC14 4 n kp A l.length c) TAct14) = w0 at *
  have HWN := Lib.hid HW0.out.gone
  have HSP := HSI
  have OKP := HOK
  have HOPB : Hid (d.ops ≤ 6 * j + 3) := Lib.hid (by have := HOP.out; omega)
  have HFLB : Hid ((F.length : Int) ≤ 6 * j + 3) := Lib.hid (by have := HFL.out; omega)
  have HLP := HLL
  have HPW := Lib.hid (show ∃ T', (scan (bsOf (opPower d (fsOf F) kp).2.2 nmL)).1 = T' ∧ (scan (bsOf (opPower d (fsOf F) kp).2.2 nmL)).2.1 = (recs T').length ∧ (openD (opPower d (fsOf F) kp).2.1 (opPower d (fsOf F) kp).2.2 nmL).1 = .inl 0 ∧ WalFs (openD (opPower d (fsOf F) kp).2.1 (opPower d (fsOf F) kp).2.2 nmL).2.2 nmL T' from by
    obtain ⟨T', _, h5⟩ := opened_whole (d := d) kp HFS.out
    exact ⟨T', h5⟩)
  have HBXP := HBX0
  have HBAP := HBA0
  have HXP := HX0
  have HBP := HB0
  have HBWP := HBW0
  clear HW0 HBX0 HBA0 HX0 HB0 HBW0
  obtain ⟨S2, hSd⟩ : ∃ S : World → Prop, ∀ W, S W ↔ (W.cell? ⟨BX, 0, none⟩ = some (pX14 X) ∧ W.cell? ⟨X, 0, none⟩ = some (pD D) ∧ W.cell? ⟨X, 2, none⟩ = some (pR G) ∧ W.cell? ⟨BA, 2, none⟩ = some (.int .i64 kp)) := ⟨_, fun _ => Iff.rfl⟩
  have p0 : ∀ n : Meets S2, n.u.cell? ⟨BX, 0, none⟩ = some (pX14 X) := fun n => ((hSd _).1 n.h).1
  have p1 : ∀ n : Meets S2, n.u.cell? ⟨X, 0, none⟩ = some (pD D) := fun n => ((hSd _).1 n.h).2.1
  have p2 : ∀ n : Meets S2, n.u.cell? ⟨X, 2, none⟩ = some (pR G) := fun n => ((hSd _).1 n.h).2.2.1
  have p3 : ∀ n : Meets S2, n.u.cell? ⟨BA, 2, none⟩ = some (.int .i64 kp) := fun n => ((hSd _).1 n.h).2.2.2
  have HSD2 := Lib.hid hSd
  clear hSd
  go_wp2_with (fail)
  refine region_plan S2 [([0, 1, 2, 3, 4, 5], 6)] [] (by kernel_rfl) (by kernel_rfl) (fun _ _ _ _ _ h => h) ((HSD2.out _).2 ⟨cell_of_row _ BX 0 _ _ _ HBXP.out, cell_of_row _ X 0 _ _ _ HXP.out, cell_of_row _ X 2 _ _ _ HXP.out, cell_of_row _ BA 2 _ _ _ HBAP.out⟩) (fun hne => ?_)
  simp only [wpPlan, pick, List.getElem?_cons_zero, List.getElem?_cons_succ, Option.elim]
  repeat (go_big_quiet_step (fail))
  refine wpQuiet_nil ?_
  intro K hK
  have hb5 : Below w0.heap.size w0 w0.drew := (Below.refl _ w0).drew
  have HMP := Lib.hid (mPower (HWN.out.below hb5).dk OKP.out kp)
  have HN5 := Lib.hid (HWN.out.below hb5)
  have HB5 : Hid (Below B w w0.drew) := Lib.hid (HBP.out.trans (hb5.mono HBWP.out))
  have HBW5 : Hid (B ≤ w0.drew.heap.size) := Lib.hid (Nat.le_trans HBWP.out hb5.size)
  have HBX5 : Hid (w0.drew.heap[BX]? = some (.cells #[pX14 X] TWP14)) := Lib.hid HBXP.out
  have HBA5 : Hid (w0.drew.heap[BA]? = some (.cells (actC14 4 n kp A l.length c) TAct14)) := Lib.hid HBAP.out
  have HX5 : Hid (w0.drew.heap[X]? = some (.cells #[pD D, pL L, pR G, pH H] TW14)) := Lib.hid HXP.out
  clear hb5
  go_simp
  refine HMP.out.mono ?_
  rintro e w6 ⟨F6, rfl, h6, c6, f6⟩
  have HN6 := Lib.hid (HN5.out.dkch c6 h6)
  have HBX6 := Lib.hid (c6.ch.row HBX5.out (apart_ty HN5.out.dk HBX5.out (by decide) (by decide) (by decide)))
  have HBA6 := Lib.hid (c6.ch.row HBA5.out (apart_ty HN5.out.dk HBA5.out (by decide) (by decide) (by decide)))
  have HX6 := Lib.hid (c6.ch.row HX5.out (apart_ty HN5.out.dk HX5.out (by decide) (by decide) (by decide)))
  have HB6 : Hid (Below B w w6) := Lib.hid (HB5.out.trans (DkCh.below HN5.out.dk c6 HBW5.out))
  have HBW6 : Hid (B ≤ w6.heap.size) := Lib.hid (Nat.le_trans HBW5.out c6.ch.size)
  have HF6 := Lib.hid f6
  clear h6 c6 f6 HMP
  dsimp only [opPower, endM]
  refine hK.out _ _ ((HSD2.out _).2 ⟨cell_of_row _ BX 0 _ _ _ HBX6.out, cell_of_row _ X 0 _ _ _ HX6.out, cell_of_row _ X 2 _ _ _ HX6.out, cell_of_row _ BA 2 _ _ _ HBA6.out⟩) (fun _ => ?_)
  clear hK K
  refine wpQuiet_nil ?_
  go_wp2_with (fail)
  refine region_plan S2 [([0, 1, 2, 3, 4, 5], 6)] [] (by kernel_rfl) (by kernel_rfl) (fun _ _ _ _ _ h => h) ((HSD2.out _).2 ⟨cell_of_row _ BX 0 _ _ _ HBX6.out, cell_of_row _ X 0 _ _ _ HX6.out, cell_of_row _ X 2 _ _ _ HX6.out, cell_of_row _ BA 2 _ _ _ HBA6.out⟩) (fun hne => ?_)
  simp only [wpPlan, pick, List.getElem?_cons_zero, List.getElem?_cons_succ, Option.elim]
  repeat (go_big_quiet_step (fail))
  refine wpQuiet_nil ?_
  intro K hK
  have hb7 : Below w6.heap.size w6 w6.drew := (Below.refl _ w6).drew
  have HRP := Lib.hid (rkPower (HN6.out.below hb7).rk (by have := HLP.out; omega) (fun e he => OKP.out.safe e (HSP.out.perm.mem_iff.1 he)) (fun e he => by have h5 := OKP.out.len (in_fget OKP.out.names (HSP.out.perm.mem_iff.1 (show (e.1, e.2) ∈ _ from he))); have := OKP.out.ok.used; omega) kp)
  have HN7 := Lib.hid (HN6.out.below hb7)
  have HB7 : Hid (Below B w w6.drew) := Lib.hid (HB6.out.trans (hb7.mono HBW6.out))
  have HBW7 : Hid (B ≤ w6.drew.heap.size) := Lib.hid (Nat.le_trans HBW6.out hb7.size)
  have HBX7 : Hid (w6.drew.heap[BX]? = some (.cells #[pX14 X] TWP14)) := Lib.hid HBX6.out
  have HBA7 : Hid (w6.drew.heap[BA]? = some (.cells (actC14 4 n kp A l.length c) TAct14)) := Lib.hid HBA6.out
  have HX7 : Hid (w6.drew.heap[X]? = some (.cells #[pD D, pL L, pR G, pH H] TW14)) := Lib.hid HX6.out
  clear hb7
  go_simp
  refine HRP.out.mono ?_
  rintro e w8 ⟨rfl, P8, k8, hc8⟩
  have HN8 := Lib.hid (HN7.out.doc k8 hc8 (fun _ hk => .inl hk))
  have HBX8 := Lib.hid (hc8.row HBX7.out (apart_tyR HN7.out.rk HBX7.out (by decide) (by decide)))
  have HBA8 := Lib.hid (hc8.row HBA7.out (apart_tyR HN7.out.rk HBA7.out (by decide) (by decide)))
  have HX8 := Lib.hid (hc8.row HX7.out (apart_tyR HN7.out.rk HX7.out (by decide) (by decide)))
  have HB8 : Hid (Below B w w8) := Lib.hid (HB7.out.trans (hc8.below (fun k hk => (HN7.out.rk.foot_lt hk).1) HBW7.out))
  have HBW8 : Hid (B ≤ w8.heap.size) := Lib.hid (Nat.le_trans HBW7.out hc8.size)
  clear k8 hc8 HRP
  dsimp only
  refine hK.out _ _ ((HSD2.out _).2 ⟨cell_of_row _ BX 0 _ _ _ HBX8.out, cell_of_row _ X 0 _ _ _ HX8.out, cell_of_row _ X 2 _ _ _ HX8.out, cell_of_row _ BA 2 _ _ _ HBA8.out⟩) (fun _ => ?_)
  clear hK K
  refine wpQuiet_nil ?_
  clear p0 p1 p2 p3 hne
  obtain ⟨T', hsc, hgl, hop', hfs'⟩ := HPW.out
  have hopp : (opPower d (fsOf F) kp).2.2 = fsOf F6 := HF6.out.symm
  obtain ⟨d8, hd8⟩ : ∃ d8, d8 = (opPower d (fsOf F) kp).2.1 := ⟨_, rfl⟩
  rw [← hd8] at hop' hfs'
  rw [hopp] at hsc hgl hop' hfs'
  have HOK8 : Hid (FsOk d8 (fsOf F6)) := Lib.hid (by rw [hd8, ← hopp]; exact power_ok OKP.out kp)
  have HSI8 : Hid (Sim d8 (fsOf F6) r.power (powL kp Lf)) := Lib.hid (by rw [hd8, ← hopp]; exact HSP.out.power OKP.out kp _)
  have HO8 : Hid (d8.ops = d.ops) := Lib.hid (by rw [hd8]; rfl)
  have HL8 : Hid (F6.length = F.length) := Lib.hid (by have h5 := congrArg List.length hopp; simpa [fsOf, powFs, opPower] using h5.symm)
  have HN8' : Hid (WN Z w8 B D M G d8 F6 r.power (powL kp Lf) vr P8) := Lib.hid (by rw [hd8]; exact HN8.out)
  have HOPN := Lib.hid (worldOpen14 HN8'.out HSI8.out HOK8.out (by have := HO8.out; have := HOPB.out; have := HJ.out; omega) HBW8.out (by have := HL8.out; have := HFLB.out; have := HJ.out; omega) hop' ⟨hsc, hgl⟩ hfs' HZX.out HXB.out HX8.out)
  have HOO : Hid ((openD d8 (fsOf F6) nmL).2.1.ops ≤ d8.ops + 2) := Lib.hid (openD_ok HOK8.out (by have := HO8.out; have := HOPB.out; have := HJ.out; omega) nmL).2
  have HOL := Lib.hid (openD_len d8 (fsOf F6) nmL)
  have q0 : w8.cell? ⟨BX, 0, none⟩ = some (pX14 X) := cell_of_row _ BX 0 _ _ _ HBX8.out
  clear hop' hsc hgl hfs' hopp hd8
  go_wp2_with (fail)
  refine HOPN.out.mono ?_
  rintro e w9 ⟨rfl, L9, H9, F9, v9, r9, Lf9, vr9, P9, vh9, hws, hf9, hb9⟩
  have HFIN : Hid (AEnd14 Z w B X j (.returned (.tuple #[.bool true, .bool false])) w9) := Lib.hid ⟨false, rfl, ⟨D, M, L9, G, H9, _, F9, T', v9, r9, Lf9, vr9, P9, vh9, hws, by have := HOO.out; have := HO8.out; have := HOPB.out; omega, by have h5 := congrArg List.length hf9; have h6 := HOL.out; simp only [fsOf, List.length_map] at h5 h6; have := HL8.out; have := HFLB.out; omega⟩, HB8.out.trans hb9⟩
  clear hws hf9 hb9 q0 HOPN
  go_wp2_with (fail)
  refine bodyPost_ret (v := .tuple #[.bool true, .bool false]) (results_two Try.results12 _ _ _) rfl ?_
  exact HFIN.out
set_option maxRecDepth 100000 in
set_option maxHeartbeats 8000000 in
theorem worldAct14_5 {X : Nat} {j n kp : Int} (h : St14 Z B X j w) (hj : 0 ≤ j ∧ j ≤ 100) (hkp : -9223372036854775808 ≤ kp ∧ kp ≤ 9223372036854775807) (A : Option Addr) (c : Nat) (l : List UInt8) (hl : Bs w A l.length c l) (hoff : 0 < l.length → ∀ b, A = some b → b.block < B) (hB : B ≤ w.heap.size) (kd : Int) (hk : kd ≠ 0 ∧ kd ≠ 1 ∧ kd ≠ 2 ∧ kd ≠ 3 ∧ kd ≠ 4) :
    Calls Try.prog 12 #[pX14 X, actV14 kd n kp A l.length c] w (AEnd14 Z w B X j) := by
  have hmf : ∀ (fn : Fn) (first cap : Array Value) (w : World), (Instr.makeFunc fn first cap).run Try.prog w = .ok (.func fn first cap) w := fun _ _ _ _ => rfl
  obtain ⟨D, M, L, G, H, d, F, T, v, r, Lf, vr, P, vh, h, hop, hfl⟩ := h
  have hb0 : Below w.heap.size w ((w.alloc (.cells #[pX14 X] TWP14)).alloc (.cells (actC14 kd n kp A l.length c) TAct14)) := ((Below.refl _ _).alloc (Nat.le_refl _) _).alloc (by simp) _
  have HBX0 : Hid (((w.alloc (.cells #[pX14 X] TWP14)).alloc (.cells (actC14 kd n kp A l.length c) TAct14)).heap[w.heap.size]? = some (.cells #[pX14 X] TWP14)) := Lib.hid (by
    have h1 : Below (w.heap.size + 1) (w.alloc (.cells #[pX14 X] TWP14)) ((w.alloc (.cells #[pX14 X] TWP14)).alloc (.cells (actC14 kd n kp A l.length c) TAct14)) := (Below.refl _ _).alloc (by simp) _
    exact (h1.block _ (by omega)).trans (heap_alloc_new w _))
  have HBA0 : Hid (((w.alloc (.cells #[pX14 X] TWP14)).alloc (.cells (actC14 kd n kp A l.length c) TAct14)).heap[w.heap.size + 1]? = some (.cells (actC14 kd n kp A l.length c) TAct14)) := Lib.hid (by
    have h1 := heap_alloc_new (w.alloc (.cells #[pX14 X] TWP14)) (.cells (actC14 kd n kp A l.length c) TAct14)
    rw [show (w.alloc (.cells #[pX14 X] TWP14)).heap.size = w.heap.size + 1 from by simp] at h1
    exact h1)
  have HL0 := Lib.hid (hl.below hb0)
  have HW0 := Lib.hid (h.x.below hb0)
  have HX0 := Lib.hid ((hb0.block X (Array.getElem?_eq_some_iff.1 h.row).1).trans h.row)
  have HB0 : Hid (Below B w ((w.alloc (.cells #[pX14 X] TWP14)).alloc (.cells (actC14 kd n kp A l.length c) TAct14))) := Lib.hid (hb0.mono hB)
  have HBW0 := Lib.hid (Nat.le_trans hB hb0.size)
  have HSI := Lib.hid h.sim
  have HOK := Lib.hid h.ok
  have HFS := Lib.hid h.fs
  have HZX := Lib.hid h.zx
  have HXB := Lib.hid h.xb
  have HOP := Lib.hid hop
  have HFL := Lib.hid hfl
  have HJ := Lib.hid hj
  have HKP := Lib.hid hkp
  have HOFF := Lib.hid hoff
  have HNUM := Lib.hid (recs_num h.ok h.fs)
  have HLL : Hid (Lf.length ≤ 10000) := Lib.hid (by have h5 := h.sim.perm.length_eq; simp only [fsOf, List.length_map] at h5; omega)
  have e0 : ((w.alloc (.cells #[pX14 X] TWP14)).alloc (.cells (actC14 kd n kp A l.length c) TAct14)).cell? ⟨w.heap.size + 1, 0, none⟩ = some (.int .i64 kd) := cell_of_row _ _ 0 _ _ _ HBA0.out
  clear h hl hop hfl hj hkp hoff hB hb0
  go_enter Try.func12, Try.ntmps12
  have k0 : (kd == 0) = false := by simpa using hk.1
  have k1 : (kd == 1) = false := by simpa using hk.2.1
  have k2 : (kd == 2) = false := by simpa using hk.2.2.1
  have k3 : (kd == 3) = false := by simpa using hk.2.2.2.1
  have k4 : (kd == 4) = false := by simpa using hk.2.2.2.2
  clear hk
  have HFIN : Hid (AEnd14 Z w B X j (.returned (.tuple #[.bool true, .bool false])) ((w.alloc (.cells #[pX14 X] TWP14)).alloc (.cells (actC14 kd n kp A l.length c) TAct14))) := Lib.hid ⟨false, rfl, ⟨D, M, L, G, H, d, F, T, v, r, Lf, vr, P, vh, ⟨HW0.out, HSI.out, HOK.out, HFS.out, HX0.out, HZX.out, HXB.out⟩, by have := HOP.out; omega, by have := HFL.out; omega⟩, HB0.out⟩
  go_wp2_with (fail)
  refine bodyPost_ret (v := .tuple #[.bool true, .bool false]) (results_two Try.results12 _ _ _) rfl ?_
  exact HFIN.out
set_option maxRecDepth 100000 in
set_option maxHeartbeats 8000000 in
theorem worldAct14_1 {X : Nat} {j n kp : Int} (h : St14 Z B X j w) (hj : 0 ≤ j ∧ j ≤ 100) (hkp : -9223372036854775808 ≤ kp ∧ kp ≤ 9223372036854775807) (A : Option Addr) (c : Nat) (l : List UInt8) (hl : Bs w A l.length c l) (hoff : 0 < l.length → ∀ b, A = some b → b.block < B) (hB : B ≤ w.heap.size) :
    Calls Try.prog 12 #[pX14 X, actV14 1 n kp A l.length c] w (AEnd14 Z w B X j) := by
  have hmf : ∀ (fn : Fn) (first cap : Array Value) (w : World), (Instr.makeFunc fn first cap).run Try.prog w = .ok (.func fn first cap) w := fun _ _ _ _ => rfl
  obtain ⟨D, M, L, G, H, d, F, T, v, r, Lf, vr, P, vh, h, hop, hfl⟩ := h
  have hb0 : Below w.heap.size w ((w.alloc (.cells #[pX14 X] TWP14)).alloc (.cells (actC14 1 n kp A l.length c) TAct14)) := ((Below.refl _ _).alloc (Nat.le_refl _) _).alloc (by simp) _
  have HBX0 : Hid (((w.alloc (.cells #[pX14 X] TWP14)).alloc (.cells (actC14 1 n kp A l.length c) TAct14)).heap[w.heap.size]? = some (.cells #[pX14 X] TWP14)) := Lib.hid (by
    have h1 : Below (w.heap.size + 1) (w.alloc (.cells #[pX14 X] TWP14)) ((w.alloc (.cells #[pX14 X] TWP14)).alloc (.cells (actC14 1 n kp A l.length c) TAct14)) := (Below.refl _ _).alloc (by simp) _
    exact (h1.block _ (by omega)).trans (heap_alloc_new w _))
  have HBA0 : Hid (((w.alloc (.cells #[pX14 X] TWP14)).alloc (.cells (actC14 1 n kp A l.length c) TAct14)).heap[w.heap.size + 1]? = some (.cells (actC14 1 n kp A l.length c) TAct14)) := Lib.hid (by
    have h1 := heap_alloc_new (w.alloc (.cells #[pX14 X] TWP14)) (.cells (actC14 1 n kp A l.length c) TAct14)
    rw [show (w.alloc (.cells #[pX14 X] TWP14)).heap.size = w.heap.size + 1 from by simp] at h1
    exact h1)
  have HL0 := Lib.hid (hl.below hb0)
  have HW0 := Lib.hid (h.x.below hb0)
  have HX0 := Lib.hid ((hb0.block X (Array.getElem?_eq_some_iff.1 h.row).1).trans h.row)
  have HB0 : Hid (Below B w ((w.alloc (.cells #[pX14 X] TWP14)).alloc (.cells (actC14 1 n kp A l.length c) TAct14))) := Lib.hid (hb0.mono hB)
  have HBW0 := Lib.hid (Nat.le_trans hB hb0.size)
  have HSI := Lib.hid h.sim
  have HOK := Lib.hid h.ok
  have HFS := Lib.hid h.fs
  have HZX := Lib.hid h.zx
  have HXB := Lib.hid h.xb
  have HOP := Lib.hid hop
  have HFL := Lib.hid hfl
  have HJ := Lib.hid hj
  have HKP := Lib.hid hkp
  have HOFF := Lib.hid hoff
  have HNUM := Lib.hid (recs_num h.ok h.fs)
  have HLL : Hid (Lf.length ≤ 10000) := Lib.hid (by have h5 := h.sim.perm.length_eq; simp only [fsOf, List.length_map] at h5; omega)
  have e0 : ((w.alloc (.cells #[pX14 X] TWP14)).alloc (.cells (actC14 1 n kp A l.length c) TAct14)).cell? ⟨w.heap.size + 1, 0, none⟩ = some (.int .i64 1) := cell_of_row _ _ 0 _ _ _ HBA0.out
  clear h hl hop hfl hj hkp hoff hB hb0
  go_enter Try.func12, Try.ntmps12
  go_wp2_with (fail)
  obtain ⟨BX, hbx⟩ : ∃ BX, BX = w.heap.size := ⟨_, rfl⟩
  obtain ⟨BA, hba⟩ : ∃ BA, BA = w.heap.size + 1 := ⟨_, rfl⟩
  rw [← hbx] at HBX0
  rw [← hba] at HBA0
  rw [← hba, ← hbx]
  clear hbx hba e0
  generalize (w.alloc (.cells #[pX14 X] TWP14)).alloc (.cells (actC14 1 n kp A l.length c) TAct14) = w0 at *
  obtain ⟨S, hSd⟩ : ∃ S : World → Prop, ∀ W, S W ↔ (W.cell? ⟨BX, 0, none⟩ = some (pX14 X) ∧ W.cell? ⟨X, 0, none⟩ = some (pD D) ∧ W.cell? ⟨X, 2, none⟩ = some (pR G) ∧ W.cell? ⟨BA, 1, none⟩ = some (.int .i64 n) ∧ W.cell? ⟨BA, 2, none⟩ = some (.int .i64 kp)) := ⟨_, fun _ => Iff.rfl⟩
  have s0 : ∀ q : Meets S, q.u.cell? ⟨BX, 0, none⟩ = some (pX14 X) := fun q => ((hSd _).1 q.h).1
  have s1 : ∀ q : Meets S, q.u.cell? ⟨X, 0, none⟩ = some (pD D) := fun q => ((hSd _).1 q.h).2.1
  have s2 : ∀ q : Meets S, q.u.cell? ⟨X, 2, none⟩ = some (pR G) := fun q => ((hSd _).1 q.h).2.2.1
  have s3 : ∀ q : Meets S, q.u.cell? ⟨BA, 1, none⟩ = some (.int .i64 n) := fun q => ((hSd _).1 q.h).2.2.2.1
  have s4 : ∀ q : Meets S, q.u.cell? ⟨BA, 2, none⟩ = some (.int .i64 kp) := fun q => ((hSd _).1 q.h).2.2.2.2
  have HSD := Lib.hid hSd
  clear hSd
  have hrm := roomW_le n
  have hop : opSetRoom d (fsOf F) (roomW n : Int) = (.inl 0, { d with room := (roomW n : Int) }, fsOf F) := if_pos (by omega)
  have hko := callD_ok HOK.out (by have := HOP.out; have := HJ.out; omega) 5 (roomW n : Int) 0 (by omega) (by omega) ⟨#[]⟩ ⟨#[]⟩ []
  have HKO : Hid (FsOk { d with room := (roomW n : Int) } (fsOf F)) := Lib.hid (by
    have h5 : callD d (fsOf F) 5 (roomW n : Int) 0 ⟨#[]⟩ ⟨#[]⟩ [] = liftO (opSetRoom d (fsOf F) (roomW n : Int)) := rfl
    rw [h5, hop] at hko
    exact hko)
  clear hko
  clear hrm
  refine region_plan S [([0, 1, 2, 3, 4, 5], 6), ([], 7)] [] (by kernel_rfl) (by kernel_rfl) (fun _ _ _ _ _ h => h) ((HSD.out _).2 ⟨cell_of_row _ BX 0 _ _ _ HBX0.out, cell_of_row _ X 0 _ _ _ HX0.out, cell_of_row _ X 2 _ _ _ HX0.out, cell_of_row _ BA 1 _ _ _ HBA0.out, cell_of_row _ BA 2 _ _ _ HBA0.out⟩) (fun hne => ?_)
  simp only [wpPlan, pick, List.getElem?_cons_zero, List.getElem?_cons_succ, Option.elim]
  repeat (go_big_quiet_step (fail))
  refine wpQuiet_nil ?_
  intro K hK
  have hb1 : Below w0.heap.size w0 w0.drew := (Below.refl _ w0).drew
  have HW1 := Lib.hid (HW0.out.below hb1)
  have HB1 : Hid (Below B w w0.drew) := Lib.hid (HB0.out.trans (hb1.mono HBW0.out))
  have HBW1 : Hid (B ≤ w0.drew.heap.size) := Lib.hid (Nat.le_trans HBW0.out hb1.size)
  have HBX1 : Hid (w0.drew.heap[BX]? = some (.cells #[pX14 X] TWP14)) := Lib.hid HBX0.out
  have HBA1 : Hid (w0.drew.heap[BA]? = some (.cells (actC14 1 n kp A l.length c) TAct14)) := Lib.hid HBA0.out
  have HX1 : Hid (w0.drew.heap[X]? = some (.cells #[pD D, pL L, pR G, pH H] TW14)) := Lib.hid HX0.out
  clear hb1
  generalize w0.drew = w1 at *
  go_simp
  refine (room14 n _).mono ?_
  rintro e w' ⟨rfl, rfl⟩
  dsimp only
  refine hK.out _ _ ((HSD.out _).2 ⟨cell_of_row _ BX 0 _ _ _ HBX1.out, cell_of_row _ X 0 _ _ _ HX1.out, cell_of_row _ X 2 _ _ _ HX1.out, cell_of_row _ BA 1 _ _ _ HBA1.out, cell_of_row _ BA 2 _ _ _ HBA1.out⟩) (fun _ => ?_)
  clear hK K
  refine wpQuiet_nil ?_
  intro K hK
  go_simp
  refine (mSetRoom HW1.out.dk (roomW n : Int)).mono ?_
  rw [hop]
  rintro e w2 ⟨F2, rfl, h6, c6, f6⟩
  dsimp only at h6 f6
  have HW2 := Lib.hid (HW1.out.dkch c6 h6)
  have HBX2 := Lib.hid (c6.ch.row HBX1.out (apart_ty HW1.out.dk HBX1.out (by decide) (by decide) (by decide)))
  have HBA2 := Lib.hid (c6.ch.row HBA1.out (apart_ty HW1.out.dk HBA1.out (by decide) (by decide) (by decide)))
  have HX2 := Lib.hid (c6.ch.row HX1.out (apart_ty HW1.out.dk HX1.out (by decide) (by decide) (by decide)))
  have HB2 : Hid (Below B w w2) := Lib.hid (HB1.out.trans (DkCh.below HW1.out.dk c6 HBW1.out))
  have HBW2 : Hid (B ≤ w2.heap.size) := Lib.hid (Nat.le_trans HBW1.out c6.ch.size)
  have HF2 : Hid (fsOf F2 = fsOf F) := Lib.hid f6
  have HLF2 : Hid (F2.length = F.length) := Lib.hid (by have h5 := congrArg List.length f6; simpa [fsOf] using h5)
  clear h6 c6 f6
  dsimp only [endM]
  refine hK.out _ _ ((HSD.out _).2 ⟨cell_of_row _ BX 0 _ _ _ HBX2.out, cell_of_row _ X 0 _ _ _ HX2.out, cell_of_row _ X 2 _ _ _ HX2.out, cell_of_row _ BA 1 _ _ _ HBA2.out, cell_of_row _ BA 2 _ _ _ HBA2.out⟩) (fun _ => ?_)
  clear hK K
  refine wpQuiet_nil ?_
  clear hop
  go_wp2_with (fail)
  refine region_plan S [([0, 1, 2, 3, 4, 5], 6), ([7, 8], 9)] [] (by kernel_rfl) (by kernel_rfl) (fun _ _ _ _ _ h => h) ((HSD.out _).2 ⟨cell_of_row _ BX 0 _ _ _ HBX2.out, cell_of_row _ X 0 _ _ _ HX2.out, cell_of_row _ X 2 _ _ _ HX2.out, cell_of_row _ BA 1 _ _ _ HBA2.out, cell_of_row _ BA 2 _ _ _ HBA2.out⟩) (fun hne => ?_)
  simp only [wpPlan, pick, List.getElem?_cons_zero, List.getElem?_cons_succ, Option.elim]
  repeat (go_big_quiet_step (fail))
  refine wpQuiet_nil ?_
  intro K hK
  have hb3 : Below w2.heap.size w2 w2.drew := (Below.refl _ w2).drew
  have HW3 := Lib.hid (HW2.out.below hb3)
  have HB3 : Hid (Below B w w2.drew) := Lib.hid (HB2.out.trans (hb3.mono HBW2.out))
  have HBW3 : Hid (B ≤ w2.drew.heap.size) := Lib.hid (Nat.le_trans HBW2.out hb3.size)
  have HBX3 : Hid (w2.drew.heap[BX]? = some (.cells #[pX14 X] TWP14)) := Lib.hid HBX2.out
  have HBA3 : Hid (w2.drew.heap[BA]? = some (.cells (actC14 1 n kp A l.length c) TAct14)) := Lib.hid HBA2.out
  have HX3 : Hid (w2.drew.heap[X]? = some (.cells #[pD D, pL L, pR G, pH H] TW14)) := Lib.hid HX2.out
  clear hb3
  generalize w2.drew = w3 at *
  go_simp
  refine (room14 n _).mono ?_
  rintro e w' ⟨rfl, rfl⟩
  dsimp only
  refine hK.out _ _ ((HSD.out _).2 ⟨cell_of_row _ BX 0 _ _ _ HBX3.out, cell_of_row _ X 0 _ _ _ HX3.out, cell_of_row _ X 2 _ _ _ HX3.out, cell_of_row _ BA 1 _ _ _ HBA3.out, cell_of_row _ BA 2 _ _ _ HBA3.out⟩) (fun _ => ?_)
  clear hK K
  repeat (go_big_quiet_step (fail))
  refine wpQuiet_nil ?_
  intro K hK
  have z1 : w3.cell? ⟨G, 1, none⟩ = some (.int .i64 r.size) := HW3.out.rk.cell 1
  have z2 : w3.frozen? ⟨G, 1, none⟩ = false := HW3.out.rk.frozen 1
  go_simp
  have hcs : Ch (At1 G) w3 (w3.setCell ⟨G, 1, none⟩ (.int .i64 (roomW n : Int))) := (Ch.refl _ w3).set1 1 _
  have hgr : (w3.setCell ⟨G, 1, none⟩ (.int .i64 (roomW n : Int))).heap[G]? = some (rkObj vr { r with size := (roomW n : Int) }) := heap_set_row HW3.out.rk.row _
  have HW4 := Lib.hid (HW3.out.nums (r' := { r with size := (roomW n : Int) }) hcs hgr)
  have HBX4 := Lib.hid (hcs.row HBX3.out (fun e => apart_tyR HW3.out.rk HBX3.out (by decide) (by decide) (.inl e)))
  have HBA4 := Lib.hid (hcs.row HBA3.out (fun e => apart_tyR HW3.out.rk HBA3.out (by decide) (by decide) (.inl e)))
  have HX4 := Lib.hid (hcs.row HX3.out (fun e => apart_tyR HW3.out.rk HX3.out (by decide) (by decide) (.inl e)))
  have HB4 : Hid (Below B w (w3.setCell ⟨G, 1, none⟩ (.int .i64 (roomW n : Int)))) := Lib.hid (HB3.out.trans (hcs.below (fun k hk => by rw [show k = G from hk]; exact HW3.out.rk.hG) HBW3.out))
  have HBW4 : Hid (B ≤ (w3.setCell ⟨G, 1, none⟩ (.int .i64 (roomW n : Int))).heap.size) := Lib.hid (Nat.le_trans HBW3.out hcs.size)
  clear hcs hgr z1 z2
  generalize w3.setCell ⟨G, 1, none⟩ (.int .i64 (roomW n : Int)) = w4 at *
  refine hK.out _ _ ((HSD.out _).2 ⟨cell_of_row _ BX 0 _ _ _ HBX4.out, cell_of_row _ X 0 _ _ _ HX4.out, cell_of_row _ X 2 _ _ _ HX4.out, cell_of_row _ BA 1 _ _ _ HBA4.out, cell_of_row _ BA 2 _ _ _ HBA4.out⟩) (fun _ => ?_)
  clear hK K
  refine wpQuiet_nil ?_
  have HFIN : Hid (AEnd14 Z w B X j (.returned (.tuple #[.bool true, .bool false])) w4) := Lib.hid ⟨false, rfl, ⟨D, M, L, G, H, _, _, T, v, _, Lf, vr, P, vh, ⟨HW4.out, by rw [HF2.out]; exact ⟨rfl, HSI.out.count, HSI.out.armed, HSI.out.keep, HSI.out.fail, HSI.out.perm, HSI.out.srt⟩, by rw [HF2.out]; exact HKO.out, by rw [HF2.out]; exact HFS.out, HX4.out, HZX.out, HXB.out⟩, by have := HOP.out; show d.ops ≤ _; omega, by have := HFL.out; have := HLF2.out; omega⟩, HB4.out⟩
  clear s0 s1 s2 s3 s4 hne
  go_wp2_with (fail)
  refine bodyPost_ret (v := .tuple #[.bool true, .bool false]) (results_two Try.results12 _ _ _) rfl ?_
  exact HFIN.out
set_option maxRecDepth 100000 in
set_option maxHeartbeats 8000000 in
theorem worldAct14_2 {X : Nat} {j n kp : Int} (h : St14 Z B X j w) (hj : 0 ≤ j ∧ j ≤ 100) (hkp : -9223372036854775808 ≤ kp ∧ kp ≤ 9223372036854775807) (A : Option Addr) (c : Nat) (l : List UInt8) (hl : Bs w A l.length c l) (hoff : 0 < l.length → ∀ b, A = some b → b.block < B) (hB : B ≤ w.heap.size) (hn : -9223372036854775808 ≤ n ∧ n ≤ 9223372036854775807) :
    Calls Try.prog 12 #[pX14 X, actV14 2 n kp A l.length c] w (AEnd14 Z w B X j) := by
  have hmf : ∀ (fn : Fn) (first cap : Array Value) (w : World), (Instr.makeFunc fn first cap).run Try.prog w = .ok (.func fn first cap) w := fun _ _ _ _ => rfl
  obtain ⟨D, M, L, G, H, d, F, T, v, r, Lf, vr, P, vh, h, hop, hfl⟩ := h
  have hb0 : Below w.heap.size w ((w.alloc (.cells #[pX14 X] TWP14)).alloc (.cells (actC14 2 n kp A l.length c) TAct14)) := ((Below.refl _ _).alloc (Nat.le_refl _) _).alloc (by simp) _
  have HBX0 : Hid (((w.alloc (.cells #[pX14 X] TWP14)).alloc (.cells (actC14 2 n kp A l.length c) TAct14)).heap[w.heap.size]? = some (.cells #[pX14 X] TWP14)) := Lib.hid (by
    have h1 : Below (w.heap.size + 1) (w.alloc (.cells #[pX14 X] TWP14)) ((w.alloc (.cells #[pX14 X] TWP14)).alloc (.cells (actC14 2 n kp A l.length c) TAct14)) := (Below.refl _ _).alloc (by simp) _
    exact (h1.block _ (by omega)).trans (heap_alloc_new w _))
  have HBA0 : Hid (((w.alloc (.cells #[pX14 X] TWP14)).alloc (.cells (actC14 2 n kp A l.length c) TAct14)).heap[w.heap.size + 1]? = some (.cells (actC14 2 n kp A l.length c) TAct14)) := Lib.hid (by
    have h1 := heap_alloc_new (w.alloc (.cells #[pX14 X] TWP14)) (.cells (actC14 2 n kp A l.length c) TAct14)
    rw [show (w.alloc (.cells #[pX14 X] TWP14)).heap.size = w.heap.size + 1 from by simp] at h1
    exact h1)
  have HL0 := Lib.hid (hl.below hb0)
  have HW0 := Lib.hid (h.x.below hb0)
  have HX0 := Lib.hid ((hb0.block X (Array.getElem?_eq_some_iff.1 h.row).1).trans h.row)
  have HB0 : Hid (Below B w ((w.alloc (.cells #[pX14 X] TWP14)).alloc (.cells (actC14 2 n kp A l.length c) TAct14))) := Lib.hid (hb0.mono hB)
  have HBW0 := Lib.hid (Nat.le_trans hB hb0.size)
  have HSI := Lib.hid h.sim
  have HOK := Lib.hid h.ok
  have HFS := Lib.hid h.fs
  have HZX := Lib.hid h.zx
  have HXB := Lib.hid h.xb
  have HOP := Lib.hid hop
  have HFL := Lib.hid hfl
  have HJ := Lib.hid hj
  have HKP := Lib.hid hkp
  have HOFF := Lib.hid hoff
  have HN := Lib.hid hn
  have HNUM := Lib.hid (recs_num h.ok h.fs)
  have HLL : Hid (Lf.length ≤ 10000) := Lib.hid (by have h5 := h.sim.perm.length_eq; simp only [fsOf, List.length_map] at h5; omega)
  have e0 : ((w.alloc (.cells #[pX14 X] TWP14)).alloc (.cells (actC14 2 n kp A l.length c) TAct14)).cell? ⟨w.heap.size + 1, 0, none⟩ = some (.int .i64 2) := cell_of_row _ _ 0 _ _ _ HBA0.out
  clear hn h hl hop hfl hj hkp hoff hB hb0
  go_enter Try.func12, Try.ntmps12
  go_wp2_with (fail)
  obtain ⟨BX, hbx⟩ : ∃ BX, BX = w.heap.size := ⟨_, rfl⟩
  obtain ⟨BA, hba⟩ : ∃ BA, BA = w.heap.size + 1 := ⟨_, rfl⟩
  rw [← hbx] at HBX0
  rw [← hba] at HBA0
  rw [← hba, ← hbx]
  clear hbx hba e0
  generalize (w.alloc (.cells #[pX14 X] TWP14)).alloc (.cells (actC14 2 n kp A l.length c) TAct14) = w0 at *
  obtain ⟨S, hSd⟩ : ∃ S : World → Prop, ∀ W, S W ↔ (W.cell? ⟨BX, 0, none⟩ = some (pX14 X) ∧ W.cell? ⟨X, 0, none⟩ = some (pD D) ∧ W.cell? ⟨X, 2, none⟩ = some (pR G) ∧ W.cell? ⟨BA, 1, none⟩ = some (.int .i64 n) ∧ W.cell? ⟨BA, 2, none⟩ = some (.int .i64 kp)) := ⟨_, fun _ => Iff.rfl⟩
  have s0 : ∀ q : Meets S, q.u.cell? ⟨BX, 0, none⟩ = some (pX14 X) := fun q => ((hSd _).1 q.h).1
  have s1 : ∀ q : Meets S, q.u.cell? ⟨X, 0, none⟩ = some (pD D) := fun q => ((hSd _).1 q.h).2.1
  have s2 : ∀ q : Meets S, q.u.cell? ⟨X, 2, none⟩ = some (pR G) := fun q => ((hSd _).1 q.h).2.2.1
  have s3 : ∀ q : Meets S, q.u.cell? ⟨BA, 1, none⟩ = some (.int .i64 n) := fun q => ((hSd _).1 q.h).2.2.2.1
  have s4 : ∀ q : Meets S, q.u.cell? ⟨BA, 2, none⟩ = some (.int .i64 kp) := fun q => ((hSd _).1 q.h).2.2.2.2
  have HSD := Lib.hid hSd
  clear hSd
  have hop : opFail d (fsOf F) (max 1 n) = (.inl 0, { d with failIn := max 1 n }, fsOf F) := if_neg (by omega)
  have hko := callD_ok HOK.out (by have := HOP.out; have := HJ.out; omega) 6 (max 1 n) 0 (by have := HN.out; omega) (by omega) ⟨#[]⟩ ⟨#[]⟩ []
  have HKO : Hid (FsOk { d with failIn := max 1 n } (fsOf F)) := Lib.hid (by
    have h5 : callD d (fsOf F) 6 (max 1 n) 0 ⟨#[]⟩ ⟨#[]⟩ [] = liftO (opFail d (fsOf F) (max 1 n)) := rfl
    rw [h5, hop] at hko
    exact hko)
  clear hko
  refine region_plan S [([0, 1, 2, 3, 4, 5, 6], 7)] [8] (by kernel_rfl) (by kernel_rfl) (fun _ _ _ _ _ h => h) ((HSD.out _).2 ⟨cell_of_row _ BX 0 _ _ _ HBX0.out, cell_of_row _ X 0 _ _ _ HX0.out, cell_of_row _ X 2 _ _ _ HX0.out, cell_of_row _ BA 1 _ _ _ HBA0.out, cell_of_row _ BA 2 _ _ _ HBA0.out⟩) (fun hne => ?_)
  simp only [wpPlan, pick, List.getElem?_cons_zero, List.getElem?_cons_succ, Option.elim]
  repeat (go_big_quiet_step (fail))
  refine wpQuiet_nil ?_
  intro K hK
  have hb1 : Below w0.heap.size w0 w0.drew := (Below.refl _ w0).drew
  have HW1 := Lib.hid (HW0.out.below hb1)
  have HB1 : Hid (Below B w w0.drew) := Lib.hid (HB0.out.trans (hb1.mono HBW0.out))
  have HBW1 : Hid (B ≤ w0.drew.heap.size) := Lib.hid (Nat.le_trans HBW0.out hb1.size)
  have HBX1 : Hid (w0.drew.heap[BX]? = some (.cells #[pX14 X] TWP14)) := Lib.hid HBX0.out
  have HBA1 : Hid (w0.drew.heap[BA]? = some (.cells (actC14 2 n kp A l.length c) TAct14)) := Lib.hid HBA0.out
  have HX1 : Hid (w0.drew.heap[X]? = some (.cells #[pD D, pL L, pR G, pH H] TW14)) := Lib.hid HX0.out
  clear hb1
  generalize w0.drew = w1 at *
  go_simp
  refine (mFail HW1.out.dk (max 1 n)).mono ?_
  rw [hop]
  rintro e w2 ⟨F2, rfl, h6, c6, f6⟩
  dsimp only at h6 f6
  have HW2 := Lib.hid (HW1.out.dkch c6 h6)
  have HBX2 := Lib.hid (c6.ch.row HBX1.out (apart_ty HW1.out.dk HBX1.out (by decide) (by decide) (by decide)))
  have HBA2 := Lib.hid (c6.ch.row HBA1.out (apart_ty HW1.out.dk HBA1.out (by decide) (by decide) (by decide)))
  have HX2 := Lib.hid (c6.ch.row HX1.out (apart_ty HW1.out.dk HX1.out (by decide) (by decide) (by decide)))
  have HB2 : Hid (Below B w w2) := Lib.hid (HB1.out.trans (DkCh.below HW1.out.dk c6 HBW1.out))
  have HBW2 : Hid (B ≤ w2.heap.size) := Lib.hid (Nat.le_trans HBW1.out c6.ch.size)
  have HF2 : Hid (fsOf F2 = fsOf F) := Lib.hid f6
  have HLF2 : Hid (F2.length = F.length) := Lib.hid (by have h5 := congrArg List.length f6; simpa [fsOf] using h5)
  clear h6 c6 f6
  dsimp only [endM]
  refine hK.out _ _ ((HSD.out _).2 ⟨cell_of_row _ BX 0 _ _ _ HBX2.out, cell_of_row _ X 0 _ _ _ HX2.out, cell_of_row _ X 2 _ _ _ HX2.out, cell_of_row _ BA 1 _ _ _ HBA2.out, cell_of_row _ BA 2 _ _ _ HBA2.out⟩) (fun _ => ?_)
  clear hK K
  repeat (go_big_quiet_step (fail))
  refine wpQuiet_nil ?_
  clear hop
  go_wp2_with (fail)
  refine region_plan S [([0, 1, 2, 3, 4, 5, 6, 7, 8], 9)] [] (by kernel_rfl) (by kernel_rfl) (fun _ _ _ _ _ h => h) ((HSD.out _).2 ⟨cell_of_row _ BX 0 _ _ _ HBX2.out, cell_of_row _ X 0 _ _ _ HX2.out, cell_of_row _ X 2 _ _ _ HX2.out, cell_of_row _ BA 1 _ _ _ HBA2.out, cell_of_row _ BA 2 _ _ _ HBA2.out⟩) (fun hne => ?_)
  simp only [wpPlan, pick, List.getElem?_cons_zero, List.getElem?_cons_succ, Option.elim]
  repeat (go_big_quiet_step (fail))
  refine wpQuiet_nil ?_
  intro K hK
  have hb3 : Below w2.heap.size w2 w2.drew := (Below.refl _ w2).drew
  have HW3 := Lib.hid (HW2.out.below hb3)
  have HB3 : Hid (Below B w w2.drew) := Lib.hid (HB2.out.trans (hb3.mono HBW2.out))
  have HBW3 : Hid (B ≤ w2.drew.heap.size) := Lib.hid (Nat.le_trans HBW2.out hb3.size)
  have HBX3 : Hid (w2.drew.heap[BX]? = some (.cells #[pX14 X] TWP14)) := Lib.hid HBX2.out
  have HBA3 : Hid (w2.drew.heap[BA]? = some (.cells (actC14 2 n kp A l.length c) TAct14)) := Lib.hid HBA2.out
  have HX3 : Hid (w2.drew.heap[X]? = some (.cells #[pD D, pL L, pR G, pH H] TW14)) := Lib.hid HX2.out
  clear hb3
  generalize w2.drew = w3 at *
  have z1 : w3.cell? ⟨G, 5, none⟩ = some (.int .i64 r.fail) := HW3.out.rk.cell 5
  have z2 : w3.frozen? ⟨G, 5, none⟩ = false := HW3.out.rk.frozen 5
  go_simp
  have hcs : Ch (At1 G) w3 (w3.setCell ⟨G, 5, none⟩ (.int .i64 (max 1 n))) := (Ch.refl _ w3).set1 5 _
  have hgr : (w3.setCell ⟨G, 5, none⟩ (.int .i64 (max 1 n))).heap[G]? = some (rkObj vr { r with fail := max 1 n }) := heap_set_row HW3.out.rk.row _
  have HW4 := Lib.hid (HW3.out.nums (r' := { r with fail := max 1 n }) hcs hgr)
  have HBX4 := Lib.hid (hcs.row HBX3.out (fun e => apart_tyR HW3.out.rk HBX3.out (by decide) (by decide) (.inl e)))
  have HBA4 := Lib.hid (hcs.row HBA3.out (fun e => apart_tyR HW3.out.rk HBA3.out (by decide) (by decide) (.inl e)))
  have HX4 := Lib.hid (hcs.row HX3.out (fun e => apart_tyR HW3.out.rk HX3.out (by decide) (by decide) (.inl e)))
  have HB4 : Hid (Below B w (w3.setCell ⟨G, 5, none⟩ (.int .i64 (max 1 n)))) := Lib.hid (HB3.out.trans (hcs.below (fun k hk => by rw [show k = G from hk]; exact HW3.out.rk.hG) HBW3.out))
  have HBW4 : Hid (B ≤ (w3.setCell ⟨G, 5, none⟩ (.int .i64 (max 1 n))).heap.size) := Lib.hid (Nat.le_trans HBW3.out hcs.size)
  clear hcs hgr z1 z2
  generalize w3.setCell ⟨G, 5, none⟩ (.int .i64 (max 1 n)) = w4 at *
  refine hK.out _ _ ((HSD.out _).2 ⟨cell_of_row _ BX 0 _ _ _ HBX4.out, cell_of_row _ X 0 _ _ _ HX4.out, cell_of_row _ X 2 _ _ _ HX4.out, cell_of_row _ BA 1 _ _ _ HBA4.out, cell_of_row _ BA 2 _ _ _ HBA4.out⟩) (fun _ => ?_)
  clear hK K
  refine wpQuiet_nil ?_
  have HFIN : Hid (AEnd14 Z w B X j (.returned (.tuple #[.bool true, .bool false])) w4) := Lib.hid ⟨false, rfl, ⟨D, M, L, G, H, _, _, T, v, _, Lf, vr, P, vh, ⟨HW4.out, by rw [HF2.out]; exact ⟨HSI.out.size, HSI.out.count, HSI.out.armed, HSI.out.keep, rfl, HSI.out.perm, HSI.out.srt⟩, by rw [HF2.out]; exact HKO.out, by rw [HF2.out]; exact HFS.out, HX4.out, HZX.out, HXB.out⟩, by have := HOP.out; show d.ops ≤ _; omega, by have := HFL.out; have := HLF2.out; omega⟩, HB4.out⟩
  clear s0 s1 s2 s3 s4 hne
  go_wp2_with (fail)
  refine bodyPost_ret (v := .tuple #[.bool true, .bool false]) (results_two Try.results12 _ _ _) rfl ?_
  exact HFIN.out
set_option maxRecDepth 100000 in
set_option maxHeartbeats 8000000 in
theorem worldAct14_3 {X : Nat} {j n kp : Int} (h : St14 Z B X j w) (hj : 0 ≤ j ∧ j ≤ 100) (hkp : -9223372036854775808 ≤ kp ∧ kp ≤ 9223372036854775807) (A : Option Addr) (c : Nat) (l : List UInt8) (hl : Bs w A l.length c l) (hoff : 0 < l.length → ∀ b, A = some b → b.block < B) (hB : B ≤ w.heap.size) (hn : -9223372036854775808 ≤ n ∧ n ≤ 9223372036854775807) :
    Calls Try.prog 12 #[pX14 X, actV14 3 n kp A l.length c] w (AEnd14 Z w B X j) := by
  have hmf : ∀ (fn : Fn) (first cap : Array Value) (w : World), (Instr.makeFunc fn first cap).run Try.prog w = .ok (.func fn first cap) w := fun _ _ _ _ => rfl
  obtain ⟨D, M, L, G, H, d, F, T, v, r, Lf, vr, P, vh, h, hop, hfl⟩ := h
  have hb0 : Below w.heap.size w ((w.alloc (.cells #[pX14 X] TWP14)).alloc (.cells (actC14 3 n kp A l.length c) TAct14)) := ((Below.refl _ _).alloc (Nat.le_refl _) _).alloc (by simp) _
  have HBX0 : Hid (((w.alloc (.cells #[pX14 X] TWP14)).alloc (.cells (actC14 3 n kp A l.length c) TAct14)).heap[w.heap.size]? = some (.cells #[pX14 X] TWP14)) := Lib.hid (by
    have h1 : Below (w.heap.size + 1) (w.alloc (.cells #[pX14 X] TWP14)) ((w.alloc (.cells #[pX14 X] TWP14)).alloc (.cells (actC14 3 n kp A l.length c) TAct14)) := (Below.refl _ _).alloc (by simp) _
    exact (h1.block _ (by omega)).trans (heap_alloc_new w _))
  have HBA0 : Hid (((w.alloc (.cells #[pX14 X] TWP14)).alloc (.cells (actC14 3 n kp A l.length c) TAct14)).heap[w.heap.size + 1]? = some (.cells (actC14 3 n kp A l.length c) TAct14)) := Lib.hid (by
    have h1 := heap_alloc_new (w.alloc (.cells #[pX14 X] TWP14)) (.cells (actC14 3 n kp A l.length c) TAct14)
    rw [show (w.alloc (.cells #[pX14 X] TWP14)).heap.size = w.heap.size + 1 from by simp] at h1
    exact h1)
  have HL0 := Lib.hid (hl.below hb0)
  have HW0 := Lib.hid (h.x.below hb0)
  have HX0 := Lib.hid ((hb0.block X (Array.getElem?_eq_some_iff.1 h.row).1).trans h.row)
  have HB0 : Hid (Below B w ((w.alloc (.cells #[pX14 X] TWP14)).alloc (.cells (actC14 3 n kp A l.length c) TAct14))) := Lib.hid (hb0.mono hB)
  have HBW0 := Lib.hid (Nat.le_trans hB hb0.size)
  have HSI := Lib.hid h.sim
  have HOK := Lib.hid h.ok
  have HFS := Lib.hid h.fs
  have HZX := Lib.hid h.zx
  have HXB := Lib.hid h.xb
  have HOP := Lib.hid hop
  have HFL := Lib.hid hfl
  have HJ := Lib.hid hj
  have HKP := Lib.hid hkp
  have HOFF := Lib.hid hoff
  have HN := Lib.hid hn
  have HNUM := Lib.hid (recs_num h.ok h.fs)
  have HLL : Hid (Lf.length ≤ 10000) := Lib.hid (by have h5 := h.sim.perm.length_eq; simp only [fsOf, List.length_map] at h5; omega)
  have e0 : ((w.alloc (.cells #[pX14 X] TWP14)).alloc (.cells (actC14 3 n kp A l.length c) TAct14)).cell? ⟨w.heap.size + 1, 0, none⟩ = some (.int .i64 3) := cell_of_row _ _ 0 _ _ _ HBA0.out
  clear hn h hl hop hfl hj hkp hoff hB hb0
  go_enter Try.func12, Try.ntmps12
  go_wp2_with (fail)
  obtain ⟨BX, hbx⟩ : ∃ BX, BX = w.heap.size := ⟨_, rfl⟩
  obtain ⟨BA, hba⟩ : ∃ BA, BA = w.heap.size + 1 := ⟨_, rfl⟩
  rw [← hbx] at HBX0
  rw [← hba] at HBA0
  rw [← hba, ← hbx]
  clear hbx hba e0
  generalize (w.alloc (.cells #[pX14 X] TWP14)).alloc (.cells (actC14 3 n kp A l.length c) TAct14) = w0 at *
  obtain ⟨S, hSd⟩ : ∃ S : World → Prop, ∀ W, S W ↔ (W.cell? ⟨BX, 0, none⟩ = some (pX14 X) ∧ W.cell? ⟨X, 0, none⟩ = some (pD D) ∧ W.cell? ⟨X, 2, none⟩ = some (pR G) ∧ W.cell? ⟨BA, 1, none⟩ = some (.int .i64 n) ∧ W.cell? ⟨BA, 2, none⟩ = some (.int .i64 kp)) := ⟨_, fun _ => Iff.rfl⟩
  have s0 : ∀ q : Meets S, q.u.cell? ⟨BX, 0, none⟩ = some (pX14 X) := fun q => ((hSd _).1 q.h).1
  have s1 : ∀ q : Meets S, q.u.cell? ⟨X, 0, none⟩ = some (pD D) := fun q => ((hSd _).1 q.h).2.1
  have s2 : ∀ q : Meets S, q.u.cell? ⟨X, 2, none⟩ = some (pR G) := fun q => ((hSd _).1 q.h).2.2.1
  have s3 : ∀ q : Meets S, q.u.cell? ⟨BA, 1, none⟩ = some (.int .i64 n) := fun q => ((hSd _).1 q.h).2.2.2.1
  have s4 : ∀ q : Meets S, q.u.cell? ⟨BA, 2, none⟩ = some (.int .i64 kp) := fun q => ((hSd _).1 q.h).2.2.2.2
  have HSD := Lib.hid hSd
  clear hSd
  have hop : opArm d (fsOf F) (max 1 n) kp = (.inl 0, { d with armedIn := max 1 n, armKeep := kp }, fsOf F) := if_neg (by omega)
  have hko := callD_ok HOK.out (by have := HOP.out; have := HJ.out; omega) 7 (max 1 n) kp (by have := HN.out; omega) (by have := HKP.out; simpa using this) ⟨#[]⟩ ⟨#[]⟩ []
  have HKO : Hid (FsOk { d with armedIn := max 1 n, armKeep := kp } (fsOf F)) := Lib.hid (by
    have h5 : callD d (fsOf F) 7 (max 1 n) kp ⟨#[]⟩ ⟨#[]⟩ [] = liftO (opArm d (fsOf F) (max 1 n) kp) := rfl
    rw [h5, hop] at hko
    exact hko)
  clear hko
  refine region_plan S [([0, 1, 2, 3, 4, 5, 6, 7, 8], 9)] [10] (by kernel_rfl) (by kernel_rfl) (fun _ _ _ _ _ h => h) ((HSD.out _).2 ⟨cell_of_row _ BX 0 _ _ _ HBX0.out, cell_of_row _ X 0 _ _ _ HX0.out, cell_of_row _ X 2 _ _ _ HX0.out, cell_of_row _ BA 1 _ _ _ HBA0.out, cell_of_row _ BA 2 _ _ _ HBA0.out⟩) (fun hne => ?_)
  simp only [wpPlan, pick, List.getElem?_cons_zero, List.getElem?_cons_succ, Option.elim]
  repeat (go_big_quiet_step (fail))
  refine wpQuiet_nil ?_
  intro K hK
  have hb1 : Below w0.heap.size w0 w0.drew := (Below.refl _ w0).drew
  have HW1 := Lib.hid (HW0.out.below hb1)
  have HB1 : Hid (Below B w w0.drew) := Lib.hid (HB0.out.trans (hb1.mono HBW0.out))
  have HBW1 : Hid (B ≤ w0.drew.heap.size) := Lib.hid (Nat.le_trans HBW0.out hb1.size)
  have HBX1 : Hid (w0.drew.heap[BX]? = some (.cells #[pX14 X] TWP14)) := Lib.hid HBX0.out
  have HBA1 : Hid (w0.drew.heap[BA]? = some (.cells (actC14 3 n kp A l.length c) TAct14)) := Lib.hid HBA0.out
  have HX1 : Hid (w0.drew.heap[X]? = some (.cells #[pD D, pL L, pR G, pH H] TW14)) := Lib.hid HX0.out
  clear hb1
  generalize w0.drew = w1 at *
  go_simp
  refine (mArm HW1.out.dk (max 1 n) kp).mono ?_
  rw [hop]
  rintro e w2 ⟨F2, rfl, h6, c6, f6⟩
  dsimp only at h6 f6
  have HW2 := Lib.hid (HW1.out.dkch c6 h6)
  have HBX2 := Lib.hid (c6.ch.row HBX1.out (apart_ty HW1.out.dk HBX1.out (by decide) (by decide) (by decide)))
  have HBA2 := Lib.hid (c6.ch.row HBA1.out (apart_ty HW1.out.dk HBA1.out (by decide) (by decide) (by decide)))
  have HX2 := Lib.hid (c6.ch.row HX1.out (apart_ty HW1.out.dk HX1.out (by decide) (by decide) (by decide)))
  have HB2 : Hid (Below B w w2) := Lib.hid (HB1.out.trans (DkCh.below HW1.out.dk c6 HBW1.out))
  have HBW2 : Hid (B ≤ w2.heap.size) := Lib.hid (Nat.le_trans HBW1.out c6.ch.size)
  have HF2 : Hid (fsOf F2 = fsOf F) := Lib.hid f6
  have HLF2 : Hid (F2.length = F.length) := Lib.hid (by have h5 := congrArg List.length f6; simpa [fsOf] using h5)
  clear h6 c6 f6
  dsimp only [endM]
  refine hK.out _ _ ((HSD.out _).2 ⟨cell_of_row _ BX 0 _ _ _ HBX2.out, cell_of_row _ X 0 _ _ _ HX2.out, cell_of_row _ X 2 _ _ _ HX2.out, cell_of_row _ BA 1 _ _ _ HBA2.out, cell_of_row _ BA 2 _ _ _ HBA2.out⟩) (fun _ => ?_)
  clear hK K
  repeat (go_big_quiet_step (fail))
  refine wpQuiet_nil ?_
  clear hop
  go_wp2_with (fail)
  refine region_plan S [([0, 1, 2, 3, 4, 5, 6, 7, 8, 9, 10, 11, 12, 13, 14], 15), ([16, 17], 18)] [] (by kernel_rfl) (by kernel_rfl) (fun _ _ _ _ _ h => h) ((HSD.out _).2 ⟨cell_of_row _ BX 0 _ _ _ HBX2.out, cell_of_row _ X 0 _ _ _ HX2.out, cell_of_row _ X 2 _ _ _ HX2.out, cell_of_row _ BA 1 _ _ _ HBA2.out, cell_of_row _ BA 2 _ _ _ HBA2.out⟩) (fun hne => ?_)
  simp only [wpPlan, pick, List.getElem?_cons_zero, List.getElem?_cons_succ, Option.elim]
  repeat (go_big_quiet_step (fail))
  refine wpQuiet_nil ?_
  intro K hK
  have hb3 : Below w2.heap.size w2 w2.drew := (Below.refl _ w2).drew
  have HW3 := Lib.hid (HW2.out.below hb3)
  have HB3 : Hid (Below B w w2.drew) := Lib.hid (HB2.out.trans (hb3.mono HBW2.out))
  have HBW3 : Hid (B ≤ w2.drew.heap.size) := Lib.hid (Nat.le_trans HBW2.out hb3.size)
  have HBX3 : Hid (w2.drew.heap[BX]? = some (.cells #[pX14 X] TWP14)) := Lib.hid HBX2.out
  have HBA3 : Hid (w2.drew.heap[BA]? = some (.cells (actC14 3 n kp A l.length c) TAct14)) := Lib.hid HBA2.out
  have HX3 : Hid (w2.drew.heap[X]? = some (.cells #[pD D, pL L, pR G, pH H] TW14)) := Lib.hid HX2.out
  clear hb3
  generalize w2.drew = w3 at *
  have z1 : w3.cell? ⟨G, 3, none⟩ = some (.int .i64 r.armed) := HW3.out.rk.cell 3
  have z2 : w3.frozen? ⟨G, 3, none⟩ = false := HW3.out.rk.frozen 3
  go_simp
  have hcs : Ch (At1 G) w3 (w3.setCell ⟨G, 3, none⟩ (.int .i64 (max 1 n))) := (Ch.refl _ w3).set1 3 _
  have hgr : (w3.setCell ⟨G, 3, none⟩ (.int .i64 (max 1 n))).heap[G]? = some (rkObj vr { r with armed := max 1 n }) := heap_set_row HW3.out.rk.row _
  have HW4 := Lib.hid (HW3.out.nums (r' := { r with armed := max 1 n }) hcs hgr)
  have HBX4 := Lib.hid (hcs.row HBX3.out (fun e => apart_tyR HW3.out.rk HBX3.out (by decide) (by decide) (.inl e)))
  have HBA4 := Lib.hid (hcs.row HBA3.out (fun e => apart_tyR HW3.out.rk HBA3.out (by decide) (by decide) (.inl e)))
  have HX4 := Lib.hid (hcs.row HX3.out (fun e => apart_tyR HW3.out.rk HX3.out (by decide) (by decide) (.inl e)))
  have HB4 : Hid (Below B w (w3.setCell ⟨G, 3, none⟩ (.int .i64 (max 1 n)))) := Lib.hid (HB3.out.trans (hcs.below (fun k hk => by rw [show k = G from hk]; exact HW3.out.rk.hG) HBW3.out))
  have HBW4 : Hid (B ≤ (w3.setCell ⟨G, 3, none⟩ (.int .i64 (max 1 n))).heap.size) := Lib.hid (Nat.le_trans HBW3.out hcs.size)
  clear hcs hgr z1 z2
  generalize w3.setCell ⟨G, 3, none⟩ (.int .i64 (max 1 n)) = w4 at *
  refine hK.out _ _ ((HSD.out _).2 ⟨cell_of_row _ BX 0 _ _ _ HBX4.out, cell_of_row _ X 0 _ _ _ HX4.out, cell_of_row _ X 2 _ _ _ HX4.out, cell_of_row _ BA 1 _ _ _ HBA4.out, cell_of_row _ BA 2 _ _ _ HBA4.out⟩) (fun _ => ?_)
  clear hK K
  repeat (go_big_quiet_step (fail))
  refine wpQuiet_nil ?_
  intro K hK
  have z1 : w4.cell? ⟨G, 4, none⟩ = some (.int .i64 r.keep) := HW4.out.rk.cell 4
  have z2 : w4.frozen? ⟨G, 4, none⟩ = false := HW4.out.rk.frozen 4
  go_simp
  have hcs : Ch (At1 G) w4 (w4.setCell ⟨G, 4, none⟩ (.int .i64 kp)) := (Ch.refl _ w4).set1 4 _
  have hgr : (w4.setCell ⟨G, 4, none⟩ (.int .i64 kp)).heap[G]? = some (rkObj vr { r with armed := max 1 n, keep := kp }) := heap_set_row HW4.out.rk.row _
  have HW5 := Lib.hid (HW4.out.nums (r' := { r with armed := max 1 n, keep := kp }) hcs hgr)
  have HBX5 := Lib.hid (hcs.row HBX4.out (fun e => apart_tyR HW4.out.rk HBX4.out (by decide) (by decide) (.inl e)))
  have HBA5 := Lib.hid (hcs.row HBA4.out (fun e => apart_tyR HW4.out.rk HBA4.out (by decide) (by decide) (.inl e)))
  have HX5 := Lib.hid (hcs.row HX4.out (fun e => apart_tyR HW4.out.rk HX4.out (by decide) (by decide) (.inl e)))
  have HB5 : Hid (Below B w (w4.setCell ⟨G, 4, none⟩ (.int .i64 kp))) := Lib.hid (HB4.out.trans (hcs.below (fun k hk => by rw [show k = G from hk]; exact HW4.out.rk.hG) HBW4.out))
  have HBW5 : Hid (B ≤ (w4.setCell ⟨G, 4, none⟩ (.int .i64 kp)).heap.size) := Lib.hid (Nat.le_trans HBW4.out hcs.size)
  clear hcs hgr z1 z2
  generalize w4.setCell ⟨G, 4, none⟩ (.int .i64 kp) = w5 at *
  refine hK.out _ _ ((HSD.out _).2 ⟨cell_of_row _ BX 0 _ _ _ HBX5.out, cell_of_row _ X 0 _ _ _ HX5.out, cell_of_row _ X 2 _ _ _ HX5.out, cell_of_row _ BA 1 _ _ _ HBA5.out, cell_of_row _ BA 2 _ _ _ HBA5.out⟩) (fun _ => ?_)
  clear hK K
  refine wpQuiet_nil ?_
  have HFIN : Hid (AEnd14 Z w B X j (.returned (.tuple #[.bool true, .bool false])) w5) := Lib.hid ⟨false, rfl, ⟨D, M, L, G, H, _, _, T, v, _, Lf, vr, P, vh, ⟨HW5.out, by rw [HF2.out]; exact ⟨HSI.out.size, HSI.out.count, rfl, rfl, HSI.out.fail, HSI.out.perm, HSI.out.srt⟩, by rw [HF2.out]; exact HKO.out, by rw [HF2.out]; exact HFS.out, HX5.out, HZX.out, HXB.out⟩, by have := HOP.out; show d.ops ≤ _; omega, by have := HFL.out; have := HLF2.out; omega⟩, HB5.out⟩
  clear s0 s1 s2 s3 s4 hne
  go_wp2_with (fail)
  refine bodyPost_ret (v := .tuple #[.bool true, .bool false]) (results_two Try.results12 _ _ _) rfl ?_
  exact HFIN.out
end
end Go.Proofs.Ythblbmbefhlbjaa
/- WalActs, walked. -/
namespace Go.Proofs.Ythblbmbefhlbjaa
open Go.RowKit Go.MapKept

section
variable {Z : Nat → Prop} {w w' : World} {B : Nat}
theorem worldAct14 {X : Nat} {j n kp : Int} (h : St14 Z B X j w) (hj : 0 ≤ j ∧ j ≤ 100) (hkp : -9223372036854775808 ≤ kp ∧ kp ≤ 9223372036854775807) (A : Option Addr) (c : Nat) (l : List UInt8) (hl : Bs w A l.length c l) (hoff : 0 < l.length → ∀ b, A = some b → b.block < B) (hB : B ≤ w.heap.size) (hn : -9223372036854775808 ≤ n ∧ n ≤ 9223372036854775807) (kd : Int) :
    Calls Try.prog 12 #[pX14 X, actV14 kd n kp A l.length c] w (AEnd14 Z w B X j) := by
  by_cases h0 : kd = 0
  · subst h0; exact worldAct14_0 h hj hkp A c l hl hoff hB
  by_cases h1 : kd = 1
  · subst h1; exact worldAct14_1 h hj hkp A c l hl hoff hB
  by_cases h2 : kd = 2
  · subst h2; exact worldAct14_2 h hj hkp A c l hl hoff hB hn
  by_cases h3 : kd = 3
  · subst h3; exact worldAct14_3 h hj hkp A c l hl hoff hB hn
  by_cases h4 : kd = 4
  · subst h4; exact worldAct14_4 h hj hkp A c l hl hoff hB
  exact worldAct14_5 h hj hkp A c l hl hoff hB kd ⟨h0, h1, h2, h3, h4⟩
set_option maxRecDepth 100000 in
set_option maxHeartbeats 8000000 in
theorem begin14 (n : Int) (w : World) : Calls Try.prog 11 #[.int .i64 n] w fun e w' => ∃ X, e = .returned (pX14 X) ∧ St14 (fun k => k = X) w.heap.size X 0 w' ∧ Below w.heap.size w w' := by
  have HRO := Lib.hid (fun W => room14 n W)
  have HRM := Lib.hid (roomW_le n)
  generalize roomW n = R at *
  go_enter Try.func11, Try.ntmps11
  go_wp2_with (fail)
  refine (HRO.out w).mono ?_
  rintro e w0 ⟨rfl, rfl⟩
  go_wp2_with (fail)
  refine (dkNew (R : Int) (by have := HRM.out; omega) w).mono ?_
  rintro e w1 ⟨D, M, rfl, h1, hb1⟩
  have H1 := Lib.hid h1
  have HB1 := Lib.hid hb1
  clear h1 hb1
  go_wp2_with (fail)
  refine (HRO.out w1).mono ?_
  rintro e w2 ⟨rfl, rfl⟩
  have hbr : Below w1.heap.size w1 (w1.alloc (.cells #[.slice none 0 0, .int .i64 (R : Int), .int .i64 0, .int .i64 0, .int .i64 0, .int .i64 0] TRD)) := (Below.refl _ _).alloc (Nat.le_refl _) _
  have hrk := RkAt.fresh (C := w.heap.size) (E := fun k => k = w1.heap.size + 1 ∨ DFoot D M [] k) w1 (R : Int) HB1.out.size
  obtain ⟨G, hG⟩ : ∃ G, G = w1.heap.size := ⟨_, rfl⟩
  obtain ⟨X, hX⟩ : ∃ X, X = w1.heap.size + 1 := ⟨_, rfl⟩
  rw [← hX, ← hG] at hrk
  have hbx : Below w1.heap.size w1 ((w1.alloc (.cells #[.slice none 0 0, .int .i64 (R : Int), .int .i64 0, .int .i64 0, .int .i64 0, .int .i64 0] TRD)).alloc (.cells #[pD D, .pointer none, pR G, .pointer none] TW14)) := hbr.alloc (by simp) _
  have hsz : (w1.alloc (.cells #[.slice none 0 0, .int .i64 (R : Int), .int .i64 0, .int .i64 0, .int .i64 0, .int .i64 0] TRD)).heap.size = X := by rw [hX]; simp
  have hbx2 : Below X (w1.alloc (.cells #[.slice none 0 0, .int .i64 (R : Int), .int .i64 0, .int .i64 0, .int .i64 0, .int .i64 0] TRD)) ((w1.alloc (.cells #[.slice none 0 0, .int .i64 (R : Int), .int .i64 0, .int .i64 0, .int .i64 0, .int .i64 0] TRD)).alloc (.cells #[pD D, .pointer none, pR G, .pointer none] TW14)) := (Below.refl _ _).alloc (by omega) _
  have HXR : Hid (((w1.alloc (.cells #[.slice none 0 0, .int .i64 (R : Int), .int .i64 0, .int .i64 0, .int .i64 0, .int .i64 0] TRD)).alloc (.cells #[pD D, .pointer none, pR G, .pointer none] TW14)).heap[X]? = some (.cells #[pD D, .pointer none, pR G, .pointer none] TW14)) := Lib.hid (by rw [← hsz]; exact heap_alloc_new _ _)
  have HWN : Hid (WN (fun k => k = X) ((w1.alloc (.cells #[.slice none 0 0, .int .i64 (R : Int), .int .i64 0, .int .i64 0, .int .i64 0, .int .i64 0] TRD)).alloc (.cells #[pD D, .pointer none, pR G, .pointer none] TW14)) w.heap.size D M G ⟨(R : Int), 0, 0, 0, 0, 0⟩ [] ⟨(R : Int), 0, 0, 0, 0⟩ [] (.slice none 0 0) []) := Lib.hid
    ⟨H1.out.below hbx, hrk.below (by rw [hsz]; exact hbx2), fun k hk => by rw [hk]; exact (Array.getElem?_eq_some_iff.1 HXR.out).1, fun k hk hx => by have := (H1.out.foot_lt hx).2; omega, fun k hk hx => by
      rcases hx with hx | hx
      · omega
      · cases hx⟩
  have HBX : Hid (Below w.heap.size w ((w1.alloc (.cells #[.slice none 0 0, .int .i64 (R : Int), .int .i64 0, .int .i64 0, .int .i64 0, .int .i64 0] TRD)).alloc (.cells #[pD D, .pointer none, pR G, .pointer none] TW14))) := Lib.hid (HB1.out.trans (hbx.mono HB1.out.size))
  have HXB : Hid (w.heap.size ≤ X) := Lib.hid (by have := HB1.out.size; omega)
  have HOK := Lib.hid (newW_ok (R : Int) (by have := HRM.out; omega))
  have hw := openD_whole (⟨(R : Int), 0, 0, 0, 0, 0⟩ : Dk) (newW_plain (R : Int) nmL).hw
  have HOPN := Lib.hid (worldOpen14 HWN.out ⟨rfl, rfl, rfl, rfl, rfl, List.Perm.refl _, List.Pairwise.nil⟩ HOK.out (by show (0 : Int) + 8 ≤ _; decide) HBX.out.size (by decide) (by first | rw [hw.1] | (rw [show fsOf [] = ([] : Fs) from rfl, hw.1])) ⟨hw.2.1, hw.2.2⟩ (by first | (rw [hw.1]; exact (newW_plain (R : Int) nmL).hw) | (rw [show fsOf [] = ([] : Fs) from rfl, hw.1]; exact (newW_plain (R : Int) nmL).hw)) rfl HXB.out HXR.out)
  have HOE : Hid (openD (⟨(R : Int), 0, 0, 0, 0, 0⟩ : Dk) [] nmL = (.inl 0, ⟨(R : Int), 0, 0, 0, 0, 0⟩, [])) := Lib.hid hw.1
  clear hw hbr hrk hbx hbx2
  go_wp2_with (fail)
  rw [← hX, ← hG]
  clear hsz hG hX
  generalize (w1.alloc (.cells #[.slice none 0 0, .int .i64 (R : Int), .int .i64 0, .int .i64 0, .int .i64 0, .int .i64 0] TRD)).alloc (.cells #[pD D, .pointer none, pR G, .pointer none] TW14) = w3 at *
  refine HOPN.out.mono ?_
  rintro e w4 ⟨rfl, L, H, F', v, r', Lf', vr', P', vh, hws, hf, hb4⟩
  have HF : Hid (St14 (fun k => k = X) w.heap.size X 0 w4) := Lib.hid ⟨D, M, L, G, H, _, F', [], v, r', Lf', vr', P', vh, hws, by first | (rw [HOE.out]; show (0 : Int) ≤ 6 * 0; decide) | (rw [show fsOf [] = ([] : Fs) from rfl, HOE.out]; show (0 : Int) ≤ 6 * 0; decide), by
    first | rw [HOE.out] at hf | rw [show fsOf [] = ([] : Fs) from rfl, HOE.out] at hf
    have h5 := congrArg List.length hf
    simp only [fsOf, List.length_map, List.length_nil] at h5
    omega⟩
  have HB4 := Lib.hid (HBX.out.trans hb4)
  clear hws hf hb4 HOPN
  go_wp2_with (fail)
  go_ret
  exact ⟨X, rfl, HF.out, HB4.out⟩
set_option maxRecDepth 100000 in
set_option maxHeartbeats 8000000 in
theorem walActs_walk (n : Int) (A : Option Addr) (k c : Nat) (T : List WAct) (w : World) (_wn : (Lit.int .i64 n).wf = true) (hL : WAs w A k c T) : Calls Try.prog 3 #[.int .i64 n, .slice A k c] w (True_ w) := by
  have HL := Lib.hid hL
  have hmax : k ≤ 140737488351232 := hL.2.2.2.1
  clear hL
  go_enter Try.func3, Try.ntmps3
  go_wp2_with (fail)
  refine (alive14 w).mono ?_
  rintro e w0 ⟨rfl, hb0⟩
  have HB0 := Lib.hid hb0
  clear hb0
  go_wp2_with (fail)
  refine (great14 A k c T w0 (HL.out.below HB0.out)).mono ?_
  rintro e w1 ⟨big, rfl, hbig, hb1⟩
  have HB1 := Lib.hid (HB0.out.trans (hb1.mono HB0.out.size))
  clear hb1
  by_cases hbg : big = true
  · subst hbg
    go_wp2_with (fail)
    refine (alive14 w1).mono ?_
    rintro e w2 ⟨rfl, hb2⟩
    have HB2 := Lib.hid (HB1.out.trans (hb2.mono HB1.out.size))
    clear hb2
    go_wp2_with (fail)
    go_ret
    exact ⟨rfl, HB2.out⟩
  obtain rfl : big = false := by simpa using hbg
  have HN : Hid (k ≤ 80) := Lib.hid (by
    rcases Nat.lt_or_ge 80 k with h | h
    · cases hbig h
    · exact h)
  clear hbig hbg
  go_wp2_with (fail)
  refine (begin14 n w1).mono ?_
  rintro e w2 ⟨X, rfl, hst, hb2⟩
  have HST := Lib.hid hst
  have HB2 := Lib.hid hb2
  clear hst hb2
  go_wp2_with (fail)
  go_loopw [23] (fun i wr => ∃ j : Nat, j ≤ k ∧ i = .int .i64 j ∧ St14 (fun q => q = X) w1.heap.size X j wr ∧ Below w1.heap.size w1 wr) (fun i _ => k - (intOf i).toNat)
  case atStart => exact ⟨0, Nat.zero_le _, rfl, HST.out, HB2.out⟩
  case round =>
    clear HST HB2
    obtain ⟨wo, rfl⟩ : ∃ wo : World, wo = wr := ⟨_, rfl⟩
    obtain ⟨j, hj, rfl, hst, hb⟩ := hrel
    have HST := Lib.hid hst
    have HB := Lib.hid hb
    clear hst hb
    by_cases hlt : j < k
    · have hLk := (HL.out.below HB1.out)
      obtain ⟨b, o, rfl, hxx⟩ := hLk.2.2.2.2 (by omega)
      obtain ⟨⟨kd, nn, kp, bd⟩, hxk⟩ : ∃ x, T[j]? = some x := ⟨_, List.getElem?_eq_getElem (by have := HL.out.1; omega)⟩
      obtain ⟨⟨c0, c1, c2, A5, m, c5, c3, hbd, hc5⟩, hfit⟩ := hxx j _ hxk
      obtain rfl : m = bd.length := hbd.len.symm
      have hbl := World.block_lt_of_cell? w1 _ c0
      have hkc : (k : Int) ≤ (c : Int) := by have := hLk.2.1; omega
      have c0 := (HB.out.cell (p := ⟨b, o + j * 4, none⟩) hbl).trans c0
      have c1 := (HB.out.cell (p := ⟨b, o + j * 4 + 1, none⟩) hbl).trans c1
      have c2 := (HB.out.cell (p := ⟨b, o + j * 4 + 2, none⟩) hbl).trans c2
      have c3 := (HB.out.cell (p := ⟨b, o + j * 4 + 3, none⟩) hbl).trans c3
      have hbo : Below wo.heap.size wo (wo.alloc (.cells (actC14 kd nn kp A5 bd.length c5) TAct14)) := (Below.refl _ _).alloc (Nat.le_refl _) _
      have HS5 := Lib.hid (HST.out.below hbo)
      have HB5 : Hid (Below w1.heap.size w1 (wo.alloc (.cells (actC14 kd nn kp A5 bd.length c5) TAct14))) := Lib.hid (HB.out.trans (hbo.mono HB.out.size))
      have HR5 : Hid ((wo.alloc (.cells (actC14 kd nn kp A5 bd.length c5) TAct14)).heap[wo.heap.size]? = some (.cells (actC14 kd nn kp A5 bd.length c5) TAct14)) := Lib.hid (heap_alloc_new wo _)
      have e0 : (wo.alloc (.cells (actC14 kd nn kp A5 bd.length c5) TAct14)).cell? ⟨wo.heap.size, 0, none⟩ = some (.int .i64 kd) := cell_of_row _ _ 0 _ _ _ HR5.out
      have e1 : (wo.alloc (.cells (actC14 kd nn kp A5 bd.length c5) TAct14)).cell? ⟨wo.heap.size, 1, none⟩ = some (.int .i64 nn) := cell_of_row _ _ 1 _ _ _ HR5.out
      have e2 : (wo.alloc (.cells (actC14 kd nn kp A5 bd.length c5) TAct14)).cell? ⟨wo.heap.size, 2, none⟩ = some (.int .i64 kp) := cell_of_row _ _ 2 _ _ _ HR5.out
      have e3 : (wo.alloc (.cells (actC14 kd nn kp A5 bd.length c5) TAct14)).cell? ⟨wo.heap.size, 3, none⟩ = some (.slice A5 bd.length c5) := cell_of_row _ _ 3 _ _ _ HR5.out
      have HACT := Lib.hid (worldAct14 HS5.out ⟨by omega, by have := HN.out; omega⟩ hfit.k A5 c5 bd ((hbd.below HB.out).below hbo) (fun h0 b' hb' => by
        obtain ⟨b2, o2, e, hlt, _⟩ := hbd.at_ h0
        rw [hb'] at e; injection e with e; subst e
        exact hlt) HB5.out.size hfit.n kd)
      have hw5 : IntKind.i64.wrap ((j : Int) + 1) = (j : Int) + 1 := IntWalk.i64_in _ (by have := HN.out; omega)
      clear hxx hxk hbd hfit hbl hbo hLk
      go_wp2_with (fail)
      refine HACT.out.mono ?_
      rintro e w5 ⟨bb, rfl, hst5, hb5⟩
      have HST5 := Lib.hid hst5
      have HB6 := Lib.hid (HB5.out.trans hb5)
      clear hst5 hb5 HACT e0 e1 e2 e3 c0 c1 c2 c3
      go_wp2_with (fail)
      exact ⟨⟨j + 1, by omega, by go_num, by have h5 := HST5.out; simpa using h5, HB6.out⟩, by simp [intOf]; omega⟩
    · obtain rfl : j = k := by omega
      clear hlt
      go_wp2_with (fail)
      go_ret
      exact ⟨rfl, HB1.out.trans (HB.out.mono HB1.out.size)⟩
end
end Go.Proofs.Ythblbmbefhlbjaa
/- WalActs: whatever the input, the law's call returns true, and the arguments read afterwards as before. No condition of ours. -/
namespace Go.Proofs.Ythblbmbefhlbjaa.walActs
open Go.ChangeShapes Go.WideShapes Go.ChangeAt Go.RowKit
open Go.ChangeMaps (open_string shut_string)
set_option linter.unusedVariables false


set_option maxRecDepth 100000 in
/-- what the walk gives, for every argument -/
theorem contract (H : Type) (enc : TypeId × Value → H) (W : World) (base : Nat) (args : Array Value) (ds gs : List (DataW H)) (before : List MemPlace)
    (hval : ∀ (j : Nat) t v, Try.f3.params[j]? = some t → args[j]? = some v → Value.okWide Try.prog W .any base t v)
    (hW : DataW.Whole enc Try.prog Try.f3.params.toList Rows.walActsSpec.vars false W args.toList ds gs before)
    (hsz0 : (DataW.weightsEach Try.prog (Try.f3.params.toList ++ Rows.walActsSpec.plain.varTypes Try.prog) (ds ++ gs)).all (· ≤ reachBytes) = true) :
    Calls Try.prog 3 args W fun e W' => ∃ v, e = .returned v ∧ Rows.walActsSpec.post enc Try.prog Try.f3 false true false false W args v W' := by
  have hW' := hW
  obtain ⟨p, q, hA0, hV, rfl, hfz, hnd⟩ := hW
  have hA : DataW.TrodAll enc Try.prog W 0 (fun _ => true) true Try.f3.params.toList args.toList ds p := hA0
  rw [Try.params3] at hA hval hsz0
  obtain ⟨v0, vs0, d0, ds0, p0, q0, hargs, rfl, rfl, h0, r0⟩ := trodAll_cons hA
  obtain ⟨v1, vs1, d1, ds1, p1, q1, rfl, rfl, rfl, h1, r1⟩ := trodAll_cons r0
  obtain ⟨rfl, rfl, rfl⟩ := trodAll_nil r1
  obtain rfl : args = #[v0, v1] := by cases args; simp_all
  obtain ⟨rfl, rfl⟩ := trodVars_none hV
  have hsz : (DataW.weightsEach Try.prog [3, 22] [d0, d1]).all (· ≤ reachBytes) = true := by
    have hv : Rows.walActsSpec.plain.varTypes Try.prog = [] := rfl
    rw [hv] at hsz0
    simpa using hsz0
  obtain ⟨x0, rfl, rfl, rfl, wf0⟩ := open_int Try.underlying3 (hval 0 3 v0 rfl rfl) h0
  obtain ⟨A1, n1, c1, rfl⟩ := okWide_slice Try.underlying22 (hval 1 22 v1 rfl rfl)
  have k1 := h1
  have lt1 : ∀ x ∈ p1, x.block < W.heap.size := by obtain ⟨m, hm⟩ := k1; exact DataW.trod_lt m _ _ _ hm
  obtain ⟨l1, B1⟩ := open_wacts h1 1 rfl rfl hsz
  clear hA0
  refine (walActs_walk x0 A1 n1 c1 l1 W  wf0 B1 ).mono fun e W' ⟨he, bel⟩ => ?_
  subst he
  exact ⟨_, rfl, _, _, _, [], _, [], hW', trodAll_mk1 (shut_bool Try.underlying4 _), (trodAll_cons_mk (shut_int Try.underlying3 wf0) (trodAll_cons_mk (Below.trod laidOut (by kernel_rfl) (of_decide_eq_true (by kernel_rfl)) k1 bel lt1) trodAll_mk0)), rfl, bel.frame _, fun h => by cases h⟩

set_option maxRecDepth 100000 in
theorem lifted (os : Os) (started : os.Started) (H : Type) (enc : TypeId × Value → H) :
    ReturnsInHanded {} Try.checked os 3 .any (Rows.walActsSpec.pre6 enc Try.prog Try.f3 Rows.walActsRow.domain false) (Rows.walActsSpec.post enc Try.prog Try.f3 false true false false) := by
  refine returnsInHanded_of_change_sized (C := Try.checked) own started (by kernel_rfl) Try.func3
    (ChangeSpec.witness6 (enc := enc) (C := Try.checked) false ⟨#[], #[.int .i64 0, .slice none 0 0], []⟩ 8 (by kernel_rfl) (by kernel_rfl) (by kernel_rfl) (by kernel_rfl)) ?_
  intro W base args ds gs before hval hW _ hsz _
  exact contract H enc W base args ds gs before hval hW hsz

theorem said : Rows.WalActsSaid :=
  OpenClaim.holds_of_wide 3 Try.f3 rfl rfl rfl rfl rfl rfl rfl ⟨rfl, rfl, rfl, rfl, rfl⟩ rfl rfl rfl rfl rfl (by kernel_rfl) Try.func3 (by kernel_rfl)
    (of_decide_eq_true (by kernel_rfl)) (by unfold Func.isWrapper; first | (rw [if_pos (by decide +kernel)]; kernel_rfl) | (rw [if_neg (by decide +kernel)]; exact ⟨rfl, rfl⟩))
    (fun os started H enc _ => lifted os started H enc)
end Go.Proofs.Ythblbmbefhlbjaa.walActs
