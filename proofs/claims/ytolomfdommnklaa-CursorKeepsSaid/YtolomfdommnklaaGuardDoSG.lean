/- Layer 3: Do of any function, with the blocks that change behind it. -/
import Derived.Test.YtolomfdommnklaaGuardSG
import Derived.Conc.MuLone
namespace Go.Proofs.Ytolomfdommnklaa
open Go.RowKit

set_option maxRecDepth 100000 in
theorem funcE_some (fn : Fn) (first cap : Array Value) (w : World) : (binOp .eql 50 (.func fn first cap) .nilFunc).run Try.prog w = .ok (.bool false) w := by
  first
  | rfl
  | simp [binOp, go_sem, run_underlying Try.underlying50]

/-- a function value that is called -/
def FCallsS (v : Value) (W : World) (R : Ending → World → Prop) : Prop := ∃ (k : FuncId) (caps : Array Value), v = .func (.func k) #[] caps ∧ FnOkG k ∧ Calls Try.prog k caps W R
def DoPreS (B : Nat) (w1 : World) (Ret : Int → World → Prop) (Pan : Int → World → Prop) (e : Ending) (w' : World) : Prop :=
  (∀ b, B ≤ b → b < w1.heap.size → w'.heap[b]? = w1.heap[b]?) ∧ w1.heap.size ≤ w'.heap.size ∧ ((∃ n, e = .returned (.int .i64 n) ∧ Ret n w') ∨ ∃ op, e = .panicked [{ v := crashI op, recovered := false }] ∧ Pan op w')
/-- what Do leaves behind: its callee was entered in w1, ended in w', and behind that only what Do made is written -/
def DoPostS (W : World) (B : Nat) (Ret : Int → World → World → Prop) (Pan : Int → World → World → Prop) (e : Ending) (w'' : World) : Prop :=
  ∃ w1 w', Below B W w1 ∧ w1.heap.size ≤ w'.heap.size ∧ Ch (fun k => B ≤ k ∧ k < w1.heap.size) w' w'' ∧ ((∃ n, e = .returned (.tuple #[.int .i64 n, crash 0, .bool false]) ∧ Ret n w1 w') ∨ ∃ op, e = .returned (.tuple #[.int .i64 0, crash op, .bool true]) ∧ Pan op w1 w')
def Do1PostS (Q : Nat) (C : Nat) (W : World) (Ret : Int → World → Prop) (Pan : Int → World → Prop) (e : Ending) (w' : World) : Prop :=
  (∀ b, C ≤ b → b ≠ Q → b < W.heap.size → w'.heap[b]? = W.heap[b]?) ∧ W.heap.size ≤ w'.heap.size ∧
  ((e = .returned (.tuple #[]) ∧ ∃ n w0, Ret n w0 ∧ W.heap.size ≤ w0.heap.size ∧ Ch (At1 Q) w0 w' ∧ w'.heap[Q]? = some (.cells #[.int .i64 n] 23)) ∨ ∃ op, e = .panicked [{ v := crashI op, recovered := false }] ∧ Pan op w' ∧ w'.heap[Q]? = some (.cells #[.int .i64 0] 23))

theorem okDo1 : FnOkG 41 := fun args w => Go.MuLone.run_callFunc_enter Try.func41 (by kernel_rfl) rfl args w

set_option maxRecDepth 100000 in
theorem guardDo1S (P Q C : Nat) (v : Value) (W : World) (hP : W.heap[P]? = some (.cells #[v] 50)) (hQ : W.heap[Q]? = some (.cells #[.int .i64 0] 23)) (hC : C ≤ Q) (Ret : Int → World → Prop) (Pan : Int → World → Prop)
    (h : FCallsS v W (DoPreS C W Ret Pan)) : Calls Try.prog 41 #[.pointer (some ⟨P, 0, none⟩), .pointer (some ⟨Q, 0, none⟩)] W (Do1PostS Q C W Ret Pan) := by
  obtain ⟨k, caps, rfl, hk, hc⟩ := h
  have hkk : ∀ (args : Array Value) (w : World), (callFunc k args).run Try.prog w = .ok (.enter k args) w := hk
  have c := cell_of_row W P 0 _ _ _ hP
  simp only [List.getElem?_toArray, List.getElem?_cons_zero] at c
  have HQL : Hid (Q < W.heap.size) := Lib.hid (Array.getElem?_eq_some_iff.1 hQ).1
  have HQ := Lib.hid hQ
  have HC := Lib.hid hc
  clear hP hQ hk hc
  go_enter Try.func41, Try.ntmps41
  go_wp2_with (fail)
  refine HC.out.mono ?_
  rintro e w2 ⟨hkeep, hsz, hcase⟩
  have hr : w2.heap[Q]? = some (.cells #[.int .i64 0] 23) := by rw [hkeep Q hC HQL.out]; exact HQ.out
  rcases hcase with ⟨n, rfl, hret⟩ | ⟨op, rfl, hpan⟩
  · have HK := Lib.hid hkeep
    have HSZ := Lib.hid hsz
    have HRT := Lib.hid hret
    have HR := Lib.hid hr
    have c2 := cell_of_row w2 Q 0 _ _ _ hr
    simp only [List.getElem?_toArray, List.getElem?_cons_zero] at c2
    have f2 : w2.frozen? ⟨Q, 0, none⟩ = false := by simp [World.frozen?, hr]
    clear hkeep hsz hret hr c HC
    go_wp2_with (fail)
    go_end0
    refine ⟨fun b hb hne hlt => ?_, by simpa using HSZ.out, .inl ⟨rfl, n, w2, HRT.out, HSZ.out, (Ch.refl _ _).set1 0 _, heap_setCell_same _ _ _ _ _ _ HR.out⟩⟩
    rw [heap_setCell_other _ _ _ _ (by show b ≠ Q; exact hne)]
    exact HK.out b hb hlt
  · exact ⟨rfl, fun b hb hne hlt => hkeep b hb hlt, hsz, .inr ⟨op, rfl, hpan, hr⟩⟩

theorem rows_threeG (h : Array Obj) (X Y Z : Obj) : (((h.push X).push Y).push Z)[h.size]? = some X ∧ (((h.push X).push Y).push Z)[h.size + 1]? = some Y ∧ (((h.push X).push Y).push Z)[h.size + 2]? = some Z := by
  refine ⟨?_, ?_, ?_⟩
  · rw [Array.getElem?_push, if_neg (by simp; omega)]; exact (rows_twoG h X Y).1
  · rw [Array.getElem?_push, if_neg (by simp)]; exact (rows_twoG h X Y).2
  · rw [Array.getElem?_push, if_pos (by simp)]

set_option maxHeartbeats 2000000 in
set_option maxRecDepth 100000 in
theorem guardDoS (v : Value) (w : World) (Ret : Int → World → World → Prop) (Pan : Int → World → World → Prop) (h : ∀ w1, Below w.heap.size w w1 → FCallsS v w1 (DoPreS w.heap.size w1 (fun n => Ret n w1) (fun op => Pan op w1))) :
    Calls Try.prog 17 #[v] w (DoPostS w w.heap.size Ret Pan) := by
  have hmf : ∀ (fn : Fn) (first cap : Array Value) (w : World), (Instr.makeFunc fn first cap).run Try.prog w = .ok (.func fn first cap) w := fun _ _ _ _ => rfl
  obtain ⟨k, caps, rfl, _, _⟩ := h w (Below.refl _ _)
  have hfs := funcE_some
  have H := Lib.hid h
  clear h
  go_enter Try.func17, Try.ntmps17
  go_wp2_with (fail)
  have h3 := rows_threeG w.heap (.cells #[.func (.func k) #[] caps] 50) (.cells #[.int .i64 0] 46) (.cells #[.int .i64 0] 23)
  have hb2 : Below w.heap.size w (((w.alloc (.cells #[.func (.func k) #[] caps] 50)).alloc (.cells #[.int .i64 0] 46)).alloc (.cells #[.int .i64 0] 23)) := (((Below.refl _ w).alloc (Nat.le_refl _) _).alloc (by simp) _).alloc (by simp; omega) _
  have hs2 : (((w.alloc (.cells #[.func (.func k) #[] caps] 50)).alloc (.cells #[.int .i64 0] 46)).alloc (.cells #[.int .i64 0] 23)).heap.size = w.heap.size + 3 := by simp
  have hr0 : (((w.alloc (.cells #[.func (.func k) #[] caps] 50)).alloc (.cells #[.int .i64 0] 46)).alloc (.cells #[.int .i64 0] 23)).heap[w.heap.size]? = _ := h3.1
  have hr1 : (((w.alloc (.cells #[.func (.func k) #[] caps] 50)).alloc (.cells #[.int .i64 0] 46)).alloc (.cells #[.int .i64 0] 23)).heap[w.heap.size + 1]? = _ := h3.2.1
  have hr2 : (((w.alloc (.cells #[.func (.func k) #[] caps] 50)).alloc (.cells #[.int .i64 0] 46)).alloc (.cells #[.int .i64 0] 23)).heap[w.heap.size + 2]? = _ := h3.2.2
  clear h3
  generalize (((w.alloc (.cells #[.func (.func k) #[] caps] 50)).alloc (.cells #[.int .i64 0] 46)).alloc (.cells #[.int .i64 0] 23)) = w2 at *
  obtain ⟨B, hB⟩ : ∃ B, B = w.heap.size := ⟨_, rfl⟩
  have HBB := Lib.hid hB
  rw [← hB] at hr0 hr1 hr2 hs2 ⊢
  rw [show B + 1 + 1 = B + 2 from rfl]
  have HB2 := Lib.hid hb2
  refine (guardRunS _ _ okDo1 w2 (fun w3 w' => ∃ n w0, Ret n w3 w0 ∧ w3.heap.size ≤ w0.heap.size ∧ Ch (At1 (B + 2)) w0 w' ∧ w'.heap[B + 2]? = some (.cells #[.int .i64 n] 23) ∧ w'.heap[B + 1]? = some (.cells #[.int .i64 0] 46)) (fun op w3 w' => Pan op w3 w' ∧ w'.heap[B + 2]? = some (.cells #[.int .i64 0] 23) ∧ w'.heap[B + 1]? = some (.cells #[.int .i64 0] 46)) ?_).mono ?_
  · intro w3 hb3
    have q0 : w3.heap[B]? = _ := (hb3.block _ (by omega)).trans hr0
    have q1 : w3.heap[B + 1]? = _ := (hb3.block _ (by omega)).trans hr1
    have q2 : w3.heap[B + 2]? = _ := (hb3.block _ (by omega)).trans hr2
    have hz3 := hb3.size
    refine (guardDo1S B (B + 2) w.heap.size _ w3 q0 q2 (by omega) (fun n => Ret n w3) (fun op => Pan op w3) (H.out w3 (hb2.trans (hb3.mono (by omega))))).mono ?_
    rintro e w' ⟨hkeep, hsz, hcase⟩
    have r1 : w'.heap[B + 1]? = some (.cells #[.int .i64 0] 46) := by rw [hkeep (B + 1) (by omega) (by omega) (by omega)]; exact q1
    refine ⟨fun b hb hlt => hkeep b (by omega) (by omega) hlt, hsz, ?_⟩
    rcases hcase with ⟨rfl, n, w0, hret, hz0, hc0, hq⟩ | ⟨op, rfl, hpan, hq⟩
    · exact .inl ⟨rfl, n, w0, hret, hz0, hc0, hq, r1⟩
    · exact .inr ⟨op, rfl, hpan, hq, r1⟩
  rintro e w4 ⟨w3, w', hb3, hz3, hc, hcase⟩
  have hl3 := hb3.size
  have HB3 : Hid (Below w.heap.size w w3) := Lib.hid (HB2.out.trans (hb3.mono (by omega)))
  have HL3 : Hid (B + 1 < w3.heap.size) := Lib.hid (by omega)
  clear H hr0 hr1 hr2 hb2 HB2 hb3
  rcases hcase with ⟨rfl, n, w0, hret, hz0, hc0, re, rc⟩ | ⟨op, rfl, hpan, re, rc⟩
  · have HCW : Hid (Ch (fun k => B ≤ k ∧ k < w3.heap.size) w0 w4) := Lib.hid (((Ch.refl _ w0).trans hc0 (fun x _ h => ⟨by rw [show x = B + 2 from h]; omega, by rw [show x = B + 2 from h]; omega⟩)).trans hc (fun x _ h => ⟨by omega, h.2⟩))
    have HRT := Lib.hid hret
    have HZ0 := Lib.hid hz0
    replace re : w4.heap[B + 2]? = _ := hc.row re (by omega)
    replace rc : w4.heap[B + 1]? = _ := hc.row rc (by omega)
    clear hc hc0 hz0 hret hs2 hB hz3 hl3
    have hb4 := (Below.refl w4.heap.size w4).alloc (Nat.le_refl _) (.cells #[.int .i64 0] 46)
    have r5c : (w4.alloc (.cells #[.int .i64 0] 46)).heap[B + 1]? = some (.cells #[.int .i64 0] 46) := by rw [hb4.block _ (Array.getElem?_eq_some_iff.1 rc).1]; exact rc
    have r5e : (w4.alloc (.cells #[.int .i64 0] 46)).heap[B + 2]? = some (.cells #[.int .i64 n] 23) := by rw [hb4.block _ (Array.getElem?_eq_some_iff.1 re).1]; exact re
    have r5n := heap_alloc_new w4 (.cells #[.int .i64 0] 46)
    have HB5 := Lib.hid (HCW.out.trans (Ch.of_below (S := fun k => B ≤ k ∧ k < w3.heap.size) hb4) (fun _ _ h => h))
    clear hb4 rc re HCW
    go_wp2_with (fail)
    generalize w4.alloc (.cells #[.int .i64 0] 46) = w5 at *
    generalize w4.heap.size = G at *
    have cc := cell_of_row w5 (B + 1) 0 _ _ _ r5c
    have ce := cell_of_row w5 (B + 2) 0 _ _ _ r5e
    have cn := cell_of_row w5 G 0 _ _ _ r5n
    simp only [List.getElem?_toArray, List.getElem?_cons_zero] at cc ce cn
    have fc : w5.frozen? ⟨B + 1, 0, none⟩ = false := by simp [World.frozen?, r5c]
    have HR5 := Lib.hid r5c
    clear r5c r5e r5n
    go_region
    all_goals
      go_wp2_with (fail)
      have hrow : ((w5.setCell ⟨B + 1, 0, none⟩ (.int .i64 0)).drew).heap[B + 1]? = some (.cells #[.int .i64 0] 46) := heap_setCell_same w5 (B + 1) 0 _ _ (.int .i64 0) HR5.out
      have hb6 := (HB5.out.set (a := ⟨B + 1, 0, none⟩) ⟨by show B ≤ B + 1; omega, HL3.out⟩ (.int .i64 0)).drew
      generalize (w5.setCell ⟨B + 1, 0, none⟩ (.int .i64 0)).drew = w6 at *
      have c6 := cell_of_row w6 (B + 1) 0 _ _ _ hrow
      simp only [List.getElem?_toArray, List.getElem?_cons_zero] at c6
      exact bodyPost_ret (v := .tuple #[.int .i64 n, crash 0, .bool false]) (by simp [results, Try.results17, go_sem, c6]) rfl ⟨w3, w0, HB3.out, HZ0.out, HBB.out ▸ hb6, .inl ⟨n, rfl, HRT.out⟩⟩
  · have HCW : Hid (Ch (fun k => B ≤ k ∧ k < w3.heap.size) w' w4) := Lib.hid ((Ch.refl _ w').trans hc (fun x _ h => ⟨by omega, h.2⟩))
    have HPN := Lib.hid hpan
    have HZ0 := Lib.hid hz3
    replace re : w4.heap[B + 2]? = _ := hc.row re (by omega)
    replace rc : w4.heap[B + 1]? = _ := hc.row rc (by omega)
    clear hc hz3 hpan hs2 hB hl3
    have hb4 := (Below.refl w4.heap.size w4).alloc (Nat.le_refl _) (.cells #[.int .i64 op] 46)
    have r5c : (w4.alloc (.cells #[.int .i64 op] 46)).heap[B + 1]? = some (.cells #[.int .i64 0] 46) := by rw [hb4.block _ (Array.getElem?_eq_some_iff.1 rc).1]; exact rc
    have r5e : (w4.alloc (.cells #[.int .i64 op] 46)).heap[B + 2]? = some (.cells #[.int .i64 0] 23) := by rw [hb4.block _ (Array.getElem?_eq_some_iff.1 re).1]; exact re
    have r5n := heap_alloc_new w4 (.cells #[.int .i64 op] 46)
    have HB5 := Lib.hid (HCW.out.trans (Ch.of_below (S := fun k => B ≤ k ∧ k < w3.heap.size) hb4) (fun _ _ h => h))
    clear hb4 rc re HCW
    go_wp2_with (fail)
    generalize w4.alloc (.cells #[.int .i64 op] 46) = w5 at *
    generalize w4.heap.size = G at *
    have cc := cell_of_row w5 (B + 1) 0 _ _ _ r5c
    have ce := cell_of_row w5 (B + 2) 0 _ _ _ r5e
    have cn := cell_of_row w5 G 0 _ _ _ r5n
    simp only [List.getElem?_toArray, List.getElem?_cons_zero] at cc ce cn
    have fc : w5.frozen? ⟨B + 1, 0, none⟩ = false := by simp [World.frozen?, r5c]
    have HR5 := Lib.hid r5c
    clear r5c r5e r5n
    go_region
    all_goals
      go_wp2_with (fail)
      have hrow : ((w5.setCell ⟨B + 1, 0, none⟩ (.int .i64 op)).drew).heap[B + 1]? = some (.cells #[.int .i64 op] 46) := heap_setCell_same w5 (B + 1) 0 _ _ (.int .i64 op) HR5.out
      have hb6 := (HB5.out.set (a := ⟨B + 1, 0, none⟩) ⟨by show B ≤ B + 1; omega, HL3.out⟩ (.int .i64 op)).drew
      generalize (w5.setCell ⟨B + 1, 0, none⟩ (.int .i64 op)).drew = w6 at *
      have c6 := cell_of_row w6 (B + 1) 0 _ _ _ hrow
      simp only [List.getElem?_toArray, List.getElem?_cons_zero] at c6
      exact bodyPost_ret (v := .tuple #[.int .i64 0, crash op, .bool true]) (by simp [results, Try.results17, go_sem, c6]) rfl ⟨w3, w', HB3.out, HZ0.out, HBB.out ▸ hb6, .inr ⟨op, rfl, HPN.out⟩⟩
end Go.Proofs.Ytolomfdommnklaa
