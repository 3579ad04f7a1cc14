/- GuardRuns, the law. -/
import Derived.Test.YtkniednjchnncaaGuardRuns
import Derived.OpenShut
namespace Go.Proofs.Ytkniednjchnncaa
open Go.RowKit

theorem Held.fr {V : NVars} {W W' : World} (hf : V.Fr W W') : ∀ {r : List (Nat × Obj)}, Held W r → (∀ x ∈ r, x.1 ≠ V.X ∧ x.1 ≠ V.Y) → Held W' r
  | [], _, _ => trivial
  | x :: _, h, hl => ⟨(hf.2 _ (Array.getElem?_eq_some_iff.1 h.1).1 (hl x (List.mem_cons_self ..)).1 (hl x (List.mem_cons_self ..)).2).trans h.1, h.2.fr hf (fun y hy => hl y (List.mem_cons_of_mem _ hy))⟩

set_option maxHeartbeats 4000000 in
set_option maxRecDepth 100000 in
theorem guardRuns_b (b : Bool) (op ev : Int) (he0 : 0 ≤ ev) (he1 : ev ≤ 255) (w : World) : Calls Try.prog 3 #[.int .i64 op, .int .u8 ev, .bool b] w (True_ w) := by
  have hmf : ∀ (fn : Fn) (first cap : Array Value) (w : World), (Instr.makeFunc fn first cap).run Try.prog w = .ok (.func fn first cap) w := fun _ _ _ _ => rfl
  have hst := fun (A : Addr) m (W : World) (k : FuncId) (caps : Array Value) => run_store Try.prog W A (.func (.func k) #[] caps) m rfl
  have HE0 := Lib.hid he0
  have HE1 := Lib.hid he1
  have ew : IntKind.i64.wrap ev = ev := by rw [IntKind.wrap_i64]; omega
  go_enter Try.func3, Try.ntmps3
  go_wp2_with (fail)
  have h3 := rows_three w.heap (.cells #[.int .i64 op] 3) (.cells #[.int .u8 ev] 5) (.cells #[.bool b] 4)
  have hb0 : Below w.heap.size w (((w.alloc (.cells #[.int .i64 op] 3)).alloc (.cells #[.int .u8 ev] 5)).alloc (.cells #[.bool b] 4)) := (((Below.refl _ w).alloc (Nat.le_refl _) _).alloc (by simp) _).alloc (by simp; omega) _
  have hs0 : (((w.alloc (.cells #[.int .i64 op] 3)).alloc (.cells #[.int .u8 ev] 5)).alloc (.cells #[.bool b] 4)).heap.size = w.heap.size + 3 := by simp
  have HH0 : Hid (Held (((w.alloc (.cells #[.int .i64 op] 3)).alloc (.cells #[.int .u8 ev] 5)).alloc (.cells #[.bool b] 4)) [(w.heap.size, .cells #[.int .i64 op] 3), (w.heap.size + 1, .cells #[.int .u8 ev] 5), (w.heap.size + 2, .cells #[.bool b] 4)]) := Lib.hid ⟨h3.1, h3.2.1, h3.2.2, trivial⟩
  clear h3
  generalize (((w.alloc (.cells #[.int .i64 op] 3)).alloc (.cells #[.int .u8 ev] 5)).alloc (.cells #[.bool b] 4)) = w0 at *
  refine (guardAlive w0).mono ?_
  rintro e w1 ⟨rfl, hb1⟩
  have HH1 := Lib.hid (HH0.out.below hb1)
  have HB1 : Hid (Below w.heap.size w w1) := Lib.hid (hb0.trans (hb1.mono (by omega)))
  have HZ1 : Hid (w.heap.size + 3 ≤ w1.heap.size) := Lib.hid (by rw [← hs0]; exact hb1.size)
  clear hb0 hs0 HH0 hb1
  go_upto_region 5 with (fail)
  obtain ⟨V, hVB, hVM, hVX, hVY⟩ : ∃ V : NVars, V.B = w.heap.size ∧ V.M = w.heap.size ∧ V.X = w1.heap.size + 1 ∧ V.Y = w1.heap.size :=
    ⟨⟨w.heap.size, w.heap.size, w1.heap.size + 1, w1.heap.size, Nat.le_refl _, by have := HZ1.out; omega, by have := HZ1.out; omega, by have := HZ1.out; omega, by have := HZ1.out; omega, by omega⟩, rfl, rfl, rfl, rfl⟩
  obtain ⟨Eb, hEb⟩ : ∃ q, q = w.heap.size + 1 := ⟨_, rfl⟩
  obtain ⟨L, hL⟩ : ∃ q, q = w.heap.size + 1 + 1 := ⟨_, rfl⟩
  obtain ⟨T9, hT9⟩ : ∃ q, q = w1.heap.size + 1 + 1 := ⟨_, rfl⟩
  rw [← hL, ← hT9, ← hEb, ← hVX, ← hVY, ← hVM]
  have h3 := rows_three w1.heap (.cells #[.int .i64 0] 3) (.cells #[.int .i64 0] 3) (.cells #[fv1 V L] 1)
  have hb2 : Below w1.heap.size w1 (((w1.alloc (.cells #[.int .i64 0] 3)).alloc (.cells #[.int .i64 0] 3)).alloc (.cells #[fv1 V L] 1)) := (((Below.refl _ w1).alloc (Nat.le_refl _) _).alloc (by simp) _).alloc (by simp; omega) _
  have HH2 : Hid (Held (((w1.alloc (.cells #[.int .i64 0] 3)).alloc (.cells #[.int .i64 0] 3)).alloc (.cells #[fv1 V L] 1)) [(Eb, .cells #[.int .u8 ev] 5), (L, .cells #[.bool b] 4), (T9, .cells #[fv1 V L] 1)]) := Lib.hid ⟨by rw [hb2.block _ (by have := HZ1.out; show Eb < _; omega), hEb]; exact HH1.out.2.1, by rw [hb2.block _ (by have := HZ1.out; show L < _; omega), hL]; exact HH1.out.2.2.1, by rw [hT9]; exact h3.2.2, trivial⟩
  have HS2 : Hid (V.St op 0 0 (((w1.alloc (.cells #[.int .i64 0] 3)).alloc (.cells #[.int .i64 0] 3)).alloc (.cells #[fv1 V L] 1))) := Lib.hid ⟨by rw [hVM, hb2.block _ (by have := HZ1.out; omega)]; exact HH1.out.1, by rw [hVX]; exact h3.2.1, by rw [hVY]; exact h3.1⟩
  have HB2 : Hid (Below V.B w (((w1.alloc (.cells #[.int .i64 0] 3)).alloc (.cells #[.int .i64 0] 3)).alloc (.cells #[fv1 V L] 1))) := Lib.hid (by rw [hVB]; exact HB1.out.trans (hb2.mono HB1.out.size))
  have HZ2 : Hid (V.B ≤ (((w1.alloc (.cells #[.int .i64 0] 3)).alloc (.cells #[.int .i64 0] 3)).alloc (.cells #[fv1 V L] 1)).heap.size) := Lib.hid (by rw [hVB]; exact Nat.le_trans HB1.out.size hb2.size)
  have HVB := Lib.hid hVB
  have HNE : Hid (Eb ≠ V.X ∧ Eb ≠ V.Y ∧ L ≠ V.X ∧ L ≠ V.Y ∧ T9 ≠ V.X ∧ T9 ≠ V.Y) := Lib.hid (by have := HZ1.out; omega)
  clear h3 hb2 hVB hVM hVX hVY hEb hL hT9 HH1 HB1 HZ1
  generalize (((w1.alloc (.cells #[.int .i64 0] 3)).alloc (.cells #[.int .i64 0] 3)).alloc (.cells #[fv1 V L] 1)) = w2 at *
  have cT := cell_of_row w2 T9 0 _ _ _ HH2.out.2.2.1
  simp only [List.getElem?_toArray, List.getElem?_cons_zero] at cT
  go_wp2_with (fail)
  refine (runsRun V op 0 0 b _ w2 HS2.out HZ2.out (fun w3 hb => ⟨_, _, rfl, okR1, runs1 V L b op 0 0 (by omega) (by omega) w3 (HS2.out.below hb) (HH2.out.below hb).2.1 HNE.out.2.2.2.1⟩)).mono ?_
  rintro e w4 ⟨hfr, rfl, hs⟩
  cases b
  · have HS4 : Hid (V.St op 1 2 w4) := Lib.hid hs
    have HH4 := Lib.hid (HH2.out.fr hfr (by intro x hx; have := HNE.out; simp at hx; rcases hx with rfl | rfl | rfl <;> exact ⟨by omega, by omega⟩))
    have HB4 : Hid (Below V.B w w4) := Lib.hid (HB2.out.trans hfr.1)
    have HZ4 : Hid (V.B ≤ w4.heap.size) := Lib.hid (Nat.le_trans HZ2.out hfr.1.size)
    clear hfr hs HS2 HH2 HB2 HZ2 cT
    go_wp2_with (fail)
    have hb5 := (Below.refl w4.heap.size w4).alloc (Nat.le_refl _) (.cells #[.int .i64 0] 24)
    have HS5 := Lib.hid (HS4.out.below hb5)
    have HH5 : Hid (Held (w4.alloc (.cells #[.int .i64 0] 24)) ((w4.heap.size, .cells #[.int .i64 0] 24) :: [(Eb, .cells #[.int .u8 ev] 5), (L, .cells #[.bool false] 4), (T9, .cells #[fv1 V L] 1)])) := Lib.hid (HH4.out.alloc (.cells #[.int .i64 0] 24))
    have HB5 : Hid (Below V.B w (w4.alloc (.cells #[.int .i64 0] 24))) := Lib.hid (HB4.out.trans (hb5.mono HZ4.out))
    have HZ5 : Hid (V.B ≤ (w4.alloc (.cells #[.int .i64 0] 24)).heap.size) := Lib.hid (Nat.le_trans HZ4.out hb5.size)
    have hlt := HS4.out.lt
    obtain ⟨G10, hG10⟩ : ∃ q, q = w4.heap.size := ⟨_, rfl⟩
    have HN10 : Hid (G10 ≠ V.X ∧ G10 ≠ V.Y) := Lib.hid (by omega)
    rw [← hG10] at HH5 ⊢
    clear hb5 hG10 HS4 HH4 HB4 HZ4 hlt
    generalize w4.alloc (.cells #[.int .i64 0] 24) = w5 at *
    refine (runsDo V op ev 1 2 false _ w5 HS5.out HZ5.out (fun w6 hb => ⟨_, _, rfl, okR2, runs2 V L T9 Eb false op ev HE0.out HE1.out 1 2 (by omega) (by omega) w6 (HS5.out.below hb) (HH5.out.below hb).2.2.1 HNE.out.2.2.2.1 (HH5.out.below hb).2.2.2.1 (HH5.out.below hb).2.1 HNE.out.1 HNE.out.2.1⟩)).mono ?_
    rintro e w6 ⟨hfr, rfl, hs⟩
    have HS6 : Hid (V.St op 2 4 w6) := Lib.hid hs
    have HH6 := Lib.hid (HH5.out.fr hfr (by intro x hx; have := HNE.out; have := HN10.out; simp at hx; rcases hx with rfl | rfl | rfl | rfl <;> exact ⟨by omega, by omega⟩))
    have HB6 : Hid (Below V.B w w6) := Lib.hid (HB5.out.trans hfr.1)
    have HZ6 : Hid (V.B ≤ w6.heap.size) := Lib.hid (Nat.le_trans HZ5.out hfr.1.size)
    clear hfr hs HS5 HH5 HB5 HZ5
    have hb7 := (Below.refl w6.heap.size w6).alloc (Nat.le_refl _) (.cells #[.int .i64 0] 24)
    have hs7 := HS6.out.below hb7
    have hh7 := HH6.out.below hb7
    have HB7 : Hid (Below V.B w (w6.alloc (.cells #[.int .i64 0] 24))) := Lib.hid (HB6.out.trans (hb7.mono HZ6.out))
    have cL := cell_of_row _ L 0 _ _ _ hh7.2.2.1
    have cE := cell_of_row _ Eb 0 _ _ _ hh7.2.1
    have cG := cell_of_row _ G10 0 _ _ _ hh7.1
    have cM := cell_of_row _ V.M 0 _ _ _ hs7.1
    have cX := cell_of_row _ V.X 0 _ _ _ hs7.2.1
    have cY := cell_of_row _ V.Y 0 _ _ _ hs7.2.2
    simp only [List.getElem?_toArray, List.getElem?_cons_zero] at cL cE cG cM cX cY
    have heq := crash_eq 0
    clear hb7 hs7 hh7 HS6 HH6 HB6 HZ6
    go_wp2_with (fail)
    go_ret
    exact ⟨rfl, HVB.out ▸ HB7.out⟩
  · have HS4 : Hid (V.St op 1 1 w4) := Lib.hid hs
    have HH4 := Lib.hid (HH2.out.fr hfr (by intro x hx; have := HNE.out; simp at hx; rcases hx with rfl | rfl | rfl <;> exact ⟨by omega, by omega⟩))
    have HB4 : Hid (Below V.B w w4) := Lib.hid (HB2.out.trans hfr.1)
    have HZ4 : Hid (V.B ≤ w4.heap.size) := Lib.hid (Nat.le_trans HZ2.out hfr.1.size)
    clear hfr hs HS2 HH2 HB2 HZ2 cT
    go_wp2_with (fail)
    have hb5 := (Below.refl w4.heap.size w4).alloc (Nat.le_refl _) (.cells #[.int .i64 op] 24)
    have HS5 := Lib.hid (HS4.out.below hb5)
    have HH5 : Hid (Held (w4.alloc (.cells #[.int .i64 op] 24)) ((w4.heap.size, .cells #[.int .i64 op] 24) :: [(Eb, .cells #[.int .u8 ev] 5), (L, .cells #[.bool true] 4), (T9, .cells #[fv1 V L] 1)])) := Lib.hid (HH4.out.alloc (.cells #[.int .i64 op] 24))
    have HB5 : Hid (Below V.B w (w4.alloc (.cells #[.int .i64 op] 24))) := Lib.hid (HB4.out.trans (hb5.mono HZ4.out))
    have HZ5 : Hid (V.B ≤ (w4.alloc (.cells #[.int .i64 op] 24)).heap.size) := Lib.hid (Nat.le_trans HZ4.out hb5.size)
    have hlt := HS4.out.lt
    obtain ⟨G10, hG10⟩ : ∃ q, q = w4.heap.size := ⟨_, rfl⟩
    have HN10 : Hid (G10 ≠ V.X ∧ G10 ≠ V.Y) := Lib.hid (by omega)
    rw [← hG10] at HH5 ⊢
    clear hb5 hG10 HS4 HH4 HB4 HZ4 hlt
    generalize w4.alloc (.cells #[.int .i64 op] 24) = w5 at *
    refine (runsDo V op ev 1 1 true _ w5 HS5.out HZ5.out (fun w6 hb => ⟨_, _, rfl, okR2, runs2 V L T9 Eb true op ev HE0.out HE1.out 1 1 (by omega) (by omega) w6 (HS5.out.below hb) (HH5.out.below hb).2.2.1 HNE.out.2.2.2.1 (HH5.out.below hb).2.2.2.1 (HH5.out.below hb).2.1 HNE.out.1 HNE.out.2.1⟩)).mono ?_
    rintro e w6 ⟨hfr, rfl, hs⟩
    have HS6 : Hid (V.St op 2 2 w6) := Lib.hid hs
    have HH6 := Lib.hid (HH5.out.fr hfr (by intro x hx; have := HNE.out; have := HN10.out; simp at hx; rcases hx with rfl | rfl | rfl | rfl <;> exact ⟨by omega, by omega⟩))
    have HB6 : Hid (Below V.B w w6) := Lib.hid (HB5.out.trans hfr.1)
    have HZ6 : Hid (V.B ≤ w6.heap.size) := Lib.hid (Nat.le_trans HZ5.out hfr.1.size)
    clear hfr hs HS5 HH5 HB5 HZ5
    have hb7 := (Below.refl w6.heap.size w6).alloc (Nat.le_refl _) (.cells #[.int .i64 op] 24)
    have hs7 := HS6.out.below hb7
    have hh7 := HH6.out.below hb7
    have HB7 : Hid (Below V.B w (w6.alloc (.cells #[.int .i64 op] 24))) := Lib.hid (HB6.out.trans (hb7.mono HZ6.out))
    have cL := cell_of_row _ L 0 _ _ _ hh7.2.2.1
    have cE := cell_of_row _ Eb 0 _ _ _ hh7.2.1
    have cG := cell_of_row _ G10 0 _ _ _ hh7.1
    have cM := cell_of_row _ V.M 0 _ _ _ hs7.1
    have cX := cell_of_row _ V.X 0 _ _ _ hs7.2.1
    have cY := cell_of_row _ V.Y 0 _ _ _ hs7.2.2
    simp only [List.getElem?_toArray, List.getElem?_cons_zero] at cL cE cG cM cX cY
    have heq := crash_eq 0
    clear hb7 hs7 hh7 HS6 HH6 HB6 HZ6
    go_wp2_with (fail)
    go_ret
    exact ⟨rfl, HVB.out ▸ HB7.out⟩

theorem guardRuns_walk (op ev : Int) (b : Bool) (w : World) (_h0 : (Lit.int .i64 op).wf = true) (h1 : (Lit.int .u8 ev).wf = true) : Calls Try.prog 3 #[.int .i64 op, .int .u8 ev, .bool b] w (True_ w) :=
  guardRuns_b b op ev (bounds_u8 h1).1 (bounds_u8 h1).2 w
end Go.Proofs.Ytkniednjchnncaa
