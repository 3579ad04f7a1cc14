/- Layer 3: the example. -/
import Derived.Test.YtikobhbknnlgbaaGuardRow
import Derived.Test.YtikobhbknnlgbaaLater
namespace Go.Proofs.Ytikobhbknnlgbaa
open Go.RowKit


theorem keeps_set {B N : Nat} (hN : N < B) (w1 : World) (v : Value) : (∀ b, B ≤ b → b < w1.heap.size → (w1.setCell ⟨N, 0, none⟩ v).heap[b]? = w1.heap[b]?) ∧ w1.heap.size ≤ (w1.setCell ⟨N, 0, none⟩ v).heap.size :=
  ⟨fun b hb _ => heap_setCell_other _ _ _ _ (by show b ≠ N; omega), by simp⟩

/-- a variable, and a row of functions behind it -/
def AliveI (w : World) (N F : Nat) (fs : Array Value) (x : Int) (W : World) : Prop :=
  W.heap[N]? = some (.cells #[.int .i64 x] 3) ∧ W.heap[F]? = some (.cells fs 1) ∧ Below w.heap.size w W
theorem AliveI.stable {w : World} {N F : Nat} {fs : Array Value} {x : Int} {W W' : World} {B : Nat} (h : AliveI w N F fs x W) (hN : N < B) (hF : F < B) (hB : w.heap.size ≤ B) (hb : Below B W W') : AliveI w N F fs x W' :=
  ⟨by rw [hb.block _ hN]; exact h.1, by rw [hb.block _ hF]; exact h.2.1, h.2.2.trans (hb.mono hB)⟩
theorem AliveI.set {w : World} {N F : Nat} {fs : Array Value} {x : Int} {W : World} (h : AliveI w N F fs x W) (hN : w.heap.size ≤ N) (hne : F ≠ N) (y : Int) : AliveI w N F fs y (W.setCell ⟨N, 0, none⟩ (.int .i64 y)) :=
  ⟨heap_setCell_same _ _ _ _ _ _ h.1, by rw [heap_setCell_other _ _ _ _ (by show F ≠ N; exact hne)]; exact h.2.1, h.2.2.setCell (p := ⟨N, 0, none⟩) hN _⟩

theorem ok1 : FnOk 43 := fun args w => Go.MuLone.run_callFunc_enter Try.func43 (by kernel_rfl) rfl args w
theorem ok2 : FnOk 44 := fun args w => Go.MuLone.run_callFunc_enter Try.func44 (by kernel_rfl) rfl args w

theorem aliveOne (N : Nat) (w1 : World) (h : w1.heap[N]? = some (.cells #[.int .i64 0] 3)) : Calls Try.prog 43 #[.pointer (some ⟨N, 0, none⟩)] w1 fun e w' => e = .returned (.tuple #[]) ∧ w' = w1.setCell ⟨N, 0, none⟩ (.int .i64 1) := by
  have c := cell_of_row w1 N 0 _ _ _ h
  simp only [List.getElem?_toArray, List.getElem?_cons_zero] at c
  have f : w1.frozen? ⟨N, 0, none⟩ = false := by simp [World.frozen?, h]
  clear h
  go_enter Try.func43, Try.ntmps43
  go_wp2
  go_end0
  exact ⟨rfl, rfl⟩

theorem aliveTwo (N : Nat) (w1 : World) (h : w1.heap[N]? = some (.cells #[.int .i64 1] 3)) : Calls Try.prog 44 #[.pointer (some ⟨N, 0, none⟩)] w1 fun e w' => e = .panicked [{ v := crashI 7, recovered := false }] ∧ w' = w1.setCell ⟨N, 0, none⟩ (.int .i64 11) := by
  have c := cell_of_row w1 N 0 _ _ _ h
  simp only [List.getElem?_toArray, List.getElem?_cons_zero] at c
  have f : w1.frozen? ⟨N, 0, none⟩ = false := by simp [World.frozen?, h]
  clear h
  go_enter Try.func44, Try.ntmps44
  go_wp2
  exact ⟨rfl, rfl, rfl⟩

set_option maxHeartbeats 1000000 in
set_option maxRecDepth 100000 in
theorem guardAlive (w : World) : Calls Try.prog 11 #[] w (True_ w) := by
  have hmf : ∀ (fn : Fn) (first cap : Array Value) (w : World), (Instr.makeFunc fn first cap).run Try.prog w = .ok (.func fn first cap) w := fun _ _ _ _ => rfl
  go_enter Try.func11, Try.ntmps11
  go_wp2_with (fail)
  have HIA := Lib.hid (show AliveI w w.heap.size (w.heap.size + 1) #[.func (.func 43) #[] #[.pointer (some ⟨w.heap.size, 0, none⟩)], .func (.func 44) #[] #[.pointer (some ⟨w.heap.size, 0, none⟩)], .func (.func 45) #[] #[.pointer (some ⟨w.heap.size, 0, none⟩)]] 0 ((w.alloc (.cells #[.int .i64 0] 3)).alloc (.cells #[.func (.func 43) #[] #[.pointer (some ⟨w.heap.size, 0, none⟩)], .func (.func 44) #[] #[.pointer (some ⟨w.heap.size, 0, none⟩)], .func (.func 45) #[] #[.pointer (some ⟨w.heap.size, 0, none⟩)]] 1)) from ⟨(rows_two w.heap _ _).1, (rows_two w.heap _ _).2, ((Below.refl _ w).alloc (Nat.le_refl _) _).alloc (by simp) _⟩)
  have hsz : ((w.alloc (.cells #[.int .i64 0] 3)).alloc (.cells #[.func (.func 43) #[] #[.pointer (some ⟨w.heap.size, 0, none⟩)], .func (.func 44) #[] #[.pointer (some ⟨w.heap.size, 0, none⟩)], .func (.func 45) #[] #[.pointer (some ⟨w.heap.size, 0, none⟩)]] 1)).heap.size = w.heap.size + 2 := by simp
  generalize (w.alloc (.cells #[.int .i64 0] 3)).alloc (.cells #[.func (.func 43) #[] #[.pointer (some ⟨w.heap.size, 0, none⟩)], .func (.func 44) #[] #[.pointer (some ⟨w.heap.size, 0, none⟩)], .func (.func 45) #[] #[.pointer (some ⟨w.heap.size, 0, none⟩)]] 1) = w1 at *
  have HSZ := Lib.hid hsz
  clear hsz
  refine (guardRow (some ⟨w.heap.size + 1, 0, none⟩) 3 3 w1 (by omega) (fun i W => (i = 0 ∧ AliveI w w.heap.size (w.heap.size + 1) #[.func (.func 43) #[] #[.pointer (some ⟨w.heap.size, 0, none⟩)], .func (.func 44) #[] #[.pointer (some ⟨w.heap.size, 0, none⟩)], .func (.func 45) #[] #[.pointer (some ⟨w.heap.size, 0, none⟩)]] 0 W) ∨ (i = 1 ∧ AliveI w w.heap.size (w.heap.size + 1) #[.func (.func 43) #[] #[.pointer (some ⟨w.heap.size, 0, none⟩)], .func (.func 44) #[] #[.pointer (some ⟨w.heap.size, 0, none⟩)], .func (.func 45) #[] #[.pointer (some ⟨w.heap.size, 0, none⟩)]] 1 W)) (fun i op W => i = 1 ∧ op = 7 ∧ AliveI w w.heap.size (w.heap.size + 1) #[.func (.func 43) #[] #[.pointer (some ⟨w.heap.size, 0, none⟩)], .func (.func 44) #[] #[.pointer (some ⟨w.heap.size, 0, none⟩)], .func (.func 45) #[] #[.pointer (some ⟨w.heap.size, 0, none⟩)]] 11 W) (.inl ⟨rfl, HIA.out⟩) ?_ ?_ ?_).mono ?_
  · rintro i W W' (⟨rfl, h⟩ | ⟨rfl, h⟩) hb
    · exact .inl ⟨rfl, h.stable (by have := HSZ.out; omega) (by have := HSZ.out; omega) (by have := HSZ.out; omega) hb⟩
    · exact .inr ⟨rfl, h.stable (by have := HSZ.out; omega) (by have := HSZ.out; omega) (by have := HSZ.out; omega) hb⟩
  · rintro i op W W' ⟨rfl, rfl, h⟩ hb
    exact ⟨rfl, rfl, h.stable (by have := HSZ.out; omega) (by have := HSZ.out; omega) (by have := HSZ.out; omega) hb⟩
  · rintro i W (⟨rfl, h⟩ | ⟨rfl, h⟩) _
    · refine ⟨w.heap.size + 1, 0, _, rfl, (cell_of_row W _ 0 _ _ _ h.2.1).trans rfl, .inr ⟨_, _, rfl, ok1, ?_⟩⟩
      rintro w2 (⟨_, h2⟩ | ⟨hc, _⟩) _
      · refine (aliveOne w.heap.size w2 h2.1).mono ?_
        rintro e w3 ⟨rfl, rfl⟩
        exact ⟨(keeps_set (by have := HSZ.out; omega) w2 _).1, (keeps_set (B := w1.heap.size) (by have := HSZ.out; omega) w2 _).2, .inl ⟨rfl, .inr ⟨rfl, h2.set (Nat.le_refl _) (by omega) 1⟩⟩⟩
      · cases hc
    · refine ⟨w.heap.size + 1, 0, _, rfl, (cell_of_row W _ 1 _ _ _ h.2.1).trans rfl, .inr ⟨_, _, rfl, ok2, ?_⟩⟩
      rintro w2 (⟨hc, _⟩ | ⟨_, h2⟩) _
      · cases hc
      · refine (aliveTwo w.heap.size w2 h2.1).mono ?_
        rintro e w3 ⟨rfl, rfl⟩
        exact ⟨(keeps_set (by have := HSZ.out; omega) w2 _).1, (keeps_set (B := w1.heap.size) (by have := HSZ.out; omega) w2 _).2, .inr ⟨7, rfl, rfl, rfl, h2.set (Nat.le_refl _) (by omega) 11⟩⟩
  rintro e w2 hpost
  rcases hpost with ⟨_, ⟨hc, _⟩ | ⟨hc, _⟩⟩ | ⟨i, op, _, rfl, rfl, rfl, hr, _, hb⟩
  · cases hc
  · cases hc
  · have hl : w.heap.size < w2.heap.size := (Array.getElem?_eq_some_iff.1 hr).1
    have hc := cell_of_row w2 w.heap.size 0 _ _ _ hr
    simp only [List.getElem?_toArray, List.getElem?_cons_zero] at hc
    have HB := Lib.hid hb
    clear hb hr HIA HSZ
    go_wp2_with (fail)
    go_ret
    exact ⟨rfl, HB.out.alloc HB.out.size _⟩
end Go.Proofs.Ytikobhbknnlgbaa
