/- Layer 2: the law's call: what it defers, and an append, walked. -/
import Derived.Test.YtecmadodpkfnnaaDk8
namespace Go.Proofs.Ytecmadodpkfnnaa
open Go.RowKit Go.MapKept

theorem assert_yes (v : Value) (w : World) : (Instr.typeAssert (.iface 90 v) 20 90 true).run Try.prog w = .ok (.tuple #[v, .bool true]) w := by
  simp [Instr.typeAssert, go_sem, run_underlying Try.underlying90]
/-- the four results' boxes -/
structure Boxes (w : World) (s : Nat) (n e : Int) (gone : Bool) (op : Int) : Prop where
  n_ : w.heap[s]? = some (.cells #[.int .i64 n] 3)
  e_ : w.heap[s + 1]? = some (.cells #[.int .i64 e] 25)
  g_ : w.heap[s + 1 + 1]? = some (.cells #[.bool gone] 4)
  o_ : w.heap[s + 1 + 1 + 1]? = some (.cells #[.int .i64 op] 3)
abbrev bx (s : Nat) : Array Value := #[.pointer (some ⟨s, 0, none⟩), .pointer (some ⟨s + 1, 0, none⟩), .pointer (some ⟨s + 1 + 1, 0, none⟩), .pointer (some ⟨s + 1 + 1 + 1, 0, none⟩)]
theorem Boxes.same {w w' : World} {s : Nat} {n e op : Int} {gone : Bool} (h : Boxes w s n e gone op) {S : Nat → Prop} (c : Ch S w w') (hS : ∀ k, s ≤ k → k < s + 4 → ¬ S k) : Boxes w' s n e gone op :=
  ⟨c.row h.n_ (hS _ (by omega) (by omega)), c.row h.e_ (hS _ (by omega) (by omega)), c.row h.g_ (hS _ (by omega) (by omega)), c.row h.o_ (hS _ (by omega) (by omega))⟩

theorem Boxes.cells {w : World} {s : Nat} {n e op : Int} {gone : Bool} (h : Boxes w s n e gone op) : (w.cell? ⟨s, 0, none⟩ = some (.int .i64 n) ∧ w.cell? ⟨s + 1, 0, none⟩ = some (.int .i64 e) ∧ w.cell? ⟨s + 1 + 1, 0, none⟩ = some (.bool gone) ∧ w.cell? ⟨s + 1 + 1 + 1, 0, none⟩ = some (.int .i64 op)) ∧ w.frozen? ⟨s, 0, none⟩ = false ∧ w.frozen? ⟨s + 1, 0, none⟩ = false ∧ w.frozen? ⟨s + 1 + 1, 0, none⟩ = false ∧ w.frozen? ⟨s + 1 + 1 + 1, 0, none⟩ = false :=
  ⟨⟨cell_of_row _ _ 0 _ _ _ h.n_, cell_of_row _ _ 0 _ _ _ h.e_, cell_of_row _ _ 0 _ _ _ h.g_, cell_of_row _ _ 0 _ _ _ h.o_⟩, by simp [World.frozen?, h.n_], by simp [World.frozen?, h.e_], by simp [World.frozen?, h.g_], by simp [World.frozen?, h.o_]⟩
theorem row_other {w : World} {s t : Nat} {o : Obj} (h : w.heap[s]? = some o) (hne : s ≠ t) (v : Value) : (w.setCell ⟨t, 0, none⟩ v).heap[s]? = some o := by
  rw [heap_setCell_other _ _ _ _ (by show s ≠ t; exact hne)]; exact h
theorem Boxes.setN {w : World} {s : Nat} {n e op : Int} {gone : Bool} (h : Boxes w s n e gone op) (x : Int) : Boxes (w.setCell ⟨s, 0, none⟩ (.int .i64 x)) s x e gone op := ⟨heap_set_row h.n_ _, row_other h.e_ (by omega) _, row_other h.g_ (by omega) _, row_other h.o_ (by omega) _⟩
theorem Boxes.setE {w : World} {s : Nat} {n e op : Int} {gone : Bool} (h : Boxes w s n e gone op) (x : Int) : Boxes (w.setCell ⟨s + 1, 0, none⟩ (.int .i64 x)) s n x gone op := ⟨row_other h.n_ (by omega) _, heap_set_row h.e_ _, row_other h.g_ (by omega) _, row_other h.o_ (by omega) _⟩
theorem Boxes.setG {w : World} {s : Nat} {n e op : Int} {gone : Bool} (h : Boxes w s n e gone op) (x : Bool) : Boxes (w.setCell ⟨s + 1 + 1, 0, none⟩ (.bool x)) s n e x op := ⟨row_other h.n_ (by omega) _, row_other h.e_ (by omega) _, heap_set_row h.g_ _, row_other h.o_ (by omega) _⟩
theorem Boxes.setO {w : World} {s : Nat} {n e op : Int} {gone : Bool} (h : Boxes w s n e gone op) (x : Int) : Boxes (w.setCell ⟨s + 1 + 1 + 1, 0, none⟩ (.int .i64 x)) s n e gone x := ⟨row_other h.n_ (by omega) _, row_other h.e_ (by omega) _, row_other h.g_ (by omega) _, heap_set_row h.o_ _⟩
abbrev BxS (s : Nat) : Nat → Prop := fun k => s ≤ k ∧ k < s + 4
theorem Boxes.set4 {w : World} {s : Nat} {n e op : Int} {gone : Bool} (h : Boxes w s n e gone op) (n' e' o' : Int) (g' : Bool) :
    Boxes ((((w.setCell ⟨s, 0, none⟩ (.int .i64 n')).setCell ⟨s + 1, 0, none⟩ (.int .i64 e')).setCell ⟨s + 1 + 1, 0, none⟩ (.bool g')).setCell ⟨s + 1 + 1 + 1, 0, none⟩ (.int .i64 o')).drew s n' e' g' o' ∧
    Ch (BxS s) w ((((w.setCell ⟨s, 0, none⟩ (.int .i64 n')).setCell ⟨s + 1, 0, none⟩ (.int .i64 e')).setCell ⟨s + 1 + 1, 0, none⟩ (.bool g')).setCell ⟨s + 1 + 1 + 1, 0, none⟩ (.int .i64 o')).drew := by
  have h4 := (((h.setN n').setE e').setG g').setO o'
  refine ⟨⟨h4.n_, h4.e_, h4.g_, h4.o_⟩, ?_⟩
  exact (((((Ch.refl (BxS s) w).set (a := ⟨s, 0, none⟩) (by simp only [BxS]; omega) _).set (a := ⟨s + 1, 0, none⟩) (by simp only [BxS]; omega) _).set (a := ⟨s + 1 + 1, 0, none⟩) (by simp only [BxS]; omega) _).set (a := ⟨s + 1 + 1 + 1, 0, none⟩) (by simp only [BxS]; omega) _).drew
theorem tm20 (P Q R S v : Value) : (#[P, Q, R, S] ++ ((Array.replicate 16 undef).setIfInBounds 3 v).setIfInBounds 0 v) = #[P, Q, R, S, v, undef, undef, v, undef, undef, undef, undef, undef, undef, undef, undef, undef, undef, undef, undef] := by kernel_rfl
theorem call1_idle (s : Nat) (w : World) :
    CallsD Try.prog 42 (bx s) .returning w fun e u' w' => e = .returned (.tuple #[]) ∧ u' = .returning ∧ w' = w := by
  refine callsD_of_wpS Try.func42 rfl fun c₀ cs hu => ?_
  apply wpS_seq
  apply wpS_region
  simp [wpOpsS, go_sem, recoverD, hu, Try.ntmps42, Exit.thenS]
  rw [tm20]
  refine wpS_of_wp ?_
  go_wp2_with (fail)
  cases c₀
  simp_all [bodyPostS, results, Try.results42]

set_option maxHeartbeats 1000000 in
theorem call1_crash (s : Nat) (op n e o : Int) (gone : Bool) (older : List PanicEntry) (w : World) (hb : Boxes w s n e gone o) :
    CallsD Try.prog 42 (bx s) (.panicking ({ v := crashI op, recovered := false } :: older)) w fun e u' w' =>
      e = .returned (.tuple #[]) ∧ u' = .panicking ({ v := crashI op, recovered := true } :: older) ∧ Boxes w' s 0 0 true op ∧ Ch (BxS s) w w' := by
  have hta := assert_yes (crash op)
  have HB := Lib.hid hb
  have hsz : s + 1 + 1 + 1 < w.heap.size := (Array.getElem?_eq_some_iff.1 hb.o_).1
  clear hb
  refine callsD_of_wpS Try.func42 rfl fun c₀ cs hu => ?_
  apply wpS_seq
  apply wpS_region
  simp [wpOpsS, go_sem, recoverD, hu, Try.ntmps42, Exit.thenS]
  rw [tm20]
  refine wpS_of_wp ?_
  clear hu
  go_wp2_with (fail)
  have hb1 : Below w.heap.size w (w.alloc (.cells #[.int .i64 op] 90)) := (Below.refl _ _).alloc (Nat.le_refl _) _
  have HB1 := Lib.hid (HB.out.same (Ch.of_below (S := fun _ => False) hb1) (fun _ _ _ h => h))
  have HCH1 : Hid (Ch (BxS s) w (w.alloc (.cells #[.int .i64 op] 90))) := Lib.hid (Ch.of_below hb1)
  have c0 : (w.alloc (.cells #[.int .i64 op] 90)).cell? ⟨w.heap.size, 0, none⟩ = some (.int .i64 op) := cell_of_row _ _ 0 _ _ _ (heap_alloc_new w _)
  generalize (w.alloc (.cells #[.int .i64 op] 90)) = w1 at *
  obtain ⟨⟨x0, x1, x2, x3⟩, y0, y1, y2, y3⟩ := HB1.out.cells
  have q1 : s ≠ w.heap.size := by omega
  have q2 : s + 1 ≠ w.heap.size := by omega
  have q3 : s + 1 + 1 ≠ w.heap.size := by omega
  have q4 : s + 1 + 1 + 1 ≠ w.heap.size := by omega
  have HF := Lib.hid (HB1.out.set4 0 0 op true)
  clear hb1
  go_region
  all_goals
    refine ⟨rfl, _, rfl, _, by simp [results, Try.results42], rfl, rfl, HF.out.1, HCH1.out.trans HF.out.2 (fun _ _ h => h)⟩
end Go.Proofs.Ytecmadodpkfnnaa
