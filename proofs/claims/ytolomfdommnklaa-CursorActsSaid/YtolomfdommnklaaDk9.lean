/- Layer 2: the law's call: what it defers, and an append, walked. -/
import Derived.Test.YtolomfdommnklaaDk8
namespace Go.Proofs.Ytolomfdommnklaa
open Go.RowKit Go.MapKept

theorem assert_yes (v : Value) (w : World) : (Instr.typeAssert (.iface 46 v) 20 46 true).run Try.prog w = .ok (.tuple #[v, .bool true]) w := by
  simp [Instr.typeAssert, go_sem, run_underlying Try.underlying46]
/-- the four results' boxes -/
structure Boxes (w : World) (s : Nat) (n e : Int) (gone : Bool) (op : Int) : Prop where
  n_ : w.heap[s]? = some (.cells #[.int .i64 n] 3)
  e_ : w.heap[s + 1]? = some (.cells #[.int .i64 e] 23)
  g_ : w.heap[s + 1 + 1]? = some (.cells #[.bool gone] 4)
  o_ : w.heap[s + 1 + 1 + 1]? = some (.cells #[.int .i64 op] 3)
abbrev bx (s : Nat) : Array Value := #[.pointer (some ⟨s, 0, none⟩), .pointer (some ⟨s + 1, 0, none⟩), .pointer (some ⟨s + 1 + 1, 0, none⟩), .pointer (some ⟨s + 1 + 1 + 1, 0, none⟩)]
theorem Boxes.same {w w' : World} {s : Nat} {n e op : Int} {gone : Bool} (h : Boxes w s n e gone op) {S : Nat → Prop} (c : Ch S w w') (hS : ∀ k, s ≤ k → k < s + 4 → ¬ S k) : Boxes w' s n e gone op :=
  ⟨c.row h.n_ (hS _ (by omega) (by omega)), c.row h.e_ (hS _ (by omega) (by omega)), c.row h.g_ (hS _ (by omega) (by omega)), c.row h.o_ (hS _ (by omega) (by omega))⟩

theorem Boxes.cells {w : World} {s : Nat} {n e op : Int} {gone : Bool} (h : Boxes w s n e gone op) : (w.cell? ⟨s, 0, none⟩ = some (.int .i64 n) ∧ w.cell? ⟨s + 1, 0, none⟩ = some (.int .i64 e) ∧ w.cell? ⟨s + 1 + 1, 0, none⟩ = some (.bool gone) ∧ w.cell? ⟨s + 1 + 1 + 1, 0, none⟩ = some (.int .i64 op)) ∧ w.frozen? ⟨s, 0, none⟩ = false ∧ w.frozen? ⟨s + 1, 0, none⟩ = false ∧ w.frozen? ⟨s + 1 + 1, 0, none⟩ = false ∧ w.frozen? ⟨s + 1 + 1 + 1, 0, none⟩ = false :=
  ⟨⟨cell_of_row _ _ 0 _ _ _ h.n_, cell_of_row _ _ 0 _ _ _ h.e_, cell_of_row _ _ 0 _ _ _ h.g_, cell_of_row _ _ 0 _ _ _ h.o_⟩, by simp [World.frozen?, h.n_], by simp [World.frozen?, h.e_], by simp [World.frozen?, h.g_], by simp [World.frozen?, h.o_]⟩
theorem row_other {w : World} {s t : Nat} {o : Obj} (h : w.heap[s]? = some o) (hne : s ≠ t) (v : Value) : (w.setCell ⟨t, 0, none⟩ v).heap[s]? = some o := by
  rw [heap_setCell_other _ _ _ _ (by show s ≠ t; exact hne)]; exact h
theorem Boxes.setN {w : World} {s : Nat} {n e op : Int} {gone : Bool} (h : Boxes w s n e gone op) (x : Int) : Boxes (w.setCell ⟨s, 0, none⟩ (.int .i64 x)) s x e gone op := ⟨heap_set_row h.n_ _, row_other h.e_ (by omega) _, row_other h.g_ (by omega) _, row_other h.o_ (by omega) _⟩
theorem Boxes.setE {w : World} {s : Nat} {n e op : Int} {gone : Bool} (h : Boxes w s n e gone op) (x : Int) : Boxes (w.setCell ⟨s + 1, 0, none⟩ (.int .i64 x)) s n x gone op := ⟨row_other h.n_ (by omega) _, heap_set_row h.e_ _, row_other h.g_ (by omega) _, row_other h.o_ (by omega) _⟩
theorem Boxes.setG {w : World} {s : Nat} {n e op : Int} {gone : Bool} (h : Boxes w s n e gone op) (x : Bool) : Boxes (w.setCell ⟨s + 1 + 1, 0, none⟩ (.bool x)) s n e x op := ⟨row_other h.n_ (by omega) _, row_other h.e_ (by omega) _, heap_set_row h.g_ _, row_other h.o_ (by omega) _⟩
theorem Boxes.setO {w : World} {s : Nat} {n e op : Int} {gone : Bool} (h : Boxes w s n e gone op) (x : Int) : Boxes (w.setCell ⟨s + 1 + 1 + 1, 0, none⟩ (.int .i64 x)) s n e gone x := ⟨row_other h.n_ (by omega) _, row_other h.e_ (by omega) _, row_other h.g_ (by omega) _, heap_set_row h.o_ _⟩
abbrev BxS (s : Nat) : Nat → Prop := fun k => s ≤ k ∧ k < s + 4
theorem Boxes.set4 {w : World} {s : Nat} {n e op : Int} {gone : Bool} (h : Boxes w s n e gone op) (n' e' o' : Int) (g' : Bool) :
    Boxes ((((w.setCell ⟨s, 0, none⟩ (.int .i64 n')).setCell ⟨s + 1, 0, none⟩ (.int .i64 e')).setCell ⟨s + 1 + 1, 0, none⟩ (.bool g')).setCell ⟨s + 1 + 1 + 1, 0, none⟩ (.int .i64 o')).drew s n' e' g' o' ∧
    Ch (BxS s) w ((((w.setCell ⟨s, 0, none⟩ (.int .i64 n')).setCell ⟨s + 1, 0, none⟩ (.int .i64 e')).setCell ⟨s + 1 + 1, 0, none⟩ (.bool g')).setCell ⟨s + 1 + 1 + 1, 0, none⟩ (.int .i64 o')).drew := by
  have h4 := (((h.setN n').setE e').setG g').setO o'
  refine ⟨⟨h4.n_, h4.e_, h4.g_, h4.o_⟩, ?_⟩
  exact (((((Ch.refl (BxS s) w).set (a := ⟨s, 0, none⟩) (by simp only [BxS]; omega) _).set (a := ⟨s + 1, 0, none⟩) (by simp only [BxS]; omega) _).set (a := ⟨s + 1 + 1, 0, none⟩) (by simp only [BxS]; omega) _).set (a := ⟨s + 1 + 1 + 1, 0, none⟩) (by simp only [BxS]; omega) _).drew
theorem tm20 (P Q R S v : Value) : (#[P, Q, R, S] ++ ((Array.replicate 16 undef).setIfInBounds 3 v).setIfInBounds 0 v) = #[P, Q, R, S, v, undef, undef, v, undef, undef, undef, undef, undef, undef, undef, undef, undef, undef, undef, undef] := by kernel_rfl
end Go.Proofs.Ytolomfdommnklaa
