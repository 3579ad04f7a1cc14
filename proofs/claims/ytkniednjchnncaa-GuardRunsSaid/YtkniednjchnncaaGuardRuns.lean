/- GuardRuns, walked. -/
import Derived.Test.YtkniednjchnncaaGuardDo
namespace Go.Proofs.Ytkniednjchnncaa
open Go.RowKit

set_option maxRecDepth 100000 in
theorem runs11 (X x : Nat) (hx : x ≤ 100) (u : FrameMode) (w : World) (h : w.heap[X]? = some (.cells #[.int .i64 (x : Int)] 3)) :
    CallsD Try.prog 12 #[.pointer (some ⟨X, 0, none⟩)] u w fun e u' w' => u' = u ∧ e = .returned (.tuple #[]) ∧ w' = w.setCell ⟨X, 0, none⟩ (.int .i64 ((x : Int) + 1)) := by
  have c := cell_of_row w X 0 _ _ _ h
  simp only [List.getElem?_toArray, List.getElem?_cons_zero] at c
  have f : w.frozen? ⟨X, 0, none⟩ = false := by simp [World.frozen?, h]
  have ew : IntKind.i64.wrap ((x : Int) + 1) = ((x + 1 : Nat) : Int) := by rw [IntKind.wrap_i64]; omega
  clear h
  go_enter_d Try.func12, Try.ntmps12
  go_wp2
  go_end0
  exact ⟨rfl, rfl⟩

def R1Post (V : NVars) (m : Int) (x y : Nat) (b : Bool) (W : World) (e : Ending) (w' : World) : Prop :=
  V.Fr W w' ∧ e = (match b with | true => .panicked [{ v := crashI m, recovered := false }] | false => .returned (.tuple #[])) ∧ V.St m (x + 1) (y + (match b with | true => 1 | false => 2)) w'

theorem NVars.St.setX {V : NVars} {m : Int} {x y : Nat} {W : World} (h : V.St m x y W) (x' : Nat) (k : Int) (e : k = (x' : Int)) : V.St m x' y (W.setCell ⟨V.X, 0, none⟩ (.int .i64 k)) := by
  subst e
  exact ⟨by rw [heap_setCell_other _ _ _ _ (by show V.M ≠ V.X; exact V.mx)]; exact h.1, heap_setCell_same _ _ _ _ _ _ h.2.1, by rw [heap_setCell_other _ _ _ _ (by show V.Y ≠ V.X; exact fun e => V.xy e.symm)]; exact h.2.2⟩
theorem NVars.St.setY {V : NVars} {m : Int} {x y : Nat} {W : World} (h : V.St m x y W) (y' : Nat) (k : Int) (e : k = (y' : Int)) : V.St m x y' (W.setCell ⟨V.Y, 0, none⟩ (.int .i64 k)) := by
  subst e
  exact ⟨by rw [heap_setCell_other _ _ _ _ (by show V.M ≠ V.Y; exact V.my)]; exact h.1, by rw [heap_setCell_other _ _ _ _ (by show V.X ≠ V.Y; exact V.xy)]; exact h.2.1, heap_setCell_same _ _ _ _ _ _ h.2.2⟩
theorem NVars.Fr.setX {V : NVars} {w W : World} (h : V.Fr w W) (v : Value) : V.Fr w (W.setCell ⟨V.X, 0, none⟩ v) :=
  h.trans ⟨(Below.refl _ _).setCell (p := ⟨V.X, 0, none⟩) V.bX _, fun b _ h1 _ => heap_setCell_other _ _ _ _ (by show b ≠ V.X; exact h1)⟩
theorem NVars.Fr.setY {V : NVars} {w W : World} (h : V.Fr w W) (v : Value) : V.Fr w (W.setCell ⟨V.Y, 0, none⟩ v) :=
  h.trans ⟨(Below.refl _ _).setCell (p := ⟨V.Y, 0, none⟩) V.bY _, fun b _ _ h2 => heap_setCell_other _ _ _ _ (by show b ≠ V.Y; exact h2)⟩

theorem okR1 : FnOk 11 := fun args w => Go.MuLone.run_callFunc_enter Try.func11 (by kernel_rfl) rfl args w
theorem okR2 : FnOk 15 := fun args w => Go.MuLone.run_callFunc_enter Try.func15 (by kernel_rfl) rfl args w

set_option maxHeartbeats 1000000 in
set_option maxRecDepth 100000 in
theorem runs1 (V : NVars) (L : Nat) (b : Bool) (m : Int) (x y : Nat) (hx : x ≤ 100) (hy : y ≤ 100) (W : World) (hS : V.St m x y W) (hL : W.heap[L]? = some (.cells #[.bool b] 4)) (hLY : L ≠ V.Y) :
    Calls Try.prog 11 #[.pointer (some ⟨V.X, 0, none⟩), .pointer (some ⟨V.Y, 0, none⟩), .pointer (some ⟨L, 0, none⟩), .pointer (some ⟨V.M, 0, none⟩)] W (R1Post V m x y b W) := by
  have hmf : ∀ (fn : Fn) (first cap : Array Value) (w : World), (Instr.makeFunc fn first cap).run Try.prog w = .ok (.func fn first cap) w := fun _ _ _ _ => rfl
  have cY := cell_of_row W V.Y 0 _ _ _ hS.2.2
  have cM := cell_of_row W V.M 0 _ _ _ hS.1
  have cL := cell_of_row W L 0 _ _ _ hL
  simp only [List.getElem?_toArray, List.getElem?_cons_zero] at cY cM cL
  have fY : W.frozen? ⟨V.Y, 0, none⟩ = false := by simp [World.frozen?, hS.2.2]
  have ew1 : IntKind.i64.wrap ((y : Int) + 1) = ((y + 1 : Nat) : Int) := by rw [IntKind.wrap_i64]; omega
  have hMY : V.M ≠ V.Y := V.my
  have HS := Lib.hid hS
  have HX := Lib.hid hx
  have HY := Lib.hid hy
  clear hS hL
  cases b
  · have ew2 : IntKind.i64.wrap ((y : Int) + 1 + 1) = ((y + 2 : Nat) : Int) := by rw [IntKind.wrap_i64]; omega
    have cY2 : ∀ v, (W.setCell ⟨V.Y, 0, none⟩ v).cell? ⟨V.Y, 0, none⟩ = some v := fun v => by
      rw [cell_of_row _ _ _ _ _ _ (heap_setCell_same W V.Y 0 _ _ v HS.out.2.2)]; rfl
    clear hx hy
    go_enter_defers Try.func11, Try.ntmps11
    go_wp2_with (fail)
    show Leaves _ _ _ _ _ _ _
    have hs2 := (HS.out.setY (y + 1) ((y : Int) + 1) (by omega)).setY (y + 2) ((y : Int) + 2) (by omega)
    have hfr := ((NVars.Fr.refl V W).setY (.int .i64 ((y : Int) + 1))).setY (.int .i64 ((y : Int) + 2))
    generalize (W.setCell ⟨V.Y, 0, none⟩ (.int .i64 ((y : Int) + 1))).setCell ⟨V.Y, 0, none⟩ (.int .i64 ((y : Int) + 2)) = W3 at *
    refine leaves_cons (f := 12) (args := #[.pointer (some ⟨V.X, 0, none⟩)]) (by simp) (by simp [go_sem]) ?_
    refine (runs11 V.X x HX.out .returning W3 hs2.2.1).mono ?_
    rintro e u' w'' ⟨rfl, rfl, rfl⟩
    have hP : R1Post V m x y false W (.returned (.tuple #[])) (W3.setCell ⟨V.X, 0, none⟩ (.int .i64 ((x : Int) + 1))) := ⟨hfr.setX _, rfl, hs2.setX (x + 1) _ (by omega)⟩
    simp [Leaves, settle, results, Try.results11, go_sem]
    exact hP
  · clear hx hy
    go_enter_defers Try.func11, Try.ntmps11
    go_wp2_with (fail)
    show Leaves _ _ _ _ _ _ _
    have hs2 := HS.out.setY (y + 1) ((y : Int) + 1) (by omega)
    have hfr := (NVars.Fr.refl V W).setY (.int .i64 ((y : Int) + 1))
    generalize W.setCell ⟨V.Y, 0, none⟩ (.int .i64 ((y : Int) + 1)) = W3 at *
    refine leaves_cons (f := 12) (args := #[.pointer (some ⟨V.X, 0, none⟩)]) (by simp) (by simp [go_sem]) ?_
    refine (runs11 V.X x HX.out _ W3 hs2.2.1).mono ?_
    rintro e u' w'' ⟨rfl, rfl, rfl⟩
    have hP : R1Post V m x y true W (.panicked [{ v := crashI m, recovered := false }]) (W3.setCell ⟨V.X, 0, none⟩ (.int .i64 ((x : Int) + 1))) := ⟨hfr.setX _, rfl, hs2.setX (x + 1) _ (by omega)⟩
    simp [Leaves, settle, go_sem]
    exact hP

def R2Post (V : NVars) (m : Int) (x y : Nat) (b : Bool) (ev : Int) (W : World) (e : Ending) (w' : World) : Prop :=
  V.Fr W w' ∧ e = (match b with | true => .panicked [{ v := crashI m, recovered := false }] | false => .returned (.int .i64 ev)) ∧ V.St m (x + 1) (y + (match b with | true => 1 | false => 2)) w'

abbrev fv1 (V : NVars) (L : Nat) : Value := .func (.func 11) #[] #[.pointer (some ⟨V.X, 0, none⟩), .pointer (some ⟨V.Y, 0, none⟩), .pointer (some ⟨L, 0, none⟩), .pointer (some ⟨V.M, 0, none⟩)]
abbrev fv2 (T9 Eb : Nat) : Value := .func (.func 15) #[] #[.pointer (some ⟨T9, 0, none⟩), .pointer (some ⟨Eb, 0, none⟩)]

set_option maxHeartbeats 1000000 in
set_option maxRecDepth 100000 in
theorem runs2 (V : NVars) (L T9 Eb : Nat) (b : Bool) (m ev : Int) (he0 : 0 ≤ ev) (he1 : ev ≤ 255) (x y : Nat) (hx : x ≤ 100) (hy : y ≤ 100) (W : World) (hS : V.St m x y W) (hL : W.heap[L]? = some (.cells #[.bool b] 4)) (hLY : L ≠ V.Y)
    (hT : W.heap[T9]? = some (.cells #[fv1 V L] 1)) (hE : W.heap[Eb]? = some (.cells #[.int .u8 ev] 5)) (hEX : Eb ≠ V.X) (hEY : Eb ≠ V.Y) :
    Calls Try.prog 15 #[.pointer (some ⟨T9, 0, none⟩), .pointer (some ⟨Eb, 0, none⟩)] W (R2Post V m x y b ev W) := by
  have c := cell_of_row W T9 0 _ _ _ hT
  simp only [List.getElem?_toArray, List.getElem?_cons_zero] at c
  have HR := Lib.hid (runs1 V L b m x y hx hy W hS hL hLY)
  have HE := Lib.hid hE
  have HEL := Lib.hid (Array.getElem?_eq_some_iff.1 hE).1
  clear hS hL hLY hT hE hx hy
  go_enter Try.func15, Try.ntmps15
  go_wp2_with (fail)
  refine HR.out.mono ?_
  rintro e w2 ⟨hfr, rfl, hs⟩
  cases b
  · have hE2 : w2.heap[Eb]? = some (.cells #[.int .u8 ev] 5) := by rw [hfr.2 Eb HEL.out hEX hEY]; exact HE.out
    have c2 := cell_of_row w2 Eb 0 _ _ _ hE2
    simp only [List.getElem?_toArray, List.getElem?_cons_zero] at c2
    have HF := Lib.hid hfr
    have HS := Lib.hid hs
    have ew : IntKind.i64.wrap ev = ev := by rw [IntKind.wrap_i64]; omega
    clear hfr hs hE2 c HR
    go_wp2_with (fail)
    go_ret
    exact ⟨HF.out, rfl, HS.out⟩
  · exact ⟨rfl, hfr, rfl, hs⟩

def RunsRun (V : NVars) (m : Int) (x y : Nat) (b : Bool) (W : World) (e : Ending) (w'' : World) : Prop :=
  V.Fr W w'' ∧ e = .returned (.tuple #[crash (match b with | true => m | false => 0), .bool b]) ∧ V.St m (x + 1) (y + (match b with | true => 1 | false => 2)) w''
theorem NVars.St.held {V : NVars} {m : Int} {x y : Nat} {W W' : World} {B : Nat} (h : V.St m x y W) (hM : V.M < B) (hX : V.X < B) (hY : V.Y < B) (hb : Below B W W') : V.St m x y W' :=
  ⟨by rw [hb.block _ hM]; exact h.1, by rw [hb.block _ hX]; exact h.2.1, by rw [hb.block _ hY]; exact h.2.2⟩

theorem runsRun (V : NVars) (m : Int) (x y : Nat) (b : Bool) (v : Value) (W : World) (hS : V.St m x y W) (hBW : V.B ≤ W.heap.size) (h : ∀ w1, Below W.heap.size W w1 → FCalls v w1 (R1Post V m x y b w1)) :
    Calls Try.prog 13 #[v] W (RunsRun V m x y b W) := by
  obtain ⟨l1, l2, l3⟩ := hS.lt
  refine (guardRunF v W (fun w' => b = false ∧ V.Fr W w' ∧ V.St m (x + 1) (y + (match b with | true => 1 | false => 2)) w') (fun op w' => b = true ∧ op = m ∧ V.Fr W w' ∧ V.St m (x + 1) (y + (match b with | true => 1 | false => 2)) w') ?_).mono ?_
  · intro w1 hb
    obtain ⟨k, caps, e, hk, hc⟩ := h w1 hb
    refine ⟨k, caps, e, hk, hc.mono ?_⟩
    rintro e w' ⟨hfr, rfl, hs⟩
    refine ⟨fun b hb1 hb2 => hfr.2 b hb2 (by omega) (by omega), hfr.1.size, ?_⟩
    have hf0 : V.Fr W w' := (NVars.Fr.of_below hb hBW (Nat.le_refl _)).trans hfr
    cases b
    · exact .inl ⟨rfl, rfl, hf0, hs⟩
    · exact .inr ⟨m, rfl, rfl, rfl, hf0, hs⟩
  · rintro e w'' ⟨w', hb, hcase⟩
    rcases hcase with ⟨rfl, rfl, hfr, hs⟩ | ⟨op, rfl, rfl, rfl, hfr, hs⟩
    · exact ⟨⟨hfr.1.trans (hb.mono hBW), fun n hn h1 h2 => (hb.block n hn).trans (hfr.2 n hn h1 h2)⟩, rfl, hs.held l1 l2 l3 hb⟩
    · exact ⟨⟨hfr.1.trans (hb.mono hBW), fun n hn h1 h2 => (hb.block n hn).trans (hfr.2 n hn h1 h2)⟩, rfl, hs.held l1 l2 l3 hb⟩

def RunsDo (V : NVars) (m : Int) (x y : Nat) (b : Bool) (ev : Int) (W : World) (e : Ending) (w'' : World) : Prop :=
  V.Fr W w'' ∧ e = .returned (.tuple #[.int .i64 (match b with | true => 0 | false => ev), crash (match b with | true => m | false => 0), .bool b]) ∧ V.St m (x + 1) (y + (match b with | true => 1 | false => 2)) w''
theorem runsDo (V : NVars) (m ev : Int) (x y : Nat) (b : Bool) (v : Value) (W : World) (hS : V.St m x y W) (hBW : V.B ≤ W.heap.size) (h : ∀ w1, Below W.heap.size W w1 → FCalls v w1 (R2Post V m x y b ev w1)) :
    Calls Try.prog 14 #[v] W (RunsDo V m x y b ev W) := by
  obtain ⟨l1, l2, l3⟩ := hS.lt
  refine (guardDo v W (fun n w' => b = false ∧ n = ev ∧ V.Fr W w' ∧ V.St m (x + 1) (y + (match b with | true => 1 | false => 2)) w') (fun op w' => b = true ∧ op = m ∧ V.Fr W w' ∧ V.St m (x + 1) (y + (match b with | true => 1 | false => 2)) w') ?_).mono ?_
  · intro w1 hb
    obtain ⟨k, caps, e, hk, hc⟩ := h w1 hb
    refine ⟨k, caps, e, hk, hc.mono ?_⟩
    rintro e w' ⟨hfr, rfl, hs⟩
    refine ⟨fun b hb1 hb2 => hfr.2 b hb2 (by omega) (by omega), hfr.1.size, ?_⟩
    have hf0 : V.Fr W w' := (NVars.Fr.of_below hb hBW (Nat.le_refl _)).trans hfr
    cases b
    · exact .inl ⟨ev, rfl, rfl, rfl, hf0, hs⟩
    · exact .inr ⟨m, rfl, rfl, rfl, hf0, hs⟩
  · rintro e w'' ⟨w', hb, hcase⟩
    rcases hcase with ⟨n, rfl, rfl, rfl, hfr, hs⟩ | ⟨op, rfl, rfl, rfl, hfr, hs⟩
    · exact ⟨⟨hfr.1.trans (hb.mono hBW), fun n hn h1 h2 => (hb.block n hn).trans (hfr.2 n hn h1 h2)⟩, rfl, hs.held l1 l2 l3 hb⟩
    · exact ⟨⟨hfr.1.trans (hb.mono hBW), fun n hn h1 h2 => (hb.block n hn).trans (hfr.2 n hn h1 h2)⟩, rfl, hs.held l1 l2 l3 hb⟩
end Go.Proofs.Ytkniednjchnncaa
