/- GuardNested, walked. -/
import Derived.Test.YtkniednjchnncaaGuardLostW
import Derived.Deep.CutRange
import Derived.Deep.DeepCutAuto
namespace Go.Proofs.Ytkniednjchnncaa
open Go.RowKit

/-- three variables: the number, how often it was met, how often gone on behind -/
structure NVars where
  B : Nat
  M : Nat
  X : Nat
  Y : Nat
  bM : B ≤ M
  bX : B ≤ X
  bY : B ≤ Y
  mx : M ≠ X
  my : M ≠ Y
  xy : X ≠ Y
/-- what they hold -/
def NVars.St (V : NVars) (m : Int) (x y : Nat) (W : World) : Prop :=
  W.heap[V.M]? = some (.cells #[.int .i64 m] 3) ∧ W.heap[V.X]? = some (.cells #[.int .i64 (x : Int)] 3) ∧ W.heap[V.Y]? = some (.cells #[.int .i64 (y : Int)] 3)
/-- nothing else that was there is turned -/
def NVars.Fr (V : NVars) (w w' : World) : Prop := Below V.B w w' ∧ ∀ b, b < w.heap.size → b ≠ V.X → b ≠ V.Y → w'.heap[b]? = w.heap[b]?
theorem NVars.St.below {V : NVars} {m : Int} {x y : Nat} {W W' : World} (h : V.St m x y W) (hb : Below W.heap.size W W') : V.St m x y W' :=
  ⟨by rw [hb.block _ (Array.getElem?_eq_some_iff.1 h.1).1]; exact h.1, by rw [hb.block _ (Array.getElem?_eq_some_iff.1 h.2.1).1]; exact h.2.1, by rw [hb.block _ (Array.getElem?_eq_some_iff.1 h.2.2).1]; exact h.2.2⟩
theorem NVars.St.lt {V : NVars} {m : Int} {x y : Nat} {W : World} (h : V.St m x y W) : V.M < W.heap.size ∧ V.X < W.heap.size ∧ V.Y < W.heap.size :=
  ⟨(Array.getElem?_eq_some_iff.1 h.1).1, (Array.getElem?_eq_some_iff.1 h.2.1).1, (Array.getElem?_eq_some_iff.1 h.2.2).1⟩
theorem NVars.Fr.refl (V : NVars) (w : World) : V.Fr w w := ⟨Below.refl _ _, fun _ _ _ _ => rfl⟩
theorem NVars.Fr.trans {V : NVars} {a b c : World} (h : V.Fr a b) (k : V.Fr b c) : V.Fr a c :=
  ⟨h.1.trans k.1, fun n hn h1 h2 => (k.2 n (Nat.lt_of_lt_of_le hn h.1.size) h1 h2).trans (h.2 n hn h1 h2)⟩
theorem NVars.Fr.of_below {V : NVars} {a b : World} {C : Nat} (h : Below C a b) (hB : V.B ≤ C) (hc : a.heap.size ≤ C) : V.Fr a b :=
  ⟨h.mono hB, fun n hn _ _ => h.block n (Nat.lt_of_lt_of_le hn hc)⟩

/-- a function within so many guards -/
def NVars.Nest (V : NVars) (W : World) : Nat → Value → Prop
  | 0, v => v = .func (.func 29) #[] #[.pointer (some ⟨V.M, 0, none⟩)]
  | j + 1, v => ∃ G v', v = .func (.func 30) #[] #[.pointer (some ⟨G, 0, none⟩), .pointer (some ⟨V.M, 0, none⟩), .pointer (some ⟨V.X, 0, none⟩), .pointer (some ⟨V.Y, 0, none⟩)] ∧ W.heap[G]? = some (.cells #[v'] 1) ∧ V.Nest W j v'
theorem NVars.Nest.below {V : NVars} {W W' : World} (hb : Below W.heap.size W W') : ∀ {j : Nat} {v : Value}, V.Nest W j v → V.Nest W' j v
  | 0, _, h => h
  | _ + 1, _, ⟨G, v', e, h3, h4⟩ => ⟨G, v', e, by rw [hb.block _ (Array.getElem?_eq_some_iff.1 h3).1]; exact h3, h4.below hb⟩

theorem NVars.Nest.form {V : NVars} {W : World} : ∀ {j : Nat} {v : Value}, V.Nest W j v → ∃ (k : FuncId) (caps : Array Value), v = .func (.func k) #[] caps
  | 0, _, h => ⟨_, _, h⟩
  | _ + 1, _, ⟨_, _, e, _⟩ => ⟨_, _, e⟩

theorem okN1 : FnOk 29 := fun args w => Go.MuLone.run_callFunc_enter Try.func29 (by kernel_rfl) rfl args w
theorem okN2 : FnOk 30 := fun args w => Go.MuLone.run_callFunc_enter Try.func30 (by kernel_rfl) rfl args w

def NVars.Post (V : NVars) (m : Int) (x y j : Nat) (W : World) (e : Ending) (w' : World) : Prop :=
  V.Fr W w' ∧ ((j = 0 ∧ e = .panicked [{ v := crashI m, recovered := false }] ∧ V.St m x y w') ∨ (0 < j ∧ e = .returned (.tuple #[]) ∧ V.St m (x + 1) (y + j) w'))
/-- a function value, called -/
def FCalls (v : Value) (W : World) (R : Ending → World → Prop) : Prop := ∃ (k : FuncId) (caps : Array Value), v = .func (.func k) #[] caps ∧ FnOk k ∧ Calls Try.prog k caps W R

set_option maxRecDepth 100000 in
theorem nestZero (V : NVars) (m : Int) (x y : Nat) (W : World) (hS : V.St m x y W) : Calls Try.prog 29 #[.pointer (some ⟨V.M, 0, none⟩)] W (V.Post m x y 0 W) := by
  have c := cell_of_row W V.M 0 _ _ _ hS.1
  simp only [List.getElem?_toArray, List.getElem?_cons_zero] at c
  have HS := Lib.hid hS
  clear hS
  go_enter Try.func29, Try.ntmps29
  go_wp2_with (fail)
  refine (guardLose m W).mono ?_
  rintro e w2 ⟨rfl, rfl⟩
  exact ⟨rfl, NVars.Fr.refl _ _, .inl ⟨rfl, rfl, HS.out⟩⟩

/-- Run of a function value -/
theorem guardRunF (v : Value) (w : World) (Ret : World → Prop) (Pan : Int → World → Prop)
    (h : ∀ w1, Below w.heap.size w w1 → FCalls v w1 (RunPre w.heap.size w1 Ret Pan)) : Calls Try.prog 13 #[v] w (RunPost w.heap.size Ret Pan) := by
  obtain ⟨k, caps, rfl, hk, _⟩ := h w (Below.refl _ _)
  refine guardRun k caps hk w Ret Pan fun w1 hb => ?_
  obtain ⟨k', caps', e, _, hc⟩ := h w1 hb
  injection e with e1 _ e2
  injection e1 with e1
  subst e1 e2
  exact hc

/-- Run of what is within j guards -/
theorem nestRun (V : NVars) (m : Int) (x y j : Nat) (v : Value) (W : World) (hS : V.St m x y W) (hBW : V.B ≤ W.heap.size) (h : ∀ w1, Below W.heap.size W w1 → FCalls v w1 (V.Post m x y j w1)) :
    Calls Try.prog 13 #[v] W fun e w'' => V.Fr W w'' ∧ ((j = 0 ∧ e = .returned (.tuple #[crash m, .bool true]) ∧ V.St m x y w'') ∨ (0 < j ∧ e = .returned (.tuple #[crash 0, .bool false]) ∧ V.St m (x + 1) (y + j) w'')) := by
  obtain ⟨l1, l2, l3⟩ := hS.lt
  refine (guardRunF v W (fun w' => V.Fr W w' ∧ W.heap.size ≤ w'.heap.size ∧ 0 < j ∧ V.St m (x + 1) (y + j) w') (fun op w' => V.Fr W w' ∧ W.heap.size ≤ w'.heap.size ∧ op = m ∧ j = 0 ∧ V.St m x y w') ?_).mono ?_
  · intro w1 hb
    obtain ⟨k, caps, e, hk, hc⟩ := h w1 hb
    refine ⟨k, caps, e, hk, hc.mono ?_⟩
    rintro e w' ⟨hfr, hcase⟩
    have hf0 : V.Fr W w' := (NVars.Fr.of_below hb hBW (Nat.le_refl _)).trans hfr
    refine ⟨fun b hb1 hb2 => hfr.2 b hb2 (by omega) (by omega), hfr.1.size, ?_⟩
    rcases hcase with ⟨hj, he, hs⟩ | ⟨hj, he, hs⟩
    · exact .inr ⟨m, he, hf0, hf0.1.size, rfl, hj, hs⟩
    · exact .inl ⟨he, hf0, hf0.1.size, hj, hs⟩
  · rintro e w'' ⟨w', hb, hcase⟩
    rcases hcase with ⟨rfl, hfr, hsz, hj, hs⟩ | ⟨op, rfl, hfr, hsz, rfl, hj, hs⟩
    · refine ⟨⟨hfr.1.trans (hb.mono hBW), fun n hn h1 h2 => (hb.block n hn).trans (hfr.2 n hn h1 h2)⟩, .inr ⟨hj, rfl, ?_⟩⟩
      exact ⟨by rw [hb.block _ l1]; exact hs.1, by rw [hb.block _ l2]; exact hs.2.1, by rw [hb.block _ l3]; exact hs.2.2⟩
    · refine ⟨⟨hfr.1.trans (hb.mono hBW), fun n hn h1 h2 => (hb.block n hn).trans (hfr.2 n hn h1 h2)⟩, .inl ⟨hj, rfl, ?_⟩⟩
      exact ⟨by rw [hb.block _ l1]; exact hs.1, by rw [hb.block _ l2]; exact hs.2.1, by rw [hb.block _ l3]; exact hs.2.2⟩

set_option maxHeartbeats 1000000 in
set_option maxRecDepth 100000 in
theorem nestSucc (V : NVars) (m : Int) (x y j G : Nat) (v : Value) (W : World) (hS : V.St m x y W) (hBW : V.B ≤ W.heap.size) (hx : x ≤ 100) (hy : y + j ≤ 1000) (hG : W.heap[G]? = some (.cells #[v] 1))
    (h : ∀ w1, Below W.heap.size W w1 → FCalls v w1 (V.Post m x y j w1)) :
    Calls Try.prog 30 #[.pointer (some ⟨G, 0, none⟩), .pointer (some ⟨V.M, 0, none⟩), .pointer (some ⟨V.X, 0, none⟩), .pointer (some ⟨V.Y, 0, none⟩)] W (V.Post m x y (j + 1) W) := by
  have c := cell_of_row W G 0 _ _ _ hG
  simp only [List.getElem?_toArray, List.getElem?_cons_zero] at c
  have HR := Lib.hid (nestRun V m x y j v W hS hBW h)
  have HBW := Lib.hid hBW
  have HHX := Lib.hid hx
  have HHY := Lib.hid hy
  clear hS hG h hBW hx hy
  go_enter Try.func30, Try.ntmps30
  go_wp2_with (fail)
  refine HR.out.mono ?_
  rintro e w2 ⟨hfr, hcase⟩
  have HF := Lib.hid hfr
  clear hfr HR c
  rcases hcase with ⟨rfl, rfl, hs⟩ | ⟨hj, rfl, hs⟩
  · have hb3 := (Below.refl w2.heap.size w2).alloc (Nat.le_refl _) (.cells #[.int .i64 m] 24)
    have hs3 := hs.below hb3
    have HF3 := Lib.hid (HF.out.trans (NVars.Fr.of_below hb3 (Nat.le_trans HBW.out HF.out.1.size) (Nat.le_refl _)))
    have hn3 := heap_alloc_new w2 (.cells #[.int .i64 m] 24)
    have hxy : V.X ≠ V.Y := V.xy
    have hyx : V.Y ≠ V.X := fun h => V.xy h.symm
    have ew1 : IntKind.i64.wrap ((x : Int) + 1) = ((x + 1 : Nat) : Int) := by have := HHX.out; simp [IntKind.wrap, IntKind.signed, IntKind.bits]; omega
    have ew2 : IntKind.i64.wrap ((y : Int) + 1) = ((y + 1 : Nat) : Int) := by have := HHY.out; simp [IntKind.wrap, IntKind.signed, IntKind.bits]; omega
    have cM := cell_of_row (w2.alloc (.cells #[.int .i64 m] 24)) V.M 0 _ _ _ hs3.1
    have cX := cell_of_row (w2.alloc (.cells #[.int .i64 m] 24)) V.X 0 _ _ _ hs3.2.1
    have cY := cell_of_row (w2.alloc (.cells #[.int .i64 m] 24)) V.Y 0 _ _ _ hs3.2.2
    have cN := cell_of_row (w2.alloc (.cells #[.int .i64 m] 24)) w2.heap.size 0 _ _ _ hn3
    simp only [List.getElem?_toArray, List.getElem?_cons_zero] at cM cX cY cN
    have fX : (w2.alloc (.cells #[.int .i64 m] 24)).frozen? ⟨V.X, 0, none⟩ = false := by simp [World.frozen?, hs3.2.1, -World.alloc_eq]
    have fY : (w2.alloc (.cells #[.int .i64 m] 24)).frozen? ⟨V.Y, 0, none⟩ = false := by simp [World.frozen?, hs3.2.2, -World.alloc_eq]
    have HS3 := Lib.hid hs3
    clear hb3 hs hs3 hn3
    go_upto_region 1 with (fail)
    generalize w2.alloc (.cells #[.int .i64 m] 24) = w3 at *
    generalize w2.heap.size = G4 at *
    go_wp2_with (fail)
    go_end0
    have HX := heap_setCell_same w3 V.X 0 _ _ (.int .i64 ((x : Int) + 1)) HS3.out.2.1
    refine ⟨HF3.out.trans ⟨((Below.refl _ w3).setCell (p := ⟨V.X, 0, none⟩) V.bX _).setCell (p := ⟨V.Y, 0, none⟩) V.bY _, fun b _ h1 h2 => by rw [heap_setCell_other _ _ _ _ (by show b ≠ V.Y; exact h2), heap_setCell_other _ _ _ _ (by show b ≠ V.X; exact h1)]⟩, .inr ⟨by omega, rfl, ?_, ?_, ?_⟩⟩
    · rw [heap_setCell_other _ _ _ _ (by show V.M ≠ V.Y; exact V.my), heap_setCell_other _ _ _ _ (by show V.M ≠ V.X; exact V.mx)]
      exact HS3.out.1
    · rw [heap_setCell_other _ _ _ _ (by show V.X ≠ V.Y; exact V.xy), HX]
      rfl
    · rw [heap_setCell_same (w3.setCell ⟨V.X, 0, none⟩ (.int .i64 ((x : Int) + 1))) V.Y 0 _ _ _ (by rw [heap_setCell_other _ _ _ _ (by show V.Y ≠ V.X; exact hyx)]; exact HS3.out.2.2)]
      rfl
  · have hb3 := (Below.refl w2.heap.size w2).alloc (Nat.le_refl _) (.cells #[.int .i64 0] 24)
    have hs3 := hs.below hb3
    have HJ := Lib.hid hj
    have HF3 := Lib.hid (HF.out.trans (NVars.Fr.of_below hb3 (Nat.le_trans HBW.out HF.out.1.size) (Nat.le_refl _)))
    obtain ⟨y2, hy2⟩ : ∃ q : Nat, q = y + j := ⟨_, rfl⟩
    rw [← hy2] at hs3
    have ew2 : IntKind.i64.wrap ((y2 : Int) + 1) = ((y2 + 1 : Nat) : Int) := by have := HHY.out; simp [IntKind.wrap, IntKind.signed, IntKind.bits]; omega
    have cY := cell_of_row (w2.alloc (.cells #[.int .i64 0] 24)) V.Y 0 _ _ _ hs3.2.2
    simp only [List.getElem?_toArray, List.getElem?_cons_zero] at cY
    have fY : (w2.alloc (.cells #[.int .i64 0] 24)).frozen? ⟨V.Y, 0, none⟩ = false := by simp [World.frozen?, hs3.2.2, -World.alloc_eq]
    have HS3 := Lib.hid hs3
    have HY2 := Lib.hid hy2
    clear hb3 hs hs3 hj hy2
    go_upto_region 1 with (fail)
    generalize w2.alloc (.cells #[.int .i64 0] 24) = w3 at *
    generalize w2.heap.size = G4 at *
    go_wp2_with (fail)
    go_end0
    refine ⟨HF3.out.trans ⟨(Below.refl _ w3).setCell (p := ⟨V.Y, 0, none⟩) V.bY _, fun b _ h1 h2 => by rw [heap_setCell_other _ _ _ _ (by show b ≠ V.Y; exact h2)]⟩, .inr ⟨by omega, rfl, ?_, ?_, ?_⟩⟩
    · rw [heap_setCell_other _ _ _ _ (by show V.M ≠ V.Y; exact V.my)]
      exact HS3.out.1
    · rw [heap_setCell_other _ _ _ _ (by show V.X ≠ V.Y; exact V.xy)]
      exact HS3.out.2.1
    · rw [heap_setCell_same w3 V.Y 0 _ _ _ HS3.out.2.2, show y + (j + 1) = y2 + 1 from by rw [HY2.out]; omega]
      rfl

theorem nestCalls (V : NVars) (m : Int) (x : Nat) (hx : x ≤ 100) : ∀ (j y : Nat) (v : Value) (W : World), y + j ≤ 1000 → V.St m x y W → V.B ≤ W.heap.size → V.Nest W j v → FCalls v W (V.Post m x y j W)
  | 0, y, v, W, _, hS, _, hN => ⟨_, _, hN, okN1, nestZero V m x y W hS⟩
  | j + 1, y, v, W, hy, hS, hB, ⟨G, v', e, hG, hN⟩ => ⟨_, _, e, okN2, nestSucc V m x y j G v' W hS hB hx (by omega) hG fun w1 hb => nestCalls V m x hx j y v' w1 (by omega) (hS.below hb) (Nat.le_trans hB hb.size) (hN.below hb)⟩

theorem deep_of (n : Int) : ∃ D : Nat, D < 50 ∧ (max 0 n).tmod 50 = (D : Int) := by
  have h1 : 0 ≤ max 0 n := by omega
  have h2 := Int.tmod_nonneg 50 h1
  have h3 := Int.tmod_lt_of_pos (max 0 n) (show (0 : Int) < 50 by omega)
  exact ⟨((max 0 n).tmod 50).toNat, by omega, by omega⟩

set_option maxHeartbeats 2000000 in
set_option maxRecDepth 100000 in
theorem guardNested_walk (n m : Int) (w : World) (_hw : (Lit.int .i64 n).wf = true) (_hm : (Lit.int .i64 m).wf = true) : Calls Try.prog 7 #[.int .i64 n, .int .i64 m] w (True_ w) := by
  have hmf : ∀ (fn : Fn) (first cap : Array Value) (w : World), (Instr.makeFunc fn first cap).run Try.prog w = .ok (.func fn first cap) w := fun _ _ _ _ => rfl
  have hst := fun (A : Addr) m (W : World) (k : FuncId) (caps : Array Value) => run_store Try.prog W A (.func (.func k) #[] caps) m rfl
  obtain ⟨D, hD, hDe⟩ := deep_of n
  have HD := Lib.hid hD
  clear hD
  go_enter Try.func7, Try.ntmps7
  go_wp2_with (fail)
  refine (guardAlive _).mono ?_
  rintro e w1 ⟨rfl, hb1⟩
  have hn1 := heap_alloc_new w (.cells #[.int .i64 m] 3)
  have HM1 : Hid (w1.heap[w.heap.size]? = some (.cells #[.int .i64 m] 3)) := Lib.hid (by rw [hb1.block _ (by simp)]; exact hn1)
  have HB1 : Hid (Below w.heap.size w w1) := Lib.hid (((Below.refl _ w).alloc (Nat.le_refl _) _).trans (hb1.mono (by simp)))
  have HL1 : Hid (w.heap.size < w1.heap.size) := Lib.hid (Nat.lt_of_lt_of_le (by simp) hb1.size)
  clear hb1 hn1
  go_upto_region 6 with (fail)
  obtain ⟨V, hVB, hVM, hVX, hVY⟩ : ∃ V : NVars, V.B = w.heap.size ∧ V.M = w.heap.size ∧ V.X = w1.heap.size ∧ V.Y = w1.heap.size + 1 :=
    ⟨⟨w.heap.size, w.heap.size, w1.heap.size, w1.heap.size + 1, Nat.le_refl _, Nat.le_of_lt HL1.out, Nat.le_succ_of_le (Nat.le_of_lt HL1.out), Nat.ne_of_lt HL1.out, by have := HL1.out; omega, by omega⟩, rfl, rfl, rfl, rfl⟩
  have h2 := rows_two w1.heap (.cells #[.int .i64 0] 3) (.cells #[.int .i64 0] 3)
  have hb2 : Below w1.heap.size w1 ((w1.alloc (.cells #[.int .i64 0] 3)).alloc (.cells #[.int .i64 0] 3)) := ((Below.refl _ w1).alloc (Nat.le_refl _) _).alloc (by simp) _
  have HS2 : Hid (V.St m 0 0 ((w1.alloc (.cells #[.int .i64 0] 3)).alloc (.cells #[.int .i64 0] 3))) := Lib.hid ⟨by rw [hVM, hb2.block _ HL1.out]; exact HM1.out, by rw [hVX]; exact h2.1, by rw [hVY]; exact h2.2⟩
  have HB2 : Hid (Below V.B w ((w1.alloc (.cells #[.int .i64 0] 3)).alloc (.cells #[.int .i64 0] 3))) := Lib.hid (by rw [hVB]; exact HB1.out.trans (hb2.mono HB1.out.size))
  have HZ2 : Hid (V.B ≤ ((w1.alloc (.cells #[.int .i64 0] 3)).alloc (.cells #[.int .i64 0] 3)).heap.size) := Lib.hid (by rw [hVB]; exact Nat.le_trans (Nat.le_of_lt HL1.out) hb2.size)
  rw [← hVX] at hVY
  rw [← hVM, ← hVX, ← hVY]
  have HVB := Lib.hid hVB
  clear h2 hb2 hVB hVM hVX hVY HM1 HB1 HL1
  generalize (w1.alloc (.cells #[.int .i64 0] 3)).alloc (.cells #[.int .i64 0] 3) = w2 at *
  go_wp2_with (fail)
  go_loopw [19, 8, 9] (fun i v _ wr => ∃ j : Nat, j ≤ D ∧ i = .int .i64 j ∧ V.Nest wr j v ∧ V.St m 0 0 wr ∧ Below V.B w wr ∧ V.B ≤ wr.heap.size) (fun i _ _ _ => D - (intOf i).toNat)
  case atStart => exact ⟨0, Nat.zero_le _, rfl, rfl, HS2.out, HB2.out, HZ2.out⟩
  case round =>
    clear HS2 HB2 HZ2
    obtain ⟨j, hj, rfl, hN, hS, hB, hZ⟩ := hrel
    have HN := Lib.hid hN
    have HS := Lib.hid hS
    have HB := Lib.hid hB
    have HZ := Lib.hid hZ
    clear hN hS hB hZ
    by_cases hlt : j < D
    · have e1 : (j : Int) < (D : Int) := by omega
      have e3 : (D : Int) < 50 := by have := HD.out; omega
      have HLT := Lib.hid hlt
      clear hlt
      obtain ⟨k, caps, rfl⟩ := HN.out.form
      go_wp2_with (fail)
      go_roundw
      case rel =>
        have hb := (Below.refl wr.heap.size wr).alloc (Nat.le_refl _) (.cells #[.func (.func k) #[] caps] 1)
        exact ⟨j + 1, HLT.out, by go_num, ⟨_, _, rfl, heap_alloc_new wr _, HN.out.below hb⟩, HS.out.below hb, HB.out.trans (hb.mono HZ.out), Nat.le_trans HZ.out hb.size⟩
      case measure => have := HLT.out; simp [intOf]; omega
    · obtain rfl : j = D := by omega
      have hnj := HN.out
      go_wp2_with (fail)
      refine (nestRun V m 0 0 j _ wr HS.out HZ.out (fun w3 hb => nestCalls V m 0 (by omega) j 0 _ w3 (by have := HD.out; omega) (HS.out.below hb) (Nat.le_trans HZ.out hb.size) (hnj.below hb))).mono ?_
      rintro e w3 ⟨hfr, hcase⟩
      have HB3 : Hid (Below V.B w w3) := Lib.hid (HB.out.trans hfr.1)
      have HZ3 : Hid (V.B ≤ w3.heap.size) := Lib.hid (Nat.le_trans HZ.out hfr.1.size)
      clear hfr hnj
      rcases hcase with ⟨hj0, rfl, hs⟩ | ⟨hj0, rfl, hs⟩
      · have hb4 := (Below.refl w3.heap.size w3).alloc (Nat.le_refl _) (.cells #[.int .i64 m] 24)
        have hs4 := hs.below hb4
        have cM := cell_of_row _ V.M 0 _ _ _ hs4.1
        simp only [List.getElem?_toArray, List.getElem?_cons_zero] at cM
        have ej : (j : Int) = 0 := by omega
        have hjb : ((j : Int) == 0) = true := by rw [ej]; rfl
        have HB4 : Hid (Below V.B w (w3.alloc (.cells #[.int .i64 m] 24))) := Lib.hid (HB3.out.trans (hb4.mono HZ3.out))
        clear hb4 hs hs4 ej hj0
        go_wp2_with (fail)
        go_ret
        exact ⟨rfl, HVB.out ▸ HB4.out⟩
      · have hb4 := (Below.refl w3.heap.size w3).alloc (Nat.le_refl _) (.cells #[.int .i64 0] 24)
        have hs4 := hs.below hb4
        have cX := cell_of_row _ V.X 0 _ _ _ hs4.2.1
        have cY := cell_of_row _ V.Y 0 _ _ _ hs4.2.2
        simp only [List.getElem?_toArray, List.getElem?_cons_zero] at cX cY
        have hjb : ((j : Int) == 0) = false := by rw [beq_eq_false_iff_ne]; omega
        have HB4 : Hid (Below V.B w (w3.alloc (.cells #[.int .i64 0] 24))) := Lib.hid (HB3.out.trans (hb4.mono HZ3.out))
        have heq := crash_eq 0
        clear hb4 hs hs4 hj0
        go_wp2_with (fail)
        go_ret
        exact ⟨rfl, HVB.out ▸ HB4.out⟩
end Go.Proofs.Ytkniednjchnncaa
