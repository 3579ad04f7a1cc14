/- Layer 19: the fields of an event's text, walked. -/
import Derived.Test.YtnoppnnpennddaaDoorTr2
namespace Go.Proofs.YtnoppnnpennddaaDoor
open Go.RowKit

/-- the texts behind the first one -/
theorem Ss.tail {w : World} {b o m c : Nat} {x : List UInt8} {F : List (List UInt8)} (h : Ss w (some ⟨b, o, none⟩) m c (x :: F)) : Ss w (if c = 1 then some ⟨b, o, none⟩ else some ⟨b, o + 1, none⟩) (m - 1) (c - 1) F := by
  have hl := h.len
  have hle := h.le
  have hmx := h.max
  refine ⟨by simp at hl; omega, by omega, by simp only [maxLen]; omega, fun hn => ?_⟩
  obtain ⟨b', o', e, hb, hc⟩ := h.at_ (by omega)
  injection e with e
  injection e with e1 e2
  subst e1 e2
  rw [if_neg (by omega)]
  refine ⟨_, _, rfl, fun i y hy => ?_⟩
  have := hc (i + 1) y hy
  rwa [show o + (i + 1) = o + 1 + i from by omega] at this

set_option maxHeartbeats 1000000 in
set_option maxRecDepth 100000 in
theorem take0 (g : Nat) (A : Option Addr) (c : Nat) (w : World) (hc : w.cell? ⟨g, 0, none⟩ = some (.slice A 0 c)) : Calls Tryd.prog 45 #[.pointer (some ⟨g, 0, none⟩)] w fun e w' => e = .returned (str []) ∧ w' = w := by
  go_enter Tryd.func45, Tryd.ntmps45
  go_wp2_with (fail)
  go_ret
  exact ⟨rfl, rfl⟩

set_option maxHeartbeats 1000000 in
set_option maxRecDepth 100000 in
theorem take1 (g b o m c : Nat) (x : List UInt8) (F : List (List UInt8)) (w : World) (hS : Ss w (some ⟨b, o, none⟩) m c (x :: F)) (hc : w.cell? ⟨g, 0, none⟩ = some (.slice (some ⟨b, o, none⟩) m c)) (hf : w.frozen? ⟨g, 0, none⟩ = false) :
    Calls Tryd.prog 45 #[.pointer (some ⟨g, 0, none⟩)] w fun e w' => e = .returned (str x) ∧ w' = w.setCell ⟨g, 0, none⟩ (.slice (if c = 1 then some ⟨b, o, none⟩ else some ⟨b, o + 1, none⟩) (m - 1) (c - 1)) := by
  have hl := hS.len
  simp only [List.length_cons] at hl
  have hle := hS.le
  have hmx := hS.max
  obtain ⟨b', o', e, hb, hcl⟩ := hS.at_ (by omega)
  injection e with e
  injection e with e1 e2
  subst e1 e2
  have h0 := hcl 0 x rfl
  rw [Nat.add_zero] at h0
  have hm0 : 0 < m := by omega
  have hm1 : (1 : Int) ≤ (m : Int) := by omega
  have hmc : (m : Int) ≤ (c : Int) := by omega
  have HS := Lib.hid hS
  clear hS hcl hl
  by_cases hc1 : c = 1
  · subst hc1
    obtain rfl : m = 1 := by omega
    rw [if_pos rfl]
    go_enter Tryd.func45, Tryd.ntmps45
    go_wp2_with (fail)
    go_ret
    exact ⟨rfl, rfl⟩
  · rw [if_neg hc1]
    go_enter Tryd.func45, Tryd.ntmps45
    go_wp2_with (fail)
    go_ret
    exact ⟨rfl, rfl⟩

/-- an event, but for its bytes -/
abbrev evV (k n kp : Int) (dv : Value) : Value := .agg #[.int .i64 k, .int .i64 n, .int .i64 kp, dv]
abbrev evC (k n kp : Int) (dv : Value) : Array Value := #[.int .i64 k, .int .i64 n, .int .i64 kp, dv]
abbrev TE : TypeId := 24
abbrev rowV (s : ByteArray) (d n k : Bool) : Value := .agg #[.string s, .bool d, .bool n, .bool k]
/-- what fields tell -/
def fieldsE (d n k : Bool) (F : List (List UInt8)) : Option (List UInt8 × Int × Int) :=
  let r1 := if d = true then (bytesD (F.headD [])) else some []
  let F1 := if d = true then F.tail else F
  let r2 := if n = true then (numT (F1.headD [])) else (0, true)
  let F2 := if n = true then F1.tail else F1
  let r3 := if k = true then (numT (F2.headD [])) else (0, true)
  let F3 := if k = true then F2.tail else F2
  if r1.isSome = true ∧ r2.2 = true ∧ r3.2 = true ∧ F3 = [] then some (r1.getD [], r2.1, r3.1) else none
/-- what a call gives that answers an event and whether there is one -/
def RetEv (r : Option (List UInt8 × Int × Int)) (w : World) (e : Ending) (w' : World) : Prop :=
  (∃ k n kp A m c l, r = none ∧ e = .returned (.tuple #[evV k n kp (.slice A m c), .bool false]) ∧ Bs w' A m c l ∧ Below w.heap.size w w') ∨
  ∃ l n kp A m c, r = some (l, n, kp) ∧ e = .returned (.tuple #[evV 0 n kp (.slice A m c), .bool true]) ∧ Bs w' A m c l ∧ (∀ x, A = some x → w.heap.size ≤ x.block) ∧ Below w.heap.size w w'
/-- the four boxes of a call of read -/
structure RB (g0 g1 g2 g3 : Nat) (s : ByteArray) (d n k : Bool) (fv : Value) (ev : Array Value) (w : World) : Prop where
  h0 : w.heap[g0]? = some (.cells #[.string s, .bool d, .bool n, .bool k] 58)
  h1 : w.heap[g1]? = some (.cells #[fv] 61)
  h2 : w.heap[g2]? = some (.cells (evC 0 0 0 (.slice none 0 0)) TE)
  h3 : w.heap[g3]? = some (.cells ev TE)
  lt01 : g0 < g1
  lt12 : g1 < g2
  lt23 : g2 < g3
theorem RB.below {g0 g1 g2 g3 : Nat} {s : ByteArray} {d n k : Bool} {fv : Value} {ev : Array Value} {w w' : World} (h : RB g0 g1 g2 g3 s d n k fv ev w) (hb : Below w.heap.size w w') : RB g0 g1 g2 g3 s d n k fv ev w' :=
  have lt := fun (g : Nat) (o : Obj) (e : w.heap[g]? = some o) => (Array.getElem?_eq_some_iff.1 e).1
  ⟨(hb.block g0 (lt _ _ h.h0)).trans h.h0, (hb.block g1 (lt _ _ h.h1)).trans h.h1, (hb.block g2 (lt _ _ h.h2)).trans h.h2, (hb.block g3 (lt _ _ h.h3)).trans h.h3, h.lt01, h.lt12, h.lt23⟩
theorem heap_set_rowT {w : World} {g j : Nat} {C : Array Value} {t : TypeId} {fz : Nat × Nat} (h : w.heap[g]? = some (.cells C t fz)) (u : Value) : (w.setCell ⟨g, j, none⟩ u).heap[g]? = some (.cells (C.setIfInBounds j u) t fz) := by
  simp [World.setCell, Array.getElem?_modify, h]
theorem heap_set_other {w : World} {g g' j : Nat} (hne : g ≠ g') (u : Value) : (w.setCell ⟨g', j, none⟩ u).heap[g]? = w.heap[g]? := by
  simp only [World.setCell, Array.getElem?_modify]
  rw [if_neg (Ne.symm hne)]
theorem RB.setF {g0 g1 g2 g3 : Nat} {s : ByteArray} {d n k : Bool} {fv : Value} {ev : Array Value} {w : World} (h : RB g0 g1 g2 g3 s d n k fv ev w) (u : Value) : RB g0 g1 g2 g3 s d n k u ev (w.setCell ⟨g1, 0, none⟩ u) :=
  ⟨(heap_set_other (by have := h.lt01; omega) u).trans h.h0, heap_set_rowT h.h1 u, (heap_set_other (by have := h.lt12; omega) u).trans h.h2, (heap_set_other (by have := h.lt12; have := h.lt23; omega) u).trans h.h3, h.lt01, h.lt12, h.lt23⟩
theorem RB.setE {g0 g1 g2 g3 : Nat} {s : ByteArray} {d n k : Bool} {fv : Value} {ev : Array Value} {w : World} (h : RB g0 g1 g2 g3 s d n k fv ev w) (j : Nat) (u : Value) : RB g0 g1 g2 g3 s d n k fv (ev.setIfInBounds j u) (w.setCell ⟨g3, j, none⟩ u) :=
  ⟨(heap_set_other (by have := h.lt01; have := h.lt12; have := h.lt23; omega) u).trans h.h0, (heap_set_other (by have := h.lt12; have := h.lt23; omega) u).trans h.h1, (heap_set_other (by have := h.lt23; omega) u).trans h.h2, heap_set_rowT h.h3 u, h.lt01, h.lt12, h.lt23⟩
theorem heap_keep {w : World} {g : Nat} {o : Obj} (h : w.heap[g]? = some o) (o' : Obj) : (w.alloc o').heap[g]? = some o :=
  (((Below.refl _ w).alloc (Nat.le_refl _) o').block g (Array.getElem?_eq_some_iff.1 h).1).trans h
theorem RB.new (s : ByteArray) (d n k : Bool) (fv : Value) (w : World) : RB w.heap.size (w.heap.size + 1) (w.heap.size + 1 + 1) (w.heap.size + 1 + 1 + 1) s d n k fv (evC 0 0 0 (.slice none 0 0)) ((((w.alloc (.cells #[.string s, .bool d, .bool n, .bool k] 58)).alloc (.cells #[fv] 61)).alloc (.cells (evC 0 0 0 (.slice none 0 0)) TE)).alloc (.cells (evC 0 0 0 (.slice none 0 0)) TE)) := by
  have h0 := heap_alloc_new w (.cells #[.string s, .bool d, .bool n, .bool k] 58)
  have s0 := World.size_alloc w (.cells #[.string s, .bool d, .bool n, .bool k] 58)
  generalize w.alloc (.cells #[.string s, .bool d, .bool n, .bool k] 58) = w1 at *
  have h1 := heap_alloc_new w1 (.cells #[fv] 61)
  have s1 := World.size_alloc w1 (.cells #[fv] 61)
  have k0 := heap_keep h0 (.cells #[fv] 61)
  generalize w1.alloc (.cells #[fv] 61) = w2 at *
  have h2 := heap_alloc_new w2 (.cells (evC 0 0 0 (.slice none 0 0)) TE)
  have s2 := World.size_alloc w2 (.cells (evC 0 0 0 (.slice none 0 0)) TE)
  have k1 := heap_keep h1 (.cells (evC 0 0 0 (.slice none 0 0)) TE)
  have k00 := heap_keep k0 (.cells (evC 0 0 0 (.slice none 0 0)) TE)
  generalize w2.alloc (.cells (evC 0 0 0 (.slice none 0 0)) TE) = w3 at *
  have h3 := heap_alloc_new w3 (.cells (evC 0 0 0 (.slice none 0 0)) TE)
  rw [s0] at k1 s1
  rw [s1] at h2 s2
  rw [s2] at h3
  exact ⟨heap_keep k00 _, heap_keep k1 _, heap_keep h2 _, h3, by omega, by omega, by omega⟩
theorem frozen_row {w : World} {g j : Nat} {C : Array Value} {t : TypeId} (h : w.heap[g]? = some (.cells C t)) : w.frozen? ⟨g, j, none⟩ = false := by
  simp [World.frozen?, h]
theorem cell_set_other {w : World} {g g' o j : Nat} (hne : g ≠ g') (u : Value) : (w.setCell ⟨g', j, none⟩ u).cell? ⟨g, o, none⟩ = w.cell? ⟨g, o, none⟩ := by
  simp only [World.cell?, heap_set_other hne u]
theorem Bs.setOther {w : World} {A : Option Addr} {n c : Nat} {l : List UInt8} (h : Bs w A n c l) {g : Nat} (hne : ∀ b, A = some b → b.block ≠ g) (j : Nat) (u : Value) : Bs (w.setCell ⟨g, j, none⟩ u) A n c l := by
  refine ⟨h.1, h.2.1, h.2.2.1, fun hn => ?_⟩
  obtain ⟨b, o, e, hc⟩ := h.2.2.2 hn
  refine ⟨b, o, e, fun i x hx => ?_⟩
  rw [cell_set_other (hne _ e) u]
  exact hc i x hx
theorem Bs.fin {w : World} {A : Option Addr} {n c : Nat} {l : List UInt8} (h : Bs w A n c l) {g2 g3 : Nat} (hlow : ∀ b, A = some b → g3 < b.block) (l3 : g2 < g3) (a b d e : Value) : Bs ((((w.setCell ⟨g2, 0, none⟩ a).setCell ⟨g2, 1, none⟩ b).setCell ⟨g2, 2, none⟩ d).setCell ⟨g2, 3, none⟩ e) A n c l :=
  have hne : ∀ b, A = some b → b.block ≠ g2 := fun b hb => by have := hlow b hb; omega
  (((h.setOther hne 0 a).setOther hne 1 b).setOther hne 2 d).setOther hne 3 e
theorem size_txt (x : List UInt8) : (txt x).size = x.length := by simp [ByteArray.size]
theorem ev_size : (Tryd.prog.info? TE).map (·.size) = some 4 := by kernel_rfl
theorem resultsE {fn : Func} {p u : Tmp} (hf : fn.results = #[.cell p TE, .tmp u]) (tmps : Array Value) (w : World) (g : Nat) (k n kp : Int) (A : Option Addr) (m c : Nat) (z : Value)
    (hp : tmps.getD p undef = .pointer (some ⟨g, 0, none⟩)) (hz : tmps.getD u undef = z) (h : w.heap[g]? = some (.cells (evC k n kp (.slice A m c)) TE)) : (results fn tmps).run Tryd.prog w = .ok (.tuple #[evV k n kp (.slice A m c), z]) w := by
  rw [results_cell_tmp hf, hp, hz]
  simp only [asAddr]
  rw [show (pure (⟨g, 0, none⟩ : Addr) : Sem Addr).run Tryd.prog w = .ok ⟨g, 0, none⟩ w from rfl]
  simp only [Result.andThen_ok]
  rw [run_loadVar_row w g TE TE (evC k n kp (.slice A m c)) (0, 0) _ h Tryd.underlying24 rfl ev_size]
  rfl
theorem finish_heap {w : World} {g2 : Nat} {k n kp : Int} {dv : Value} {z : Array Value} (h : w.heap[g2]? = some (.cells z TE)) (hz : z.size = 4) :
    ((((w.setCell ⟨g2, 0, none⟩ (.int .i64 k)).setCell ⟨g2, 1, none⟩ (.int .i64 n)).setCell ⟨g2, 2, none⟩ (.int .i64 kp)).setCell ⟨g2, 3, none⟩ dv).heap[g2]? = some (.cells (evC k n kp dv) TE) := by
  rw [heap_set_rowT (heap_set_rowT (heap_set_rowT (heap_set_rowT h _) _) _) _]
  obtain ⟨l⟩ := z
  match l, hz with
  | [a, b, c, d], _ => rfl
end Go.Proofs.YtnoppnnpennddaaDoor
