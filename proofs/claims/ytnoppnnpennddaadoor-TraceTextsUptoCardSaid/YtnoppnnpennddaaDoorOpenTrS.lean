/- An argument that is a row of steps. -/
import Derived.Test.YtnoppnnpennddaaDoorOpenTrE
import Derived.Test.YtnoppnnpennddaaDoorTrS
import Derived.Deep.Slices
import Derived.Deep.Fields
import Derived.ChangeSame
namespace Go.Proofs.YtnoppnnpennddaaDoor
open Go.RowKit Go.ChangeShapes Go.WideShapes Go.Deep

section
variable {H : Type}
theorem bulk_one (d : DataW H) : 1 ≤ Rows.uptoBulk d := by
  cases d with
  | lit l => cases l <;> simp [Rows.uptoBulk]
  | nil => simp [Rows.uptoBulk]
  | ptr d => simp [Rows.uptoBulk]
  | slice a b => simp [Rows.uptoBulk]
  | agg a => simp [Rows.uptoBulk]
  | iface t d => simp [Rows.uptoBulk]
  | map e => simp [Rows.uptoBulk]
  | held x => simp [Rows.uptoBulk]
theorem bulk_len : ∀ ds : List (DataW H), ds.length ≤ Rows.uptoBulkAll ds
  | [] => by simp
  | d :: r => by have := bulk_len r; have := bulk_one d; simp only [Rows.uptoBulkAll, List.length_cons]; omega
theorem bulk_mem : ∀ {ds : List (DataW H)} {d : DataW H}, d ∈ ds → Rows.uptoBulk d ≤ Rows.uptoBulkAll ds
  | [], _, h => by cases h
  | d0 :: r, d, h => by
    simp only [Rows.uptoBulkAll]
    rcases List.mem_cons.1 h with rfl | h
    · omega
    · have := bulk_mem h; omega
end
theorem cellsOut : Tryd.prog.cellsOf 56 = 2 := by kernel_rfl
theorem cellsStepT : Tryd.prog.cellsOf 38 = 6 := by kernel_rfl
theorem cellsOuts : Tryd.prog.cellsOf 36 = 1 := by kernel_rfl
section
variable {H : Type} {enc : TypeId × Value → H} {W : World} {n : Nat} {y : DataW H} {p : List MemPlace}
set_option maxRecDepth 100000 in
/-- the bytes of a part, and how many -/
theorem open_partB {v : Value} (h : DataW.trod enc Tryd.prog W 0 (fun _ => true) true n 22 [v] = some (y, p)) : ∃ A m c l, v = .slice A m c ∧ Bs W A m c l ∧ l.length ≤ Rows.uptoBulk y := by
  rcases open_ints Tryd.underlying22 Tryd.underlying5 cellsByte h with ⟨hcs, _⟩ | ⟨x, l, c, zs, hcs, _, hl, hm, hz, hx, hcell, hwz⟩
  · simp at hcs
    exact ⟨_, _, _, [], hcs, Bs.none_ W, by simp⟩
  · obtain ⟨A, m, c', l', e, hB⟩ := open_part h
    refine ⟨A, m, c', l', e, hB, ?_⟩
    rw [hB.len]
    simp at hcs
    rw [hcs] at e
    injection e with e1 e2 e3
    simp only [if_true] at hz
    simp only [Prod.mk.injEq] at hx
    rw [hx.1]
    have h1 := bulk_len (lits (H := H) .u8 (zs.take l))
    simp only [lits, List.length_map, List.length_take] at h1
    simp only [Rows.uptoBulk, lits] at h1 ⊢
    omega
set_option maxRecDepth 100000 in
theorem open_evcsB {v0 v1 v2 v3 : Value}
    (h : DataW.trod enc Tryd.prog W 0 (fun _ => true) true n 24 [v0, v1, v2, v3] = some (y, p)) : ∃ k n kp A m c l, v0 = .int .i64 k ∧ v1 = .int .i64 n ∧ v2 = .int .i64 kp ∧ v3 = .slice A m c ∧ Bs W A m c l ∧ (Lit.int .i64 n).wf = true ∧ (Lit.int .i64 kp).wf = true ∧ l.length ≤ Rows.uptoBulk y := by
  obtain ⟨xs, m, _, hx, hl, hn, hi⟩ := DataW.trod_struct Tryd.underlying24 h
  have h0 := hi 0 _ rfl
  have h1 := hi 1 _ rfl
  have h2 := hi 2 _ rfl
  have h3 := hi 3 _ rfl
  match xs, hn with
  | [x0, x1, x2, x3], _ =>
    simp only [List.getElem_toArray, List.getElem_cons_zero, List.getElem_cons_succ, cellsIntT, cellsBytesT] at h0 h1 h2 h3
    obtain ⟨n0, e0, _, w0⟩ := DataW.trod_int Tryd.underlying3 h0
    obtain ⟨n1, e1, _, w1⟩ := DataW.trod_int Tryd.underlying3 h1
    obtain ⟨n2, e2, _, w2⟩ := DataW.trod_int Tryd.underlying3 h2
    obtain ⟨A, q, c, l, e3, hB, hln⟩ := open_partB (y := x3.1) (p := x3.2) h3
    simp at e0 e1 e2
    simp only [Prod.mk.injEq] at hx
    have hm := bulk_mem (ds := [x0, x1, x2, x3].map (·.1)) (d := x3.1) (by simp)
    refine ⟨n0, n1, n2, A, q, c, l, e0, e1, e2, e3, hB, w1, w2, ?_⟩
    rw [hx.1]
    simp only [Rows.uptoBulk]
    omega
set_option maxRecDepth 100000 in
theorem open_outcs {v0 v1 : Value} (h : DataW.trod enc Tryd.prog W 0 (fun _ => true) true n 56 [v0, v1] = some (y, p)) :
    ∃ (x : TOut) (A : Option Addr) (m c : Nat), v0 = .bool x.back ∧ v1 = .slice A m c ∧ Bs W A m c x.l ∧ x.l.length ≤ Rows.uptoBulk y := by
  obtain ⟨xs, m, _, hx, hl, hn, hi⟩ := DataW.trod_struct Tryd.underlying56 h
  have h0 := hi 0 _ rfl
  have h1 := hi 1 _ rfl
  match xs, hn with
  | [x0, x1], _ =>
    simp only [List.getElem_toArray, List.getElem_cons_zero, List.getElem_cons_succ, cellsBoolT, cellsBytesT] at h0 h1
    obtain ⟨b, e0, _⟩ := DataW.trod_bool Tryd.underlying4 h0
    obtain ⟨A, q, c, l, e1, hB, hln⟩ := open_partB (y := x1.1) (p := x1.2) h1
    simp at e0
    simp only [Prod.mk.injEq] at hx
    have hm := bulk_mem (ds := [x0, x1].map (·.1)) (d := x1.1) (by simp)
    refine ⟨⟨b, l⟩, A, q, c, e0, e1, hB, ?_⟩
    rw [hx.1]
    simp only [Rows.uptoBulk]
    omega
open Classical in
set_option maxRecDepth 100000 in
theorem open_outs {v : Value} (h : DataW.trod enc Tryd.prog W 0 (fun _ => true) true n 36 [v] = some (y, p)) :
    ∃ A m c L, v = .slice A m c ∧ TOs W A m c L ∧ m ≤ Rows.uptoBulk y ∧ ∀ o ∈ L, o.l.length ≤ Rows.uptoBulk y := by
  rcases open_slice Tryd.underlying36 h with ⟨hcs, hx⟩ | ⟨a, len, cap, m, n', D, Pl, hcs, _, hl, hm, hmm, hx, hi⟩
  · exact ⟨_, _, _, [], List.head_eq_of_cons_eq hcs, ⟨rfl, by omega, by simp [maxLen], fun h0 => by omega⟩, by omega, fun o ho => by cases ho⟩
  · have hv := List.head_eq_of_cons_eq hcs
    simp only [if_true] at hmm
    subst hmm
    simp only [Prod.mk.injEq] at hx
    have hbulk : Rows.uptoBulkAll ((List.range len).map D) ≤ Rows.uptoBulk y := by
      rw [hx.1]
      simp only [Rows.uptoBulk]
      omega
    have hlen : len ≤ Rows.uptoBulk y := by
      have := bulk_len ((List.range len).map D)
      simp only [List.length_map, List.length_range] at this
      omega
    have key : ∀ i, ∃ x : TOut, i < len → (∃ A q c, W.cell? (a.add (i * 2)) = some (.bool x.back) ∧ W.cell? ((a.add (i * 2)).add 1) = some (.slice A q c) ∧ Bs W A q c x.l) ∧ x.l.length ≤ Rows.uptoBulk y := by
      intro i
      by_cases hil : i < len
      · obtain ⟨cs', hc, ht'⟩ := hi i (by omega)
        rw [cellsOut] at hc
        obtain ⟨_, hcl, hat⟩ := World.cells?_some hc
        match cs', hcl with
        | [v0, v1], _ =>
          obtain ⟨x, A, q, c, rfl, rfl, hB, hln⟩ := open_outcs ht'
          have g0 := hat 0 (by omega)
          have g1 := hat 1 (by omega)
          refine ⟨x, fun _ => ⟨⟨A, q, c, ?_, ?_, hB⟩, ?_⟩⟩
          · rw [Go.Deep.add_add] at g0
            simpa using g0
          · simpa using g1
          · have := bulk_mem (ds := (List.range len).map D) (d := D i) (List.mem_map.2 ⟨i, List.mem_range.2 hil, rfl⟩)
            omega
      · exact ⟨⟨false, []⟩, fun h => absurd h hil⟩
    refine ⟨_, _, _, (List.range len).map fun i => Classical.choose (key i), hv, ⟨by simp, hl, hm, fun h0 => ?_⟩, hlen, fun o ho => ?_⟩
    · obtain ⟨⟨A, q, c, c0, _⟩, _⟩ := Classical.choose_spec (key 0) h0
      obtain ⟨b, o, s⟩ := a
      have hs : s = none := by simpa [Addr.add] using World.cell?_spot c0
      subst hs
      refine ⟨b, o, rfl, fun i x hx' => ?_⟩
      rw [List.getElem?_map] at hx'
      have hil : i < len := by
        rcases Nat.lt_or_ge i len with h | h
        · exact h
        · rw [List.getElem?_eq_none (by simpa using h)] at hx'; cases hx'
      rw [List.getElem?_range hil] at hx'
      simp only [Option.map_some, Option.some.injEq] at hx'
      subst hx'
      have hsp := Classical.choose_spec (key i) hil
      generalize Classical.choose (key i) = x at hsp ⊢
      obtain ⟨⟨A, q, c, c0, c1, hB⟩, _⟩ := hsp
      rw [Addr.add_lit] at c0 c1
      rw [Addr.add_lit] at c1
      exact ⟨c0, A, q, c, c1, hB⟩
    · obtain ⟨i, hi', rfl⟩ := List.mem_map.1 ho
      exact (Classical.choose_spec (key i) (List.mem_range.1 hi')).2
set_option maxRecDepth 100000 in
theorem open_stepcs {v0 v1 v2 v3 v4 v5 : Value} (h : DataW.trod enc Tryd.prog W 0 (fun _ => true) true n 38 [v0, v1, v2, v3, v4, v5] = some (y, p)) :
    ∃ x : TStep, (v0 = .int .i64 x.k ∧ v1 = .int .i64 x.n ∧ v2 = .int .i64 x.kp ∧ (∃ A m c, v3 = .slice A m c ∧ Bs W A m c x.l) ∧ (∃ A m c, v4 = .slice A m c ∧ TOs W A m c x.outs) ∧ v5 = .bool x.cr) ∧ (Rows.uptoBulk y ≤ 1048576 → x.Fits) := by
  obtain ⟨xs, m, _, hx, hl, hn, hi⟩ := DataW.trod_struct Tryd.underlying38 h
  have h0 := hi 0 _ rfl
  have h1 := hi 1 _ rfl
  have h2 := hi 2 _ rfl
  match xs, hn with
  | [x0, x1, x2], _ =>
    simp only [List.getElem_toArray, List.getElem_cons_zero, List.getElem_cons_succ, cellsEv, cellsOuts, cellsBoolT] at h0 h1 h2
    obtain ⟨k, n', kp, A, q, c, l, e0, e1, e2, e3, hB, wn, wk, hln⟩ := open_evcsB (y := x0.1) (p := x0.2) h0
    obtain ⟨A4, m4, c4, L, e4, hO, hlo, hlo2⟩ := open_outs (y := x1.1) (p := x1.2) h1
    obtain ⟨b, e5, _⟩ := DataW.trod_bool Tryd.underlying4 h2
    simp at e5
    simp only [Prod.mk.injEq] at hx
    have hm0 := bulk_mem (ds := [x0, x1, x2].map (·.1)) (d := x0.1) (by simp)
    have hm1 := bulk_mem (ds := [x0, x1, x2].map (·.1)) (d := x1.1) (by simp)
    have hbk : Rows.uptoBulkAll ([x0, x1, x2].map (·.1)) ≤ Rows.uptoBulk y := by
      rw [hx.1]
      simp only [Rows.uptoBulk]
      omega
    refine ⟨⟨k, n', kp, l, L, b⟩, ⟨e0, e1, e2, ⟨A, q, c, e3, hB⟩, ⟨A4, m4, c4, e4, hO⟩, e5⟩, fun hu => ⟨?_, ?_, ?_, ?_, fun o ho => ?_⟩⟩
    · simpa [Lit.wf, IntKind.min, IntKind.max, IntKind.signed, IntKind.bits] using wn
    · simpa [Lit.wf, IntKind.min, IntKind.max, IntKind.signed, IntKind.bits] using wk
    · show l.length ≤ _
      omega
    · show L.length ≤ _
      have := hO.1
      omega
    · have := hlo2 o ho
      omega
end
open Classical in
set_option maxRecDepth 100000 in
theorem open_tsteps {H : Type} {enc : TypeId × Value → H} {W : World} {A : Option Addr} {len cap : Nat} {d : DataW H} {p : List MemPlace}
    (h : DataW.Trod enc Tryd.prog W 0 (fun _ => true) true 39 (.slice A len cap) d p) : ∃ L, Sts W A len cap L ∧ (Rows.uptoBulk d ≤ 1048576 → len ≤ 1048576 ∧ ∀ x ∈ L, x.Fits) := by
  obtain ⟨fuel, hf⟩ := h
  rcases open_slice Tryd.underlying39 hf with ⟨hcs, hx⟩ | ⟨a, len', cap', m, n', D, Pl, hcs, _, hl, hm, hmm, hx, hi⟩
  · simp [Value.cells] at hcs
    obtain ⟨rfl, rfl, rfl⟩ := hcs
    exact ⟨[], ⟨rfl, by omega, by simp [maxLen], fun h0 => by omega⟩, fun _ => ⟨by omega, fun o ho => by cases ho⟩⟩
  · simp [Value.cells] at hcs
    obtain ⟨rfl, rfl, rfl⟩ := hcs
    simp only [if_true] at hmm
    subst hmm
    simp only [Prod.mk.injEq] at hx
    have hbulk : Rows.uptoBulkAll ((List.range len).map D) ≤ Rows.uptoBulk d := by
      rw [hx.1]
      simp only [Rows.uptoBulk]
      omega
    have hlen : len ≤ Rows.uptoBulk d := by
      have := bulk_len ((List.range len).map D)
      simp only [List.length_map, List.length_range] at this
      omega
    have key : ∀ i, ∃ x : TStep, i < len → (W.cell? (a.add (i * 6)) = some (.int .i64 x.k) ∧ W.cell? ((a.add (i * 6)).add 1) = some (.int .i64 x.n) ∧ W.cell? ((a.add (i * 6)).add 2) = some (.int .i64 x.kp) ∧ (∃ A m c, W.cell? ((a.add (i * 6)).add 3) = some (.slice A m c) ∧ Bs W A m c x.l) ∧ (∃ A m c, W.cell? ((a.add (i * 6)).add 4) = some (.slice A m c) ∧ TOs W A m c x.outs) ∧ W.cell? ((a.add (i * 6)).add 5) = some (.bool x.cr)) ∧ (Rows.uptoBulk d ≤ 1048576 → x.Fits) := by
      intro i
      by_cases hil : i < len
      · obtain ⟨cs', hc, ht'⟩ := hi i (by omega)
        rw [cellsStepT] at hc
        obtain ⟨_, hcl, hat⟩ := World.cells?_some hc
        match cs', hcl with
        | [v0, v1, v2, v3, v4, v5], _ =>
          obtain ⟨x, ⟨rfl, rfl, rfl, ⟨A3, m3, c3, rfl, hB⟩, ⟨A4, m4, c4, rfl, hO⟩, rfl⟩, hfit⟩ := open_stepcs ht'
          have g0 := hat 0 (by omega)
          have g1 := hat 1 (by omega)
          have g2 := hat 2 (by omega)
          have g3 := hat 3 (by omega)
          have g4 := hat 4 (by omega)
          have g5 := hat 5 (by omega)
          rw [Go.Deep.add_add] at g0
          refine ⟨x, fun _ => ⟨⟨by simpa using g0, by simpa using g1, by simpa using g2, ⟨A3, m3, c3, by simpa using g3, hB⟩, ⟨A4, m4, c4, by simpa using g4, hO⟩, by simpa using g5⟩, fun hu => hfit ?_⟩⟩
          have := bulk_mem (ds := (List.range len).map D) (d := D i) (List.mem_map.2 ⟨i, List.mem_range.2 hil, rfl⟩)
          omega
      · exact ⟨⟨0, 0, 0, [], [], false⟩, fun h => absurd h hil⟩
    refine ⟨(List.range len).map fun i => Classical.choose (key i), ⟨by simp, hl, hm, fun h0 => ?_⟩, fun hu => ⟨by omega, fun o ho => ?_⟩⟩
    · obtain ⟨⟨c0, _⟩, _⟩ := Classical.choose_spec (key 0) h0
      obtain ⟨b, o, s⟩ := a
      have hs : s = none := by simpa [Addr.add] using World.cell?_spot c0
      subst hs
      refine ⟨b, o, rfl, fun i x hx' => ?_⟩
      rw [List.getElem?_map] at hx'
      have hil : i < len := by
        rcases Nat.lt_or_ge i len with h | h
        · exact h
        · rw [List.getElem?_eq_none (by simpa using h)] at hx'; cases hx'
      rw [List.getElem?_range hil] at hx'
      simp only [Option.map_some, Option.some.injEq] at hx'
      subst hx'
      have hsp := Classical.choose_spec (key i) hil
      generalize Classical.choose (key i) = x at hsp ⊢
      obtain ⟨⟨c0, c1, c2, ⟨A3, m3, k3, c3, hB⟩, ⟨A4, m4, k4, c4, hO⟩, c5⟩, _⟩ := hsp
      rw [Addr.add_lit] at c0 c1 c2 c3 c4 c5
      rw [Addr.add_lit] at c1 c2 c3 c4 c5
      exact ⟨c0, c1, c2, ⟨A3, m3, k3, c3, hB⟩, ⟨A4, m4, k4, c4, hO⟩, c5⟩
    · obtain ⟨i, hi', rfl⟩ := List.mem_map.1 ho
      exact (Classical.choose_spec (key i) (List.mem_range.1 hi')).2 hu
end Go.Proofs.YtnoppnnpennddaaDoor
