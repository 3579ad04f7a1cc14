/- An argument that is an event. -/
import Derived.Test.YtnoppnnpennddaaDoorOpenTrN
namespace Go.Proofs.YtnoppnnpennddaaDoor
open Go.RowKit Go.ChangeShapes Go.WideShapes

theorem cellsEv : Tryd.prog.cellsOf 24 = 4 := by kernel_rfl
theorem cellsIntT : Tryd.prog.cellsOf 3 = 1 := by kernel_rfl
theorem cellsBytesT : Tryd.prog.cellsOf 22 = 1 := by kernel_rfl
set_option maxRecDepth 100000 in
/-- the bytes of a part -/
theorem open_part {H : Type} {enc : TypeId × Value → H} {W : World} {n : Nat} {v : Value} {y : DataW H} {p : List MemPlace}
    (h : DataW.trod enc Tryd.prog W 0 (fun _ => true) true n 22 [v] = some (y, p)) : ∃ A m c l, v = .slice A m c ∧ Bs W A m c l := by
  rcases open_ints Tryd.underlying22 Tryd.underlying5 cellsByte h with ⟨hcs, _⟩ | ⟨x, l, c, zs, hcs, _, hl, hm, hz, hx, hcell, hwz⟩
  · simp at hcs
    exact ⟨_, _, _, [], hcs, Bs.none_ W⟩
  · simp at hcs
    simp only [if_true] at hz
    refine ⟨_, _, _, (zs.take l).map fun z => UInt8.ofNat z.toNat, hcs, ⟨by rw [List.length_map, List.length_take]; omega, hl, hm, fun hn => ?_⟩⟩
    have h0 := hcell 0 (by omega)
    obtain ⟨b, off, spot⟩ := x
    have hspot : spot = none := by simpa [Addr.add] using World.cell?_spot h0
    subst hspot
    refine ⟨b, off, rfl, fun i y hy => ?_⟩
    rw [List.getElem?_map, List.getElem?_take] at hy
    split at hy
    · rename_i hi
      have hiz : i < zs.length := by omega
      rw [List.getElem?_eq_getElem hiz] at hy
      simp only [Option.map_some, Option.some.injEq] at hy
      subst hy
      have hc := hcell i hiz
      rw [Addr.add_lit] at hc
      rw [hc]
      simp only [List.getD, List.getElem?_eq_getElem hiz, Option.getD_some]
      show _ = some (Value.int IntKind.u8 _)
      rw [byte_back (hwz _ (List.getElem_mem hiz))]
    · cases hy
set_option maxRecDepth 100000 in
/-- the parts of an event -/
theorem open_evcs {H : Type} {enc : TypeId × Value → H} {W : World} {n : Nat} {v0 v1 v2 v3 : Value} {y : DataW H} {p : List MemPlace}
    (h : DataW.trod enc Tryd.prog W 0 (fun _ => true) true n 24 [v0, v1, v2, v3] = some (y, p)) : ∃ k n kp A m c l, v0 = .int .i64 k ∧ v1 = .int .i64 n ∧ v2 = .int .i64 kp ∧ v3 = .slice A m c ∧ Bs W A m c l ∧ (Lit.int .i64 k).wf = true ∧ (Lit.int .i64 n).wf = true ∧ (Lit.int .i64 kp).wf = true := by
  obtain ⟨xs, m, _, hx, hl, hn, hi⟩ := DataW.trod_struct Tryd.underlying24 h
  have h0 := hi 0 _ rfl
  have h1 := hi 1 _ rfl
  have h2 := hi 2 _ rfl
  have h3 := hi 3 _ rfl
  match xs, hn with
  | [x0, x1, x2, x3], _ =>
    simp only [List.getElem_toArray, List.getElem_cons_zero, List.getElem_cons_succ, cellsIntT, cellsBytesT] at h0 h1 h2 h3
    obtain ⟨n0, e0, _, w0⟩ := DataW.trod_int Tryd.underlying3 h0
    obtain ⟨n1, e1, _, w1⟩ := DataW.trod_int Tryd.underlying3 h1
    obtain ⟨n2, e2, _, w2⟩ := DataW.trod_int Tryd.underlying3 h2
    obtain ⟨A, q, c, l, e3, hB⟩ := open_part (y := x3.1) (p := x3.2) h3
    simp at e0 e1 e2
    exact ⟨n0, n1, n2, A, q, c, l, e0, e1, e2, e3, hB, w0, w1, w2⟩
set_option maxRecDepth 100000 in
theorem open_event {H : Type} {enc : TypeId × Value → H} {W : World} {base : Nat} {v : Value} {d : DataW H} {p : List MemPlace} (ok : Value.okWide Tryd.prog W .any base 24 v)
    (h : DataW.Trod enc Tryd.prog W 0 (fun _ => true) true 24 v d p) : ∃ k n kp A m c l, v = evV k n kp (.slice A m c) ∧ Bs W A m c l ∧ (Lit.int .i64 k).wf = true ∧ (Lit.int .i64 n).wf = true ∧ (Lit.int .i64 kp).wf = true := by
  simp only [Value.okWide, Tryd.underlying24] at ok
  obtain ⟨cs, rfl, hsz, _⟩ := ok
  obtain ⟨fuel, hf⟩ := h
  have hl : cs.size = 4 := by
    obtain ⟨xs, m, _, hx, hl, hn, hi⟩ := DataW.trod_struct Tryd.underlying24 hf
    simpa [Value.cells, cellsEv] using hl
  obtain ⟨l⟩ := cs
  match l, hl with
  | [v0, v1, v2, v3], _ =>
    obtain ⟨k, n, kp, A, m, c, l, rfl, rfl, rfl, rfl, hB, a, b, e⟩ := open_evcs (y := d) (p := p) hf
    exact ⟨k, n, kp, A, m, c, l, rfl, hB, a, b, e⟩
end Go.Proofs.YtnoppnnpennddaaDoor
