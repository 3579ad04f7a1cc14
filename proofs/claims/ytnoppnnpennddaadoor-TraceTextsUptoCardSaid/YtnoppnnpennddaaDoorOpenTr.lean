/- The table of rows as the statement lays it. -/
import Derived.Test.YtnoppnnpennddaaDoorOpen
import Derived.Test.YtnoppnnpennddaaDoorTr4
import Derived.Lib.LaidTab
namespace Go.Proofs.YtnoppnnpennddaaDoor
open Go.RowKit Go.ChangeShapes Go.WideShapes

theorem cellsRowT : Tryd.prog.cellsOf 58 = 4 := by kernel_rfl
theorem cellsRows : Tryd.prog.cellsOf 59 = 36 := by kernel_rfl
theorem cellsStrT : Tryd.prog.cellsOf 9 = 1 := by kernel_rfl
theorem cellsBoolT : Tryd.prog.cellsOf 4 = 1 := by kernel_rfl
theorem gRows : Tryd.prog.globalNamed "lamplighter/trace.rows" = some 0 := by kernel_rfl
theorem gtRows : (Tryd.prog.globals[0]?).map (·.type) = some 59 := by kernel_rfl
theorem ba_of_listT {s : ByteArray} {l : List UInt8} (h : s.data.toList = l) : s = ⟨l.toArray⟩ := by
  subst h
  apply ByteArray.ext
  simp
theorem four_more {l : List Value} {n : Nat} (h : l.length = n + 4) : ∃ a b c d r, l = a :: b :: c :: d :: r ∧ r.length = n := by
  match l, h with
  | a :: b :: c :: d :: r, h => exact ⟨a, b, c, d, r, rfl, by simpa using h⟩
/-- the parts of a row -/
theorem open_row {H : Type} {enc : TypeId × Value → H} {W : World} {base : Nat} {spare : Nat → Bool} {held : Bool} {n : Nat} {v0 v1 v2 v3 : Value} {y : DataW H} {p : List MemPlace}
    (h : DataW.trod enc Tryd.prog W base spare held n 58 [v0, v1, v2, v3] = some (y, p)) : ∃ (s : ByteArray) (a b c : Bool), v0 = .string s ∧ v1 = .bool a ∧ v2 = .bool b ∧ v3 = .bool c ∧ y = .agg [.lit (.string s.data.toList), .lit (.bool a), .lit (.bool b), .lit (.bool c)] := by
  obtain ⟨xs, m, _, hx, hl, hn, hi⟩ := DataW.trod_struct Tryd.underlying58 h
  have h0 := hi 0 _ rfl
  have h1 := hi 1 _ rfl
  have h2 := hi 2 _ rfl
  have h3 := hi 3 _ rfl
  simp only [Prod.mk.injEq] at hx
  match xs, hn with
  | [x0, x1, x2, x3], _ =>
    simp only [List.getElem_toArray, List.getElem_cons_zero, List.getElem_cons_succ, cellsStrT, cellsBoolT] at h0 h1 h2 h3
    obtain ⟨s, e0, rfl, _⟩ := DataW.trod_string Tryd.underlying9 h0
    obtain ⟨a, e1, rfl⟩ := DataW.trod_bool Tryd.underlying4 h1
    obtain ⟨b, e2, rfl⟩ := DataW.trod_bool Tryd.underlying4 h2
    obtain ⟨c, e3, rfl⟩ := DataW.trod_bool Tryd.underlying4 h3
    simp at e0 e1 e2 e3 hx
    exact ⟨s, a, b, c, e0, e1, e2, e3, hx.1⟩
set_option maxHeartbeats 2000000 in
set_option maxRecDepth 100000 in
theorem rows_of_laid {W : World} {rest : List (String × DataW Unit)} (h : laidMet Tryd.prog (("lamplighter/trace.rows", Rows.laid_lamplighter_trace_rows) :: rest) W) : TRows W := by
  obtain ⟨ps, ⟨g', t', cs, fuel, p, q, hg', ht', hvar, hd, _, _⟩, _⟩ := h
  obtain rfl := Option.some.inj (gRows.symm.trans hg')
  obtain rfl := Option.some.inj (gtRows.symm.trans ht')
  have hheap : ∃ t fr, W.heap[0]? = some (.cells cs t fr) := by
    simp only [World.var?, gRows, Option.bind_some] at hvar
    split at hvar
    · rename_i cs' t' fr' hh
      obtain rfl := Option.some.inj hvar
      exact ⟨t', fr', hh⟩
    · cases hvar
  obtain ⟨t, fr, hheap⟩ := hheap
  refine ⟨t, fr, ?_⟩
  rw [hheap]
  obtain ⟨xs, m, _, hx, hl, hn, hi⟩ := DataW.trod_array Tryd.underlying59 hd
  obtain ⟨l⟩ := cs
  simp only [Prod.mk.injEq] at hx hl hi
  have h0 := hi 0 (by omega)
  have h1 := hi 1 (by omega)
  have h2 := hi 2 (by omega)
  have h3 := hi 3 (by omega)
  have h4 := hi 4 (by omega)
  have h5 := hi 5 (by omega)
  have h6 := hi 6 (by omega)
  have h7 := hi 7 (by omega)
  have h8 := hi 8 (by omega)
  rw [cellsRowT] at h0 h1 h2 h3 h4 h5 h6 h7 h8
  rw [cellsRows] at hl
  match xs, hn with
  | [(y0, p0), (y1, p1), (y2, p2), (y3, p3), (y4, p4), (y5, p5), (y6, p6), (y7, p7), (y8, p8)], _ =>
      obtain ⟨v0, v1, v2, v3, r0, rfl, hl0⟩ := four_more (hl)
      obtain ⟨v4, v5, v6, v7, r1, rfl, hl1⟩ := four_more (hl0)
      obtain ⟨v8, v9, v10, v11, r2, rfl, hl2⟩ := four_more (hl1)
      obtain ⟨v12, v13, v14, v15, r3, rfl, hl3⟩ := four_more (hl2)
      obtain ⟨v16, v17, v18, v19, r4, rfl, hl4⟩ := four_more (hl3)
      obtain ⟨v20, v21, v22, v23, r5, rfl, hl5⟩ := four_more (hl4)
      obtain ⟨v24, v25, v26, v27, r6, rfl, hl6⟩ := four_more (hl5)
      obtain ⟨v28, v29, v30, v31, r7, rfl, hl7⟩ := four_more (hl6)
      obtain ⟨v32, v33, v34, v35, r8, rfl, hl8⟩ := four_more (hl7)
      obtain rfl := List.eq_nil_of_length_eq_zero hl8
      simp only [List.drop_succ_cons, List.drop_zero, List.take_succ_cons, List.take_zero, Nat.reduceMul, List.getElem?_cons_zero, List.getElem?_cons_succ] at h0 h1 h2 h3 h4 h5 h6 h7 h8
      obtain ⟨s0, a0, b0, c0, rfl, rfl, rfl, rfl, e0⟩ := open_row h0
      obtain ⟨s1, a1, b1, c1, rfl, rfl, rfl, rfl, e1⟩ := open_row h1
      obtain ⟨s2, a2, b2, c2, rfl, rfl, rfl, rfl, e2⟩ := open_row h2
      obtain ⟨s3, a3, b3, c3, rfl, rfl, rfl, rfl, e3⟩ := open_row h3
      obtain ⟨s4, a4, b4, c4, rfl, rfl, rfl, rfl, e4⟩ := open_row h4
      obtain ⟨s5, a5, b5, c5, rfl, rfl, rfl, rfl, e5⟩ := open_row h5
      obtain ⟨s6, a6, b6, c6, rfl, rfl, rfl, rfl, e6⟩ := open_row h6
      obtain ⟨s7, a7, b7, c7, rfl, rfl, rfl, rfl, e7⟩ := open_row h7
      obtain ⟨s8, a8, b8, c8, rfl, rfl, rfl, rfl, e8⟩ := open_row h8
      subst e0 e1 e2 e3 e4 e5 e6 e7 e8
      simp only [Rows.laid_lamplighter_trace_rows, List.map_cons, List.map_nil, DataW.agg.injEq, List.cons.injEq, and_true, DataW.lit.injEq, Lit.string.injEq, Lit.bool.injEq] at hx
      obtain ⟨⟨⟨z0, j0, k0, l0⟩, ⟨z1, j1, k1, l1⟩, ⟨z2, j2, k2, l2⟩, ⟨z3, j3, k3, l3⟩, ⟨z4, j4, k4, l4⟩, ⟨z5, j5, k5, l5⟩, ⟨z6, j6, k6, l6⟩, ⟨z7, j7, k7, l7⟩, ⟨z8, j8, k8, l8⟩⟩, _⟩ := hx
      subst j0 k0 l0 j1 k1 l1 j2 k2 l2 j3 k3 l3 j4 k4 l4 j5 k5 l5 j6 k6 l6 j7 k7 l7 j8 k8 l8
      obtain rfl := ba_of_listT z0.symm
      obtain rfl := ba_of_listT z1.symm
      obtain rfl := ba_of_listT z2.symm
      obtain rfl := ba_of_listT z3.symm
      obtain rfl := ba_of_listT z4.symm
      obtain rfl := ba_of_listT z5.symm
      obtain rfl := ba_of_listT z6.symm
      obtain rfl := ba_of_listT z7.symm
      obtain rfl := ba_of_listT z8.symm
      rfl
theorem laid_tailT {P : Program} {x : String × DataW Unit} {r : List (String × DataW Unit)} {w : World} (h : laidMet P (x :: r) w) : laidMet P r w := by
  obtain ⟨ps, hl, hn, hc⟩ := h
  obtain ⟨n, d⟩ := x
  obtain ⟨g, t, cs, fuel, p, q, h1, h2, h3, h4, h5, rfl⟩ := hl
  exact ⟨q, h5, (List.nodup_append.1 hn).2.1, fun b off hm => hc b off (List.mem_append_right _ hm)⟩
theorem tr_laid3 {W : World} {a b : DataW Unit} (h : laidMet Tryd.prog [("unicode/utf8.acceptRanges", a), ("lamplighter/trace.rows", Rows.laid_lamplighter_trace_rows), ("unicode/utf8.first", b)] W) (hm : MaxLen W) : TRows W ∧ MaxLen W :=
  ⟨rows_of_laid (laid_tailT h), hm⟩
end Go.Proofs.YtnoppnnpennddaaDoor
