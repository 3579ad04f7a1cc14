/- Laid together: CleanOf, SegMakesA. -/
import Derived.Test.YtbgjhpkjdcbclaaDoorSegQ
import Derived.Test.YtbgjhpkjdcbclaaDoorSegMakesM
import Derived.Laws.AppendOwnNone
import Derived.Deep.RegionHeld3

/- Texts without a byte. -/
namespace Go.Proofs.YtbgjhpkjdcbclaaDoor
open Go.RowKit

/-- those without the sign -/
def cleanOf (c : UInt8) (T : List (List UInt8)) : List (List UInt8) := T.filter fun x => !x.contains c
theorem cleanOf_no (c : UInt8) (T : List (List UInt8)) (k : Nat) (hk : k < T.length) (h : (T.getD k []).contains c = false) : cleanOf c (T.take (k + 1)) = cleanOf c (T.take k) ++ [T.getD k []] := by
  unfold cleanOf
  rw [take_getD T k hk, List.filter_append]
  simp only [List.filter_cons, List.filter_nil, h, Bool.not_false, if_true]
theorem cleanOf_yes (c : UInt8) (T : List (List UInt8)) (k : Nat) (hk : k < T.length) (h : (T.getD k []).contains c = true) : cleanOf c (T.take (k + 1)) = cleanOf c (T.take k) := by
  unfold cleanOf
  rw [take_getD T k hk, List.filter_append]
  simp only [List.filter_cons, List.filter_nil, h, Bool.not_true, if_false, List.append_nil, Bool.false_eq_true]
theorem lens_filter (f : List UInt8 → Bool) : ∀ T : List (List UInt8), Lib.lens (T.filter f) ≤ Lib.lens T
  | [] => by simp [Lib.lens]
  | x :: r => by
    have := lens_filter f r
    simp only [Lib.lens] at this ⊢
    rw [List.filter_cons]
    split
    · simp only [List.map_cons, List.sum_cons]; omega
    · simp only [List.map_cons, List.sum_cons]; omega
theorem take_snocY (y : ByteArray) (j : Nat) (hj : j < y.size) : y.data.toList.take (j + 1) = y.data.toList.take j ++ [y[j]] := by
  rw [List.take_succ_eq_append_getElem (by simpa using hj)]
  rfl
theorem contains_take (c : UInt8) (y : ByteArray) (j : Nat) (hj : j < y.size) : (y.data.toList.take (j + 1)).contains c = ((y.data.toList.take j).contains c || decide (y[j] = c)) := by
  rw [take_snocY y j hj, List.contains_append]
  congr 1
  by_cases h : y[j] = c
  · simp [h]
  · have h2 : ¬ c = y[j] := fun e => h e.symm
    simp [h, h2]
theorem cleanOf_bulk (c : UInt8) (T : List (List UInt8)) : Lib.lens (cleanOf c T) + (cleanOf c T).length ≤ Lib.lens T + T.length := by
  have hfl := lens_filter (fun x => !x.contains c) T
  have hfn := List.length_filter_le (fun x => !x.contains c) T
  unfold cleanOf
  omega
theorem cleanOf_mem (c : UInt8) (T : List (List UInt8)) : ∀ x ∈ cleanOf c T, c ∉ x := fun x hx => by
  have := (List.mem_filter.1 hx).2
  simpa using this
theorem cleanOf_len (c : UInt8) (T : List (List UInt8)) (k : Nat) : (cleanOf c (T.take k)).length ≤ k := by
  have h1 := List.length_filter_le (fun x => !x.contains c) (T.take k)
  rw [List.length_take] at h1
  exact Nat.le_trans h1 (Nat.min_le_left _ _)
end Go.Proofs.YtbgjhpkjdcbclaaDoor

/- Texts appended to a row of texts of the call's own. -/
namespace Go.Proofs.YtbgjhpkjdcbclaaDoor
open Go.RowKit

theorem OwnS.two (w : World) (x y : List UInt8) (base : Nat) (hb : base ≤ w.heap.size) : OwnS (w.alloc (.cells #[str x, str y] 9)) base (.slice (some ⟨w.heap.size, 0, none⟩) 2 2) [x, y] :=
  ⟨by simp, .inr ⟨w.heap.size, 2, #[str x, str y], rfl, hb, heap_alloc_new w _, Nat.le_refl _, by simp [maxLen], by simp, by simp⟩⟩

theorem wpList_strs {ops : Array Oper} {rest : List Oper} {o : Oper} {a : Act} {Q : Exit → Act → World → Prop} {w : World} (hgd : o.guard = none) (s x : Operand)
    (ho : o.op = .call { callee := .builtin .append, args := #[s, x], argTypes := #[34, 34] }) (base : Nat) (v : Value) (T : List (List UInt8)) (hs : a.eval s = v) (hown : OwnS w base v T)
    (base2 : Nat) (vx : Value) (U : List (List UInt8)) (hx : a.eval x = vx) (hU : OwnS w base2 vx U) (hn : T.length + U.length ≤ 1099511627776) (hbase : base ≤ w.heap.size)
    (h : ∀ v' w', OwnS w' base v' (T ++ U) → Below base w w' → wpList Tryd.prog ops Q rest (a.put o.dst v') w') : wpList Tryd.prog ops Q (o :: rest) a w := by
  have hi : (Tryd.prog.info? 9).map (fun i => (i.zero, i.size, i.bytes)) = some (some (.string ByteArray.empty), 1, 16) := by kernel_rfl
  obtain ⟨i, hi, hzz⟩ := Option.map_eq_some_iff.1 hi
  simp only [Prod.mk.injEq] at hzz
  by_cases h0 : 0 < U.length
  · obtain ⟨g, c, rfl, _, _, _, _⟩ := hU.form h0
    refine wpList_append_own w hgd s x 34 ho base 9 i (.string ByteArray.empty) 1 16 Tryd.underlying34 hi hzz.1 hzz.2.1 hzz.2.2 rfl (by decide) v T.length (T.map str) hs hown ⟨g, 0, none⟩ U.length c (U.map str) hx (by simp)
      (fun j u hu => by
        rw [List.getElem?_map] at hu
        cases hj : U[j]? with
        | none => rw [hj] at hu; cases hu
        | some y =>
          rw [hj] at hu
          simp only [Option.map_some, Option.some.injEq] at hu
          subst hu
          rw [Addr.add_lit, Nat.zero_add]
          exact hU.cell hj) (fun u hu => by
        obtain ⟨y, _, rfl⟩ := List.mem_map.1 hu
        rfl) (by simp only [maxLen]; omega) (by omega) hbase (fun v' w' h2 h3 _ => h v' w' (by unfold OwnS; simpa using h2) ((Below.refl _ _).grown h3 hbase fun k hk => (World.ownsRow.lt hown k hk).1))
  · have hUe : U = [] := List.eq_nil_of_length_eq_zero (by omega)
    subst hUe
    rcases hU.2 with ⟨rfl, _⟩ | ⟨g, cap, cur, rfl, _, _, _, _, _, _⟩
    · exact wpList_append_own_none hgd s x 34 ho base 9 i 1 Tryd.underlying34 hi v T.length (T.map str) hs hown hx (h v w (by simpa using hown) (Below.refl _ _))
    · exact wpList_append_own w hgd s x 34 ho base 9 i (.string ByteArray.empty) 1 16 Tryd.underlying34 hi hzz.1 hzz.2.1 hzz.2.2 rfl (by decide) v T.length (T.map str) hs hown ⟨g, 0, none⟩ 0 cap [] hx rfl
        (fun j u hu => by simp at hu) (fun u hu => by simp at hu) (by simp only [maxLen]; simp at hn; omega) (by simp at hn; omega) hbase (fun v' w' h2 h3 _ => h v' w' (by unfold OwnS; simpa using h2) ((Below.refl _ _).grown h3 hbase fun k hk => (World.ownsRow.lt hown k hk).1))
end Go.Proofs.YtbgjhpkjdcbclaaDoor
