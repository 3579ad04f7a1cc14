/- Texts appended to a row of texts of the call's own. -/
import Derived.Test.YtmambhopdbomfaaSegMakesM
import Derived.Test.YtmambhopdbomfaaCleanOf
import Derived.Laws.AppendOwnNone
import Derived.Deep.RegionHeld3
namespace Go.Proofs.Ytmambhopdbomfaa
open Go.RowKit

theorem OwnS.two (w : World) (x y : List UInt8) (base : Nat) (hb : base ≤ w.heap.size) : OwnS (w.alloc (.cells #[str x, str y] 9)) base (.slice (some ⟨w.heap.size, 0, none⟩) 2 2) [x, y] :=
  ⟨by simp, .inr ⟨w.heap.size, 2, #[str x, str y], rfl, hb, heap_alloc_new w _, Nat.le_refl _, by simp [maxLen], by simp, by simp⟩⟩

theorem wpList_strs {ops : Array Oper} {rest : List Oper} {o : Oper} {a : Act} {Q : Exit → Act → World → Prop} {w : World} (hgd : o.guard = none) (s x : Operand)
    (ho : o.op = .call { callee := .builtin .append, args := #[s, x], argTypes := #[23, 23] }) (base : Nat) (v : Value) (T : List (List UInt8)) (hs : a.eval s = v) (hown : OwnS w base v T)
    (base2 : Nat) (vx : Value) (U : List (List UInt8)) (hx : a.eval x = vx) (hU : OwnS w base2 vx U) (hn : T.length + U.length ≤ 1099511627776) (hbase : base ≤ w.heap.size)
    (h : ∀ v' w', OwnS w' base v' (T ++ U) → Below base w w' → wpList Try.prog ops Q rest (a.put o.dst v') w') : wpList Try.prog ops Q (o :: rest) a w := by
  have hi : (Try.prog.info? 9).map (fun i => (i.zero, i.size, i.bytes)) = some (some (.string ByteArray.empty), 1, 16) := by kernel_rfl
  obtain ⟨i, hi, hzz⟩ := Option.map_eq_some_iff.1 hi
  simp only [Prod.mk.injEq] at hzz
  by_cases h0 : 0 < U.length
  · obtain ⟨g, c, rfl, _, _, _, _⟩ := hU.form h0
    refine wpList_append_own w hgd s x 23 ho base 9 i (.string ByteArray.empty) 1 16 Try.underlying23 hi hzz.1 hzz.2.1 hzz.2.2 rfl (by decide) v T.length (T.map str) hs hown ⟨g, 0, none⟩ U.length c (U.map str) hx (by simp)
      (fun j u hu => by
        rw [List.getElem?_map] at hu
        cases hj : U[j]? with
        | none => rw [hj] at hu; cases hu
        | some y =>
          rw [hj] at hu
          simp only [Option.map_some, Option.some.injEq] at hu
          subst hu
          rw [Addr.add_lit, Nat.zero_add]
          exact hU.cell hj) (fun u hu => by
        obtain ⟨y, _, rfl⟩ := List.mem_map.1 hu
        rfl) (by simp only [maxLen]; omega) (by omega) hbase (fun v' w' h2 h3 _ => h v' w' (by unfold OwnS; simpa using h2) ((Below.refl _ _).grown h3 hbase fun k hk => (World.ownsRow.lt hown k hk).1))
  · have hUe : U = [] := List.eq_nil_of_length_eq_zero (by omega)
    subst hUe
    rcases hU.2 with ⟨rfl, _⟩ | ⟨g, cap, cur, rfl, _, _, _, _, _, _⟩
    · exact wpList_append_own_none hgd s x 23 ho base 9 i 1 Try.underlying23 hi v T.length (T.map str) hs hown hx (h v w (by simpa using hown) (Below.refl _ _))
    · exact wpList_append_own w hgd s x 23 ho base 9 i (.string ByteArray.empty) 1 16 Try.underlying23 hi hzz.1 hzz.2.1 hzz.2.2 rfl (by decide) v T.length (T.map str) hs hown ⟨g, 0, none⟩ 0 cap [] hx rfl
        (fun j u hu => by simp at hu) (fun u hu => by simp at hu) (by simp only [maxLen]; simp at hn; omega) (by simp at hn; omega) hbase (fun v' w' h2 h3 _ => h v' w' (by unfold OwnS; simpa using h2) ((Below.refl _ _).grown h3 hbase fun k hk => (World.ownsRow.lt hown k hk).1))
end Go.Proofs.Ytmambhopdbomfaa
