/- Maps in memory: the laws at the operations. No condition. -/
import Derived.Test.YtolomfdommnklaaMaps
import Derived.Maps.RangeWalk
namespace Go.Proofs.Ytolomfdommnklaa
open Go.RowKit Go.MapKept

theorem MapIs.new {κ : Type} (kv : κ → Value) (w : World) : MapIs kv (w.alloc (.map #[] 0)) w.heap.size [] := ⟨#[], 0, heap_alloc_new w _, rfl, (fun x hx => by cases hx), List.nodup_nil⟩
theorem MapIs.lt {κ : Type} {kv : κ → Value} {w : World} {M : Nat} {L : List (κ × Value)} (h : MapIs kv w M L) : M < w.heap.size := by
  obtain ⟨es, clock, hb, _⟩ := h
  exact (Array.getElem?_eq_some_iff.1 hb).1
theorem MapIs.row {κ : Type} {kv : κ → Value} {w w' : World} {M : Nat} {L : List (κ × Value)} (h : MapIs kv w M L) (hr : w'.heap[M]? = w.heap[M]?) : MapIs kv w' M L := by
  obtain ⟨es, clock, hb, h1⟩ := h
  exact ⟨es, clock, hr.trans hb, h1⟩
theorem MapIs.ch {κ : Type} {kv : κ → Value} {S : Nat → Prop} {w w' : World} {M : Nat} {L : List (κ × Value)} (h : MapIs kv w M L) (c : Ch S w w') (hn : ¬ S M) : MapIs kv w' M L := h.row (c.block M h.lt hn)
theorem MapIs.below {κ : Type} {kv : κ → Value} {w w' : World} {M : Nat} {L : List (κ × Value)} (h : MapIs kv w M L) (hb : Below w.heap.size w w') : MapIs kv w' M L := h.row (hb.block M h.lt)
/-- a map is no cells -/
theorem MapIs.ne {κ : Type} {kv : κ → Value} {w : World} {M g : Nat} {L : List (κ × Value)} {c : Array Value} {t : TypeId} {f : Nat × Nat} (h : MapIs kv w M L) (hg : w.heap[g]? = some (.cells c t f)) : M ≠ g := fun e => by
  obtain ⟨es, clock, hb, _⟩ := h
  rw [e, hg] at hb
  cases hb

section
variable {P : Program} {k : TypeId} {κ : Type} [DecidableEq κ] {kv : κ → Value} {w : World} {ops : Array Oper} {rest : List Oper} {o : Oper} {a : Act} {Q : Exit → Act → World → Prop}
theorem wpList_lookupL (hg : o.guard = none) (K : KeyK P k κ kv) (m x : Operand) (T e : TypeId) (ok : Bool) (hop : o.op = Op.lookup T m x ok) (ht : P.underlying T = some (.map k e)) (M : Nat) (L : List (κ × Value)) (hm : a.eval m = .map (some M)) (h : MapIs kv w M L) (key : κ) (hx : a.eval x = kv key) (z : Value) (hz : (zeroValue e).run P w = .ok z w)
    (hK : wpList P ops Q rest (a.put o.dst (if ok then .tuple #[(aget L key).getD z, .bool (aget L key).isSome] else (aget L key).getD z)) w) : wpList P ops Q (o :: rest) a w := by
  refine wpList_plain hg fun K' hK' => ?_
  have hrun := run_lookupL K T e ht w M L h key z hz ok
  unfold Oper.wp
  simp only [execOp, hop, hm, hx, Sem.run_bind, hrun, Result.andThen_ok, Sem.run_pure]
  exact hK' _ _ hK
theorem wpList_updateL (hg : o.guard = none) (K : KeyK P k κ kv) (m x v : Operand) (T e : TypeId) (hop : o.op = Op.mapUpdate T m x v ∨ o.op = Op.insert T m x v) (ht : P.underlying T = some (.map k e)) (M : Nat) (L : List (κ × Value)) (hm : a.eval m = .map (some M)) (h : MapIs kv w M L) (key : κ) (hx : a.eval x = kv key) (u : Value) (hv : a.eval v = u)
    (hK : ∀ w', MapIs kv w' M (aset L key u) → Ch (fun j => j = M) w w' → w'.heap.size = w.heap.size → wpList P ops Q rest (a.put o.dst undef) w') : wpList P ops Q (o :: rest) a w := by
  refine wpList_plain hg fun K' hK' => ?_
  obtain ⟨w', hrun, h1, h2, h3⟩ := run_updateL K T e ht w M L h key u
  unfold Oper.wp
  rcases hop with hop | hop
  · simp only [execOp, hop, hm, hx, hv, Sem.run_bind, hrun, Result.andThen_ok, Sem.run_pure]
    exact hK' _ _ (hK w' h1 h2 h3)
  · simp only [execOp, hop, hm, hx, hv, Sem.run_bind, hrun, Result.andThen_ok, Sem.run_pure]
    exact hK' _ _ (hK w' h1 h2 h3)
theorem wpList_deleteL (hg : o.guard = none) (K : KeyK P k κ kv) (m x : Operand) (T e : TypeId) (hop : o.op = Op.call { callee := Callee.builtin Builtin.delete, args := #[m, x], argTypes := #[T, k] }) (ht : P.underlying T = some (.map k e)) (M : Nat) (L : List (κ × Value)) (hm : a.eval m = .map (some M)) (h : MapIs kv w M L) (key : κ) (hx : a.eval x = kv key)
    (hK : ∀ w', MapIs kv w' M (adel L key) → Ch (fun j => j = M) w w' → w'.heap.size = w.heap.size → wpList P ops Q rest (a.put o.dst (.tuple #[])) w') : wpList P ops Q (o :: rest) a w := by
  refine wpList_plain hg fun K' hK' => ?_
  obtain ⟨w', hrun, h1, h2, h3⟩ := run_deleteL K T e o.type ht w M L h key
  unfold Oper.wp execOp
  simp only [hop, resolve, invoke, builtin, Sem.run_bind, Sem.run_pure, Result.andThen_ok, List.map_toArray, List.map_cons, List.map_nil, hm, hx, hrun]
  exact hK' _ _ (hK w' h1 h2 h3)
end
end Go.Proofs.Ytolomfdommnklaa
