/- Layer 5: the answer's rows; steps in a region that draws its order. -/
import Derived.Test.YtbbamdcdpololaaDfAlive
namespace Go.Proofs.Ytbbamdcdpololaa
open Go.RowKit

/-- v is a row of the call's own, each of its slices a row of the call's own, in none of S -/
def RowsB (B : Nat) (S : Nat → Prop) (w : World) (v : Value) (L : List (List UInt8)) : Prop :=
  ∃ vs : List Value, vs.length = L.length ∧ w.ownsRow B 30 1 v L.length vs ∧ (∀ u ∈ vs, u.oneCell' = true) ∧
    ∀ (i : Nat) (u : Value) (x : List UInt8), vs[i]? = some u → L[i]? = some x → Own 5 w B u x ∧ ∀ k, u.ownBlock = some k → ¬ S k
theorem RowsB.nil (B : Nat) (S : Nat → Prop) (w : World) : RowsB B S w (.slice none 0 0) [] := ⟨[], rfl, World.ownsRow_nil w B 30 1, (fun u h => by cases h), (fun i u x h => by cases h)⟩
theorem own_ty {w : World} {B n : Nat} {e : TypeId} {v : Value} {xs : List Value} (h : w.ownsRow B e 1 v n xs) (k : Nat) (hk : v.ownBlock = some k) : ∃ cur, w.heap[k]? = some (.cells cur e (0, 0)) := by
  rcases h.2 with ⟨rfl, _⟩ | ⟨g, cap, cur, rfl, _, h2, _⟩
  · cases hk
  · simp only [Value.ownBlock, Option.some.injEq] at hk
    subst hk
    exact ⟨cur, h2⟩
/-- only blocks of S' are written; none of them is the row's, or one of its slices' -/
theorem RowsB.ch {B : Nat} {S S' T : Nat → Prop} {w w' : World} {v : Value} {L : List (List UInt8)} (h : RowsB B S w v L) (c : Ch S' w w') (hv : ∀ k, v.ownBlock = some k → ¬ S' k) (hu : ∀ k cur, w.heap[k]? = some (.cells cur 5 (0, 0)) → ¬ S k → ¬ S' k)
    (hT : ∀ k, k < w.heap.size → T k → S k) : RowsB B T w' v L := by
  obtain ⟨vs, hl, ho, h1, hg⟩ := h
  refine ⟨vs, hl, ⟨ho.1, ?_⟩, h1, fun i u x a b => ?_⟩
  · rcases ho.2 with hn | ⟨g, cap, cur, e, q1, q2, q3⟩
    · exact .inl hn
    · exact .inr ⟨g, cap, cur, e, q1, c.row q2 (hv g (by rw [e]; rfl)), q3⟩
  · obtain ⟨p, q⟩ := hg i u x a b
    refine ⟨p.ch c (fun k hk => ?_), fun k hk ht => q k hk (hT k (Own.lt p k hk).2 ht)⟩
    obtain ⟨cur, hc⟩ := own_ty p k hk
    exact hu k cur hc (q k hk)
theorem RowsB.rd {B : Nat} {S : Nat → Prop} {w : World} {v : Value} {L : List (List UInt8)} (h : RowsB B S w v L) : ∃ A c, v = .slice A L.length c ∧ Rd w A L.length c L := by
  obtain ⟨vs, hl, ho, _, hg⟩ := h
  rcases ho.2 with ⟨rfl, h0⟩ | ⟨g, cap, cur, rfl, h1, h2, h3, h4, h5, h6⟩
  · exact ⟨none, 0, by rw [h0], rfl, by omega, by simp [maxLen], fun hn => by omega⟩
  · refine ⟨_, cap, rfl, rfl, h3, h4, fun _ => ⟨g, 0, rfl, (Array.getElem?_eq_some_iff.1 h2).1, fun i x hi => ?_⟩⟩
    have hil : i < L.length := (List.getElem?_eq_some_iff.1 hi).1
    have hgl : i < vs.length := by rw [hl]; exact hil
    obtain ⟨hown, _⟩ := hg i vs[i] x (List.getElem?_eq_getElem hgl) hi
    obtain ⟨A, c, e, hb, _⟩ := Own.bs hown
    refine ⟨A, c, ?_, hb⟩
    rw [Nat.zero_add, cell_of_row w g i cur _ _ h2]
    have e2 : (cur.toList.take (L.length * 1))[i]? = vs[i]? := by rw [h6]
    rw [Nat.mul_one, List.getElem?_take, if_pos hil, List.getElem?_eq_getElem hgl, e] at e2
    simpa using e2

theorem step_app {ops : Array Oper} {o : Oper} {a : Act} {w : World} {K : Act → World → Prop} {Q : Exit → Act → World → Prop} {E : Prop} (hgd : o.guard = none) (s x : Operand)
    (ho : o.op = .call { callee := .builtin .append, args := #[s, x], argTypes := #[30, 30] }) (base : Nat)
    (v : Value) (xs : List UInt8) (hs : a.eval s = v) (hown : Own 5 w base v xs) (A : Option Addr) (m c : Nat) (l : List UInt8) (hx : a.eval x = .slice A m c) (hl : Bs w A m c l) (hbytes : xs.length + m ≤ 140737488355328) (hbase : base ≤ w.heap.size)
    (h : ∀ v' w', Own 5 w' base v' (xs ++ l) → Below base w w' → w.grownBy w' v.ownBlock → K (a.put o.dst v') w') :
    if Region.wanted o (yielded ops a.tmps) = true then Oper.wp Try.prog o a w K Q else E := by
  have hw : Region.wanted o (yielded ops a.tmps) = true := by simp [Region.wanted, hgd]
  rw [if_pos hw]
  obtain ⟨v', w', hrun, h2, h3, h4⟩ := run_app (P := Try.prog) base 30 o.type 5 Try.underlying30 byteInfo v xs hown A m c l hl hbytes hbase
  unfold Oper.wp
  simp [execOp, ho, resolve, invoke, builtin, hs, hx, hrun, Result.andThen]
  exact h v' w' h2 h3 h4
theorem step_appRow {ops : Array Oper} {o : Oper} {a : Act} {w : World} {K : Act → World → Prop} {Q : Exit → Act → World → Prop} {E : Prop} (hgd : o.guard = none) (s x : Operand)
    (ho : o.op = .call { callee := .builtin .append, args := #[s, x], argTypes := #[22, 22] }) (base : Nat)
    (v : Value) (n : Nat) (xs : List Value) (hs : a.eval s = v) (hown : w.ownsRow base 30 1 v n xs) (g : Nat) (u : Value) (hu1 : u.oneCell' = true) (hx : a.eval x = .slice (some ⟨g, 0, none⟩) 1 1) (hg : w.heap[g]? = some (.cells #[u] 30)) (hn : n ≤ 1099511627770) (hbase : base ≤ w.heap.size)
    (h : ∀ v' w', w'.ownsRow base 30 1 v' (n + 1) (xs ++ [u]) → w.grownBy w' v.ownBlock → (v'.ownBlock = v.ownBlock ∨ v'.ownBlock = some w.heap.size) → K (a.put o.dst v') w') :
    if Region.wanted o (yielded ops a.tmps) = true then Oper.wp Try.prog o a w K Q else E := by
  have hw : Region.wanted o (yielded ops a.tmps) = true := by simp [Region.wanted, hgd]
  rw [if_pos hw]
  obtain ⟨i, hi, hzz⟩ := Option.map_eq_some_iff.1 rowsInfo
  simp only [Prod.mk.injEq] at hzz
  obtain ⟨v', w', hrun, h2, h3, _, h5⟩ := run_append_own_at (P := Try.prog) w base 22 o.type 30 i (.slice none 0 0) 1 24 Try.underlying22 hi hzz.1 hzz.2.1 hzz.2.2 rfl (by decide) v n xs hown ⟨g, 0, none⟩ 1 1 [u] rfl
    (fun j z hz => by
      have hj : j = 0 := by
        rcases Nat.lt_or_ge j 1 with h | h
        · omega
        · rw [List.getElem?_eq_none (by simpa using h)] at hz; cases hz
      subst hj
      rw [Addr.add_lit, Nat.zero_add, cell_of_row w g 0 _ _ _ hg]
      exact hz) (fun z hz => by simp at hz; subst hz; exact hu1) (by simp only [maxLen]; omega) (by omega) hbase
  unfold Oper.wp
  simp [execOp, ho, resolve, invoke, builtin, hs, hx, hrun, Result.andThen]
  exact h v' w' h2 h3 h5
end Go.Proofs.Ytbbamdcdpololaa
