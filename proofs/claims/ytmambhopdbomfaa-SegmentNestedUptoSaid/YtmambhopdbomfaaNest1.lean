/- Slices of slices of texts in memory. -/
import Derived.Test.YtmambhopdbomfaaNest0
import Derived.Test.YtmambhopdbomfaaRowsG0
namespace Go.Proofs.Ytmambhopdbomfaa
open Go.RowKit

theorem rowInfoS : (Try.prog.info? 23).map (fun i => (i.zero, i.size, i.bytes)) = some (some (.slice none 0 0), 1, 24) := by kernel_rfl
/-- the slice '.slice A n c' reads as R -/
def Sss (w : World) (A : Option Addr) (n c : Nat) (R : List (List (List UInt8))) : Prop :=
  R.length = n ∧ n ≤ c ∧ c ≤ maxLen ∧ (0 < n → ∃ b o, A = some ⟨b, o, none⟩ ∧ b < w.heap.size ∧ ∀ (i : Nat) (T : List (List UInt8)), R[i]? = some T → ∃ Ai ci, w.cell? ⟨b, o + i, none⟩ = some (.slice Ai T.length ci) ∧ Ss w Ai T.length ci T)
theorem Sss.nmax {w : World} {A : Option Addr} {n c : Nat} {R : List (List (List UInt8))} (h : Sss w A n c R) : n ≤ 9223372036854775807 := by
  have := h.2.1
  have := h.2.2.1
  simp only [maxLen] at this
  omega
theorem Sss.below {w w' : World} {A : Option Addr} {n c : Nat} {R : List (List (List UInt8))} (h : Sss w A n c R) (hb : Below w.heap.size w w') : Sss w' A n c R :=
  ⟨h.1, h.2.1, h.2.2.1, fun hn => by
    obtain ⟨b, o, e, hlt, hc⟩ := h.2.2.2 hn
    exact ⟨b, o, e, Nat.lt_of_lt_of_le hlt hb.size, fun i x hx => by
      obtain ⟨Ai, ci, h1, h2⟩ := hc i x hx
      exact ⟨Ai, ci, (hb.cell (p := ⟨b, o + i, none⟩) hlt).trans h1, h2.below hb⟩⟩⟩
theorem Sss.read {w : World} {A : Option Addr} {n c : Nat} {R : List (List (List UInt8))} (h : Sss w A n c R) {i : Nat} (hi : i < n) : ∃ b o Ai ci, A = some ⟨b, o, none⟩ ∧ b < w.heap.size ∧ w.cell? ⟨b, o + i, none⟩ = some (.slice Ai (R.getD i []).length ci) ∧ Ss w Ai (R.getD i []).length ci (R.getD i []) := by
  obtain ⟨b, o, e, hlt, hc⟩ := h.2.2.2 (by omega)
  obtain ⟨Ai, ci, h1, h2⟩ := hc i (R.getD i []) (by rw [List.getD_eq_getElem?_getD, List.getElem?_eq_getElem (by rw [h.1]; exact hi)]; rfl)
  exact ⟨b, o, Ai, ci, e, hlt, h1, h2⟩

/-- a row of the call's own of rows of its own -/
def OwnSS (w : World) (base : Nat) (v : Value) (R : List (List (List UInt8))) : Prop :=
  ∃ vs, w.ownsRow base 23 1 v R.length vs ∧ vs.length = R.length ∧ ∀ (i : Nat) (T : List (List UInt8)), R[i]? = some T → ∃ u, vs[i]? = some u ∧ OwnS w base u T
theorem OwnSS.nil (w : World) (base : Nat) : OwnSS w base (.slice none 0 0) [] := ⟨[], World.ownsRow_nil w base 23 1, rfl, fun i T h => by simp at h⟩
theorem OwnS.mono {w : World} {base b2 : Nat} {v : Value} {T : List (List UInt8)} (h : OwnS w base v T) (hb : b2 ≤ base) : OwnS w b2 v T := by
  refine ⟨h.1, ?_⟩
  rcases h.2 with hn | ⟨g, cap, cur, e, h1, h2, h3⟩
  · exact .inl hn
  · exact .inr ⟨g, cap, cur, e, Nat.le_trans hb h1, h2, h3⟩
theorem OwnSS.below {w w' : World} {base : Nat} {v : Value} {R : List (List (List UInt8))} (h : OwnSS w base v R) (hb : Below w.heap.size w w') : OwnSS w' base v R := by
  obtain ⟨vs, h1, h2, h3⟩ := h
  refine ⟨vs, ⟨h1.1, ?_⟩, h2, fun i T hi => ?_⟩
  · rcases h1.2 with hn | ⟨g, cap, cur, e, k1, k2, k3⟩
    · exact .inl hn
    · exact .inr ⟨g, cap, cur, e, k1, (hb.block g (Array.getElem?_eq_some_iff.1 k2).1).trans k2, k3⟩
  · obtain ⟨u, k1, k2⟩ := h3 i T hi
    exact ⟨u, k1, k2.below hb⟩
theorem OwnS.other {w w' : World} {base b2 n : Nat} {v u : Value} {xs : List Value} {T : List (List UInt8)} (h : OwnS w base u T) (hv : w.ownsRow b2 23 1 v n xs) (hg : w.grownBy w' v.ownBlock) : OwnS w' base u T := by
  refine ⟨h.1, ?_⟩
  rcases h.2 with hn | ⟨g, cap, cur, e, h1, h2, h3⟩
  · exact .inl hn
  · refine .inr ⟨g, cap, cur, e, h1, (hg.block g (Array.getElem?_eq_some_iff.1 h2).1 ?_).trans h2, h3⟩
    exact own_ne hv h2 (by decide)
theorem OwnSS.form {w : World} {base : Nat} {v : Value} {R : List (List (List UInt8))} (h : OwnSS w base v R) : ∃ A c, v = .slice A R.length c ∧ Sss w A R.length c R := by
  obtain ⟨vs, h1, h2, h3⟩ := h
  have hcl := h1
  rcases h1.2 with ⟨rfl, h0⟩ | ⟨g, cap, cur, rfl, k1, k2, k3, k4, k5, k6⟩
  · have : R = [] := List.eq_nil_of_length_eq_zero h0
    subst this
    exact ⟨none, 0, rfl, rfl, Nat.le_refl _, by simp [maxLen], fun h => absurd h (by simp)⟩
  · refine ⟨_, cap, rfl, rfl, k3, k4, fun hn => ⟨g, 0, rfl, (Array.getElem?_eq_some_iff.1 k2).1, fun i T hi => ?_⟩⟩
    obtain ⟨u, e1, e2⟩ := h3 i T hi
    obtain ⟨A, c, rfl, hS, _⟩ := e2.ss
    refine ⟨A, c, ?_, hS⟩
    rw [Nat.zero_add, World.ownsRow.cellAt hcl i (by rw [Nat.mul_one]; exact (List.getElem?_eq_some_iff.1 hi).1)]
    exact e1
/-- 'append(s, x)' of a row onto a row of rows -/
theorem wpList_ss {ops : Array Oper} {rest : List Oper} {o : Oper} {a : Act} {Q : Exit → Act → World → Prop} {w : World} (hgd : o.guard = none) (s x : Operand)
    (ho : o.op = .call { callee := .builtin .append, args := #[s, x], argTypes := #[52, 52] }) (base : Nat) (v : Value) (R : List (List (List UInt8))) (hs : a.eval s = v) (hown : OwnSS w base v R) (g : Nat) (u : Value) (T : List (List UInt8))
    (hx : a.eval x = .slice (some ⟨g, 0, none⟩) 1 1) (hg : w.heap[g]? = some (.cells #[u] 23)) (hu : OwnS w base u T) (hn : R.length ≤ 1099511627000) (hbase : base ≤ w.heap.size)
    (h : ∀ v' w', OwnSS w' base v' (R ++ [T]) → Below base w w' → wpList Try.prog ops Q rest (a.put o.dst v') w') : wpList Try.prog ops Q (o :: rest) a w := by
  obtain ⟨vs, h1, h2, h3⟩ := hown
  have hu1 : u.oneCell' = true := by
    obtain ⟨A, c, rfl, _, _⟩ := hu.ss
    rfl
  refine wpList_appAt hgd s x 52 ho base 23 (.slice none 0 0) 24 Try.underlying52 rowInfoS rfl (by decide) v R.length vs hs h1 ⟨g, 0, none⟩ 1 1 [u] hx rfl
    (fun j z hz => by
      have hj : j = 0 := by
        rcases Nat.lt_or_ge j 1 with h | h
        · omega
        · rw [List.getElem?_eq_none (by simpa using h)] at hz; cases hz
      subst hj
      rw [Addr.add_lit, Nat.zero_add, cell_of_row w g 0 _ _ _ hg]
      exact hz) (fun z hz => by simp at hz; subst hz; exact hu1) (by omega) hbase fun v' w' k1 k2 _ => ?_
  refine h v' w' ⟨vs ++ [u], by rw [List.length_append]; exact k1, by simp [h2], fun i S hi => ?_⟩ ((Below.refl _ _).grown k2 hbase fun k hk => (World.ownsRow.lt h1 k hk).1)
  by_cases hil : i < R.length
  · rw [List.getElem?_append_left hil] at hi
    obtain ⟨z, e1, e2⟩ := h3 i S hi
    exact ⟨z, by rw [List.getElem?_append_left (by omega)]; exact e1, e2.other h1 k2⟩
  · have hie : i = R.length := by
      have := (List.getElem?_eq_some_iff.1 hi).1
      simp at this
      omega
    subst hie
    simp at hi
    subst hi
    exact ⟨u, by rw [← h2]; simp, hu.other h1 k2⟩
end Go.Proofs.Ytmambhopdbomfaa
