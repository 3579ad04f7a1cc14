/- Layer 3: rows of steps, as data and as functions. -/
import Derived.Test.YtkniednjchnncaaGuardNest
import Derived.OwnWalk
namespace Go.Proofs.Ytkniednjchnncaa
open Go.RowKit

def Ps (w : World) (A : Option Addr) (n c : Nat) (L : List (Int × Int)) : Prop :=
  L.length = n ∧ n ≤ c ∧ c ≤ maxLen ∧ (0 < n → ∃ b o, A = some ⟨b, o, none⟩ ∧ ∀ i p, L[i]? = some p → w.cell? ⟨b, o + i * 2, none⟩ = some (.int .i64 p.1) ∧ w.cell? ⟨b, o + i * 2 + 1, none⟩ = some (.int .i64 p.2)) ∧
  ∀ p ∈ L, (Lit.int .i64 p.1).wf = true ∧ (Lit.int .i64 p.2).wf = true
theorem Ps.at_ {w : World} {A : Option Addr} {n c : Nat} {L : List (Int × Int)} (h : Ps w A n c L) (hn : 0 < n) : ∃ b o, A = some ⟨b, o, none⟩ ∧ b < w.heap.size ∧ ∀ i p, L[i]? = some p → w.cell? ⟨b, o + i * 2, none⟩ = some (.int .i64 p.1) ∧ w.cell? ⟨b, o + i * 2 + 1, none⟩ = some (.int .i64 p.2) := by
  obtain ⟨b, o, e, hc⟩ := h.2.2.2.1 hn
  have hl : 0 < L.length := by rw [h.1]; exact hn
  exact ⟨b, o, e, World.block_lt_of_cell? w _ (hc 0 _ (List.getElem?_eq_getElem hl)).1, hc⟩
theorem Ps.below {w w' : World} {A : Option Addr} {n c : Nat} {L : List (Int × Int)} (h : Ps w A n c L) (hb : Below w.heap.size w w') : Ps w' A n c L :=
  ⟨h.1, h.2.1, h.2.2.1, fun hn => by
    obtain ⟨b, o, e, hlt, hc⟩ := h.at_ hn
    exact ⟨b, o, e, fun i p hp => ⟨(hb.cell (p := ⟨b, o + i * 2, none⟩) hlt).trans (hc i p hp).1, (hb.cell (p := ⟨b, o + i * 2 + 1, none⟩) hlt).trans (hc i p hp).2⟩⟩, h.2.2.2.2⟩
theorem Ps.nmax {w : World} {A : Option Addr} {n c : Nat} {L : List (Int × Int)} (h : Ps w A n c L) : n ≤ 9223372036854775807 := by
  have := h.2.1
  have := h.2.2.1
  simp only [maxLen] at this
  omega
theorem wf64 {x : Int} (h : (Lit.int .i64 x).wf = true) : -9223372036854775808 ≤ x ∧ x ≤ 9223372036854775807 := by
  simpa [Lit.wf, IntKind.min, IntKind.max, IntKind.signed, IntKind.bits] using h

/-- the sum of what the first ones add -/
def psum (L : List (Int × Int)) : Nat → Int
  | 0 => 0
  | i + 1 => psum L i + (L.getD i (0, 0)).2.tmod 1000
theorem psum_bound (L : List (Int × Int)) : ∀ i : Nat, -(999 * (i : Int)) ≤ psum L i ∧ psum L i ≤ 999 * (i : Int)
  | 0 => by simp [psum]
  | i + 1 => by
    have := psum_bound L i
    have h1 : -999 ≤ (L.getD i (0, 0)).2.tmod 1000 ∧ (L.getD i (0, 0)).2.tmod 1000 ≤ 999 := by
      generalize (L.getD i (0, 0)).2 = x
      have h2 := Int.tmod_lt_of_pos x (show (0 : Int) < 1000 by decide)
      have h3 := Int.tmod_lt_of_pos (-x) (show (0 : Int) < 1000 by decide)
      rw [Int.neg_tmod] at h3
      omega
    simp only [psum]
    omega
/-- none of the first ones loses the power -/
def quiet (L : List (Int × Int)) (i : Nat) : Prop := ∀ j, j < i → (L.getD j (0, 0)).1 ≠ 1

abbrev fvS (k : FuncId) (S g : Nat) : Value := .func (.func k) #[] #[.pointer (some ⟨S, 0, none⟩), .pointer (some ⟨g, 0, none⟩)]

theorem own_ne {w : World} {base n g : Nat} {v : Value} {xs : List Value} {cs : Array Value} {t : TypeId} {fr : Nat × Nat} (h : w.ownsRow base 1 1 v n xs) (hg : w.heap[g]? = some (.cells cs t fr)) (ht : t ≠ 1) : some g ≠ v.ownBlock := by
  rcases h.2 with ⟨rfl, _⟩ | ⟨g', cap, cur, rfl, _, hgg, _⟩
  · simp [Value.ownBlock]
  · intro e
    simp [Value.ownBlock] at e
    subst e
    rw [hg] at hgg
    injection hgg with hgg
    injection hgg with _ h2
    exact ht h2

theorem wpList_fn {ops : Array Oper} {rest : List Oper} {o : Oper} {a : Act} {Q : Exit → Act → World → Prop} {w : World} (hgd : o.guard = none) (s x : Operand)
    (ho : o.op = .call { callee := .builtin .append, args := #[s, x], argTypes := #[33, 33] }) (base : Nat) (v : Value) (n : Nat) (xs : List Value) (hs : a.eval s = v) (hown : w.ownsRow base 1 1 v n xs) (g : Nat) (f : Value) (hf : f.oneCell' = true)
    (hx : a.eval x = .slice (some ⟨g, 0, none⟩) 1 1) (hg : w.heap[g]? = some (.cells #[f] 1)) (hn : n ≤ 1000) (hbase : base ≤ w.heap.size)
    (h : ∀ v' w', w'.ownsRow base 1 1 v' (n + 1) (xs ++ [f]) → w.grownBy w' v.ownBlock → wpList Try.prog ops Q rest (a.put o.dst v') w') : wpList Try.prog ops Q (o :: rest) a w := by
  have hi : (Try.prog.info? 1).map (fun i => (i.zero, i.size, i.bytes)) = some (some .nilFunc, 1, 8) := by kernel_rfl
  obtain ⟨i, hi, hzz⟩ := Option.map_eq_some_iff.1 hi
  simp only [Prod.mk.injEq] at hzz
  exact wpList_append_own w hgd s x 33 ho base 1 i .nilFunc 1 8 Try.underlying33 hi hzz.1 hzz.2.1 hzz.2.2 rfl (by decide) v n xs hs hown ⟨g, 0, none⟩ 1 1 [f] hx rfl
    (fun j u hu => by
      have hj : j = 0 := by
        rcases Nat.lt_or_ge j 1 with h | h
        · omega
        · rw [List.getElem?_eq_none (by simpa using h)] at hu; cases hu
      subst hj
      rw [Addr.add_lit, Nat.zero_add, cell_of_row w g 0 _ _ _ hg]
      exact hu) (fun u hu => by simp at hu; subst hu; exact hf) (by simp only [maxLen]; omega) (by omega) hbase (fun v' w' h2 h3 _ => h v' w' h2 h3)

/-- functions, one for each step -/
def FnRow (W : World) (base : Nat) (k : FuncId) (S : Nat) (v : Value) (L : List (Int × Int)) (Gs : List Nat) : Prop :=
  Gs.length = L.length ∧ W.ownsRow base 1 1 v L.length (Gs.map (fvS k S)) ∧ ∀ (i g : Nat) (q : Int × Int), Gs[i]? = some g → L[i]? = some q → W.heap[g]? = some (.cells #[.int .i64 q.1, .int .i64 q.2] 35)
theorem FnRow.nil (W : World) (base : Nat) (k : FuncId) (S : Nat) : FnRow W base k S (.slice none 0 0) [] [] := ⟨rfl, World.ownsRow_nil W base 1 1, fun i g q h => by cases h⟩
theorem FnRow.below {W W' : World} {base : Nat} {k : FuncId} {S : Nat} {v : Value} {L : List (Int × Int)} {Gs : List Nat} (h : FnRow W base k S v L Gs) (hb : Below W.heap.size W W') : FnRow W' base k S v L Gs := by
  refine ⟨h.1, ⟨h.2.1.1, ?_⟩, fun i g q h1 h2 => (hb.block _ (Array.getElem?_eq_some_iff.1 (h.2.2 i g q h1 h2)).1).trans (h.2.2 i g q h1 h2)⟩
  rcases h.2.1.2 with hn | ⟨g, cap, cur, e, h1, h2, h3⟩
  · exact .inl hn
  · exact .inr ⟨g, cap, cur, e, h1, (hb.block g (Array.getElem?_eq_some_iff.1 h2).1).trans h2, h3⟩
end Go.Proofs.Ytkniednjchnncaa
