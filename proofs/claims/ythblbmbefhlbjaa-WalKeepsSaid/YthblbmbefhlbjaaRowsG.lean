/- Rows of rows of bytes in memory, as they are read. No condition. -/
import Derived.Test.YthblbmbefhlbjaaLater
import Derived.Test.YthblbmbefhlbjaaRowsG0
import Derived.RegionTactic
import Derived.BigRegion
import Derived.Laws.EntriesVeiled
import Derived.LoopTactic
import Derived.Deep.QuietTactic
import Derived.Deep.RegionLaw
namespace Go.Proofs.Ythblbmbefhlbjaa
open Go.RowKit

theorem rowsInfo : (Try.prog.info? 27).map (fun i => (i.zero, i.size, i.bytes)) = some (some (.slice none 0 0), 1, 24) := by kernel_rfl
/-- the slice '.slice A n c' reads as the rows L -/
def Rd (w : World) (A : Option Addr) (n c : Nat) (L : List (List UInt8)) : Prop :=
  L.length = n ∧ n ≤ c ∧ c ≤ maxLen ∧ (0 < n → ∃ b o, A = some ⟨b, o, none⟩ ∧ b < w.heap.size ∧ ∀ (i : Nat) (x : List UInt8), L[i]? = some x → ∃ Ai ci, w.cell? ⟨b, o + i, none⟩ = some (.slice Ai x.length ci) ∧ Bs w Ai x.length ci x)
theorem Rd.nmax {w : World} {A : Option Addr} {n c : Nat} {L : List (List UInt8)} (h : Rd w A n c L) : n ≤ 9223372036854775807 := by
  have := h.2.1
  have := h.2.2.1
  simp only [maxLen] at this
  omega
theorem Rd.below {w w' : World} {A : Option Addr} {n c : Nat} {L : List (List UInt8)} (h : Rd w A n c L) (hb : Below w.heap.size w w') : Rd w' A n c L :=
  ⟨h.1, h.2.1, h.2.2.1, fun hn => by
    obtain ⟨b, o, e, hlt, hc⟩ := h.2.2.2 hn
    exact ⟨b, o, e, Nat.lt_of_lt_of_le hlt hb.size, fun i x hx => by
      obtain ⟨Ai, ci, h1, h2⟩ := hc i x hx
      exact ⟨Ai, ci, (hb.cell (p := ⟨b, o + i, none⟩) hlt).trans h1, h2.below hb⟩⟩⟩
theorem Rd.read {w : World} {A : Option Addr} {n c : Nat} {L : List (List UInt8)} (h : Rd w A n c L) {i : Nat} (hi : i < n) : ∃ b o Ai ci, A = some ⟨b, o, none⟩ ∧ b < w.heap.size ∧ w.cell? ⟨b, o + i, none⟩ = some (.slice Ai (L.getD i []).length ci) ∧ Bs w Ai (L.getD i []).length ci (L.getD i []) := by
  obtain ⟨b, o, e, hlt, hc⟩ := h.2.2.2 (by omega)
  obtain ⟨Ai, ci, h1, h2⟩ := hc i (L.getD i []) (by rw [List.getD_eq_getElem?_getD, List.getElem?_eq_getElem (by rw [h.1]; exact hi)]; rfl)
  exact ⟨b, o, Ai, ci, e, hlt, h1, h2⟩
theorem step_appRow {ops : Array Oper} {o : Oper} {a : Act} {w : World} {K : Act → World → Prop} {Q : Exit → Act → World → Prop} {E : Prop} (hgd : o.guard = none) (s x : Operand)
    (ho : o.op = .call { callee := .builtin .append, args := #[s, x], argTypes := #[47, 47] }) (base : Nat)
    (v : Value) (n : Nat) (xs : List Value) (hs : a.eval s = v) (hown : w.ownsRow base 27 1 v n xs) (g : Nat) (u : Value) (hu1 : u.oneCell' = true) (hx : a.eval x = .slice (some ⟨g, 0, none⟩) 1 1) (hg : w.heap[g]? = some (.cells #[u] 27)) (hn : n ≤ 1099511627770) (hbase : base ≤ w.heap.size)
    (h : ∀ v' w', w'.ownsRow base 27 1 v' (n + 1) (xs ++ [u]) → w.grownBy w' v.ownBlock → (v'.ownBlock = v.ownBlock ∨ v'.ownBlock = some w.heap.size) → K (a.put o.dst v') w') :
    if Region.wanted o (yielded ops a.tmps) = true then Oper.wp Try.prog o a w K Q else E := by
  have hw : Region.wanted o (yielded ops a.tmps) = true := by simp [Region.wanted, hgd]
  rw [if_pos hw]
  obtain ⟨i, hi, hzz⟩ := Option.map_eq_some_iff.1 rowsInfo
  simp only [Prod.mk.injEq] at hzz
  obtain ⟨v', w', hrun, h2, h3, _, h5⟩ := run_append_own_at (P := Try.prog) w base 47 o.type 27 i (.slice none 0 0) 1 24 Try.underlying47 hi hzz.1 hzz.2.1 hzz.2.2 rfl (by decide) v n xs hown ⟨g, 0, none⟩ 1 1 [u] rfl
    (fun j z hz => by
      have hj : j = 0 := by
        rcases Nat.lt_or_ge j 1 with h | h
        · omega
        · rw [List.getElem?_eq_none (by simpa using h)] at hz; cases hz
      subst hj
      rw [Addr.add_lit, Nat.zero_add, cell_of_row w g 0 _ _ _ hg]
      exact hz) (fun z hz => by simp at hz; subst hz; exact hu1) (by simp only [maxLen]; omega) (by omega) hbase
  unfold Oper.wp
  simp [execOp, ho, resolve, invoke, builtin, hs, hx, hrun, Result.andThen]
  exact h v' w' h2 h3 h5
theorem Rd.drop {w : World} {A : Option Addr} {n c : Nat} {L : List (List UInt8)} (h : Rd w A n c L) {q : Nat} (hq : q ≤ n) : Rd w (if c = q then A else Option.map (fun x => x.add q) A) (n - q) (c - q) (L.drop q) := by
  obtain ⟨h1, h2, h3, h4⟩ := h
  refine ⟨by rw [List.length_drop, h1], by omega, by omega, fun hn => ?_⟩
  obtain ⟨b, o, rfl, hlt, hc⟩ := h4 (by omega)
  rw [if_neg (by omega)]
  refine ⟨b, o + q, by rw [Option.map_some, Addr.add_lit], hlt, fun i x hx => ?_⟩
  rw [List.getElem?_drop] at hx
  obtain ⟨Ai, ci, h5, h6⟩ := hc (q + i) x hx
  exact ⟨Ai, ci, by rw [Nat.add_assoc]; exact h5, h6⟩
theorem take_getD (L : List (List UInt8)) (k : Nat) (h : k < L.length) : L.take (k + 1) = L.take k ++ [L.getD k []] := by
  rw [List.take_succ_eq_append_getElem h, List.getD_eq_getElem?_getD, List.getElem?_eq_getElem h]
  rfl
abbrev lensOf (L : List (List UInt8)) : Nat := (L.map List.length).sum
theorem lensOf_snoc (L : List (List UInt8)) (x : List UInt8) : lensOf (L ++ [x]) = lensOf L + x.length := by simp [lensOf]
theorem lensOf_le (L : List (List UInt8)) (M : Nat) (h : ∀ x ∈ L, x.length ≤ M) : lensOf L ≤ L.length * M := by
  induction L with
  | nil => simp [lensOf]
  | cons x r ih =>
    have h1 := ih (fun y hy => h y (List.mem_cons_of_mem _ hy))
    have h2 := h x (by simp)
    simp only [lensOf, List.map_cons, List.sum_cons, List.length_cons] at h1 ⊢
    rw [Nat.add_mul]
    omega
theorem lens_take (L : List (List UInt8)) (k : Nat) : lensOf (L.take k) ≤ lensOf L := by
  have h : lensOf (L.take k ++ L.drop k) = lensOf (L.take k) + lensOf (L.drop k) := by simp only [lensOf, List.map_append, List.sum_append]
  rw [List.take_append_drop] at h
  omega
end Go.Proofs.Ythblbmbefhlbjaa
