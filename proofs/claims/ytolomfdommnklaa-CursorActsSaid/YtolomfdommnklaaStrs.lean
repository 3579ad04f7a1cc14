/- Words of my own for texts in memory: a slice of texts that reads as a list, a row of the call's own. -/
import Derived.Test.YtolomfdommnklaaBase
import Derived.Test.YtolomfdommnklaaCutMath
import Derived.OwnWalk
namespace Go.Proofs.Ytolomfdommnklaa
open Go.RowKit

/-- the value of a text -/
abbrev str (x : List UInt8) : Value := .string (txt x)

/-- the slice '.slice A n c' reads as the texts T in the world w -/
def Ss (w : World) (A : Option Addr) (n c : Nat) (T : List (List UInt8)) : Prop :=
  T.length = n ∧ n ≤ c ∧ c ≤ maxLen ∧ (0 < n → ∃ b o, A = some ⟨b, o, none⟩ ∧ ∀ i x, T[i]? = some x → w.cell? ⟨b, o + i, none⟩ = some (str x))

section
variable {w w' : World} {A : Option Addr} {n c : Nat} {T : List (List UInt8)}
theorem Ss.len (h : Ss w A n c T) : T.length = n := h.1
theorem Ss.le (h : Ss w A n c T) : n ≤ c := h.2.1
theorem Ss.max (h : Ss w A n c T) : c ≤ 9223372036854775807 := by have := h.2.2.1; simpa only [maxLen] using this
theorem Ss.nmax (h : Ss w A n c T) : n ≤ 9223372036854775807 := Nat.le_trans h.le h.max
theorem Ss.at_ (h : Ss w A n c T) (hn : 0 < n) : ∃ b o, A = some ⟨b, o, none⟩ ∧ b < w.heap.size ∧ ∀ i x, T[i]? = some x → w.cell? ⟨b, o + i, none⟩ = some (str x) := by
  obtain ⟨b, o, e, hc⟩ := h.2.2.2 hn
  have hl : 0 < T.length := by rw [h.1]; exact hn
  exact ⟨b, o, e, World.block_lt_of_cell? w _ (hc 0 _ (List.getElem?_eq_getElem hl)), hc⟩
theorem Ss.read (h : Ss w A n c T) {i : Nat} (hi : i < n) : ∃ b o, A = some ⟨b, o, none⟩ ∧ b < w.heap.size ∧ w.cell? ⟨b, o + i, none⟩ = some (str (T.getD i [])) := by
  obtain ⟨b, o, e, hl, hc⟩ := h.at_ (by omega)
  exact ⟨b, o, e, hl, hc i _ (by rw [List.getD_eq_getElem?_getD, List.getElem?_eq_getElem (by rw [h.1]; exact hi)]; rfl)⟩
theorem Ss.below (h : Ss w A n c T) (hb : Below w.heap.size w w') : Ss w' A n c T :=
  ⟨h.1, h.2.1, h.2.2.1, fun hn => by
    obtain ⟨b, o, e, hlt, hc⟩ := h.at_ hn
    exact ⟨b, o, e, fun i x hx => (hb.cell (p := ⟨b, o + i, none⟩) hlt).trans (hc i x hx)⟩⟩
theorem Ss.drewN (h : Ss w A n c T) (k : Nat) : Ss (w.drewN k) A n c T := h.below (drawN_below (Below.refl _ _) k)
theorem Ss.nil (w : World) (c : Nat) (A : Option Addr) (hc : c ≤ maxLen) : Ss w A 0 c [] := ⟨rfl, Nat.zero_le _, hc, fun h => absurd h (by omega)⟩
theorem Ss.of_block {g : Nat} {t : TypeId} {f : Nat × Nat} {C : Array Value} (hg : w.heap[g]? = some (.cells C t f)) (hC : ∀ (i : Nat) (x : List UInt8), T[i]? = some x → C[i]? = some (str x)) (hn : T.length = n) (hnc : n ≤ c) (hc : c ≤ maxLen) :
    Ss w (some ⟨g, 0, none⟩) n c T := by
  subst hn
  refine ⟨rfl, hnc, hc, fun _ => ⟨g, 0, rfl, fun i x hx => ?_⟩⟩
  rw [Nat.zero_add, cell_of_row w g i C t f hg]
  exact hC i x hx
end

/-- a row of the call's own, from block 'base' on, that holds the texts T -/
def OwnS (w : World) (base : Nat) (v : Value) (T : List (List UInt8)) : Prop := w.ownsRow base 9 1 v T.length (T.map str)
section
variable {w w' : World} {base : Nat} {v : Value} {T : List (List UInt8)}
theorem OwnS.nil (w : World) (base : Nat) : OwnS w base (.slice none 0 0) [] := World.ownsRow_nil w base 9 1
theorem OwnS.below (h : OwnS w base v T) (hb : Below w.heap.size w w') : OwnS w' base v T := by
  refine ⟨h.1, ?_⟩
  rcases h.2 with hn | ⟨g, cap, cur, e, h1, h2, h3⟩
  · exact .inl hn
  · exact .inr ⟨g, cap, cur, e, h1, (hb.block g (Array.getElem?_eq_some_iff.1 h2).1).trans h2, h3⟩
/-- one text, written out -/
theorem OwnS.one (w : World) (x : List UInt8) (hb : base ≤ w.heap.size) : OwnS (w.alloc (.cells #[str x] 9)) base (.slice (some ⟨w.heap.size, 0, none⟩) 1 1) [x] :=
  ⟨by simp, .inr ⟨w.heap.size, 1, #[str x], rfl, hb, heap_alloc_new w _, Nat.le_refl _, by simp [maxLen], by simp, by simp⟩⟩
theorem OwnS.ss (h : OwnS w base v T) : ∃ A c, v = .slice A T.length c ∧ Ss w A T.length c T ∧ ∀ b, A = some b → base ≤ b.block := by
  rcases h.2 with ⟨rfl, h0⟩ | ⟨g, cap, cur, rfl, h1, h2, h3, h4, _, h6⟩
  · have : T = [] := List.eq_nil_of_length_eq_zero h0
    subst this
    exact ⟨none, 0, rfl, Ss.nil w 0 none (by simp [maxLen]), fun _ hb => by cases hb⟩
  · refine ⟨_, cap, rfl, Ss.of_block (by simpa using h2) (fun i x hx => ?_) rfl h3 h4, fun b hb => ?_⟩
    · have hl : i < T.length := (List.getElem?_eq_some_iff.1 hx).1
      have e : (cur.toList.take (T.length * 1))[i]? = (T.map str)[i]? := by rw [h6]
      rw [Nat.mul_one, List.getElem?_take, if_pos hl, List.getElem?_map, hx] at e
      simpa using e
    · injection hb with hb
      subst hb
      exact h1
theorem OwnS.form (h : OwnS w base v T) (h0 : 0 < T.length) : ∃ g c, v = .slice (some ⟨g, 0, none⟩) T.length c ∧ base ≤ g ∧ g < w.heap.size ∧ T.length ≤ c ∧ c ≤ 9223372036854775807 := by
  rcases h.2 with ⟨_, h1⟩ | ⟨g, cap, cur, rfl, h1, h2, h3, h4, _⟩
  · omega
  · exact ⟨g, cap, rfl, h1, (Array.getElem?_eq_some_iff.1 h2).1, h3, by simpa only [maxLen] using h4⟩
theorem OwnS.cell {g c : Nat} (h : OwnS w base (.slice (some ⟨g, 0, none⟩) T.length c) T) {j : Nat} {x : List UInt8} (hx : T[j]? = some x) : w.cell? ⟨g, j, none⟩ = some (str x) := by
  have hj : j < T.length := (List.getElem?_eq_some_iff.1 hx).1
  have := World.ownsRow.cellAt h j (by omega)
  rw [this]
  simp [hx]
theorem OwnS.frozen {g c : Nat} (h : OwnS w base (.slice (some ⟨g, 0, none⟩) T.length c) T) (j : Nat) : w.frozen? ⟨g, j, none⟩ = false := World.ownsRow.frozenAt h j
theorem OwnS.store {g c : Nat} (h : OwnS w base (.slice (some ⟨g, 0, none⟩) T.length c) T) (j : Nat) (x : List UInt8) : OwnS (w.setCell ⟨g, j, none⟩ (str x)) base (.slice (some ⟨g, 0, none⟩) T.length c) (T.set j x) := by
  have := (World.ownsRow.stored h j (str x)).1
  unfold OwnS
  rw [List.length_set, show (T.set j x).map str = (T.map str).set j (str x) from by simp]
  exact this
/-- 'append(s, x)' onto a row of the call's own -/
theorem wpList_str {ops : Array Oper} {rest : List Oper} {o : Oper} {a : Act} {Q : Exit → Act → World → Prop} {w : World} (hgd : o.guard = none) (s x : Operand)
    (ho : o.op = .call { callee := .builtin .append, args := #[s, x], argTypes := #[56, 56] }) (base : Nat) (v : Value) (T : List (List UInt8)) (hs : a.eval s = v) (hown : OwnS w base v T) (g : Nat) (y : List UInt8)
    (hx : a.eval x = .slice (some ⟨g, 0, none⟩) 1 1) (hg : w.heap[g]? = some (.cells #[str y] 9)) (hn : T.length ≤ 1099511627776) (hbase : base ≤ w.heap.size)
    (h : ∀ v' w', OwnS w' base v' (T ++ [y]) → Below base w w' → w.grownBy w' v.ownBlock → wpList Try.prog ops Q rest (a.put o.dst v') w') : wpList Try.prog ops Q (o :: rest) a w := by
  have hi : (Try.prog.info? 9).map (fun i => (i.zero, i.size, i.bytes)) = some (some (.string ByteArray.empty), 1, 16) := by kernel_rfl
  obtain ⟨i, hi, hzz⟩ := Option.map_eq_some_iff.1 hi
  simp only [Prod.mk.injEq] at hzz
  exact wpList_append_own w hgd s x 56 ho base 9 i (.string ByteArray.empty) 1 16 Try.underlying56 hi hzz.1 hzz.2.1 hzz.2.2 rfl (by decide) v T.length (T.map str) hs hown ⟨g, 0, none⟩ 1 1 [str y] hx rfl
    (fun j u hu => by
      have hj : j = 0 := by
        rcases Nat.lt_or_ge j 1 with h | h
        · omega
        · rw [List.getElem?_eq_none (by simpa using h)] at hu; cases hu
      subst hj
      rw [Addr.add_lit, Nat.zero_add, cell_of_row w g 0 _ _ _ hg]
      exact hu) (fun u hu => by simp at hu; subst hu; rfl) (by simp only [maxLen]; omega) (by omega) hbase (fun v' w' h2 h3 _ => h v' w' (by unfold OwnS; simpa using h2) ((Below.refl _ _).grown h3 hbase fun k hk => (World.ownsRow.lt hown k hk).1) h3)
end
end Go.Proofs.Ytolomfdommnklaa
