/- Layer 5: a row of the call's own, of slices that are the argument's. -/
import Derived.Test.YtjeibckjockmeaaDoorDfGreat0
namespace Go.Proofs.YtjeibckjockmeaaDoor
open Go.RowKit

/-- v is a row of the call's own, from block B on; its slices read as L, and lie below B -/
def Want (B : Nat) (w : World) (v : Value) (L : List (List UInt8)) : Prop :=
  ∃ vs : List Value, vs.length = L.length ∧ w.ownsRow B 23 1 v L.length vs ∧ (∀ u ∈ vs, u.oneCell' = true) ∧
    ∀ (i : Nat) (u : Value) (x : List UInt8), vs[i]? = some u → L[i]? = some x → ∃ A c, u = .slice A x.length c ∧ Bs w A x.length c x ∧ (0 < x.length → ∀ b, A = some b → b.block < B)
theorem Want.nil (B : Nat) (w : World) : Want B w (.slice none 0 0) [] := ⟨[], rfl, World.ownsRow_nil w B 23 1, (fun u h => by cases h), (fun i u x h => by cases h)⟩
theorem Want.ch {B : Nat} {S : Nat → Prop} {w w' : World} {v : Value} {L : List (List UInt8)} (h : Want B w v L) (c : Ch S w w') (h1 : ∀ k, k < B → ¬ S k) (h2 : ∀ k, v.ownBlock = some k → ¬ S k) : Want B w' v L := by
  obtain ⟨vs, hl, ho, h3, hg⟩ := h
  refine ⟨vs, hl, ⟨ho.1, ?_⟩, h3, fun i u x a b => ?_⟩
  · rcases ho.2 with hn | ⟨g, cap, cur, e, q1, q2, q3⟩
    · exact .inl hn
    · exact .inr ⟨g, cap, cur, e, q1, c.row q2 (h2 g (by rw [e]; rfl)), q3⟩
  · obtain ⟨A, ci, e, hb, hlt⟩ := hg i u x a b
    exact ⟨A, ci, e, hb.ch c (fun h0 b hb => h1 _ (hlt h0 b hb)), hlt⟩
theorem Want.below {B : Nat} {w w' : World} {v : Value} {L : List (List UInt8)} (h : Want B w v L) (hb : Below w.heap.size w w') : Want B w' v L :=
  h.ch (Ch.of_below (S := fun _ => False) hb) (fun _ _ h => h) (fun _ _ h => h)
theorem Want.rd {B : Nat} {w : World} {v : Value} {L : List (List UInt8)} (h : Want B w v L) : ∃ A c, v = .slice A L.length c ∧ Rd w A L.length c L := by
  obtain ⟨vs, hl, ho, _, hg⟩ := h
  rcases ho.2 with ⟨rfl, h0⟩ | ⟨g, cap, cur, rfl, h1, h2, h3, h4, h5, h6⟩
  · exact ⟨none, 0, by rw [h0], rfl, by omega, by simp [maxLen], fun hn => by omega⟩
  · refine ⟨_, cap, rfl, rfl, h3, h4, fun _ => ⟨g, 0, rfl, (Array.getElem?_eq_some_iff.1 h2).1, fun i x hi => ?_⟩⟩
    have hil : i < L.length := (List.getElem?_eq_some_iff.1 hi).1
    have hgl : i < vs.length := by rw [hl]; exact hil
    obtain ⟨A, c, e, hb, _⟩ := hg i vs[i] x (List.getElem?_eq_getElem hgl) hi
    refine ⟨A, c, ?_, hb⟩
    rw [Nat.zero_add, cell_of_row w g i cur _ _ h2]
    have e2 : (cur.toList.take (L.length * 1))[i]? = vs[i]? := by rw [h6]
    rw [Nat.mul_one, List.getElem?_take, if_pos hil, List.getElem?_eq_getElem hgl, e] at e2
    simpa using e2
/-- 'append(want, b)': b is the argument's -/
theorem wpList_want {ops : Array Oper} {rest : List Oper} {o : Oper} {a : Act} {Q : Exit → Act → World → Prop} {w : World} (hgd : o.guard = none) (s y : Operand)
    (ho : o.op = .call { callee := .builtin .append, args := #[s, y], argTypes := #[22, 22] }) (B : Nat) (v : Value) (L : List (List UInt8)) (x : List UInt8) (A : Option Addr) (c : Nat) (hs : a.eval s = v) (hw : Want B w v L) (hx : Bs w A x.length c x) (hlt : 0 < x.length → ∀ b, A = some b → b.block < B)
    (g : Nat) (hy : a.eval y = .slice (some ⟨g, 0, none⟩) 1 1) (hg : w.heap[g]? = some (.cells #[.slice A x.length c] 23)) (hn : L.length + 1 ≤ 1099511627776) (hB : B ≤ w.heap.size)
    (h : ∀ v' w', Want B w' v' (L ++ [x]) → w.grownBy w' v.ownBlock → (v'.ownBlock = v.ownBlock ∨ v'.ownBlock = some w.heap.size) → wpList Tryd.prog ops Q rest (a.put o.dst v') w') : wpList Tryd.prog ops Q (o :: rest) a w := by
  obtain ⟨vs, hl, hown, h1, hgs⟩ := hw
  refine wpList_appAt hgd s y 22 ho B 23 (.slice none 0 0) 24 Tryd.underlying22 rowsInfo rfl (by decide) v L.length vs hs hown ⟨g, 0, none⟩ 1 1 [.slice A x.length c] hy rfl (fun j u hu => ?_) (fun u hu => ?_) hn hB (fun v' w' q1 q2 q3 => h v' w' ?_ q2 q3)
  · have hj : j = 0 := by
      rcases Nat.lt_or_ge j 1 with h | h
      · omega
      · rw [List.getElem?_eq_none (by simpa using h)] at hu; cases hu
    subst hj
    rw [Addr.add_lit, Nat.zero_add, cell_of_row w g 0 _ _ _ hg]
    exact hu
  · simp at hu; subst hu; rfl
  · have hch : Ch (fun k => v.ownBlock = some k) w w' := Ch.of_grown q2 (fun k hk => hk)
    have hob : ∀ k, v.ownBlock = some k → B ≤ k := fun k hk => (World.ownsRow.lt hown k hk).1
    refine ⟨vs ++ [.slice A x.length c], by simp [hl], by rw [List.length_append]; exact q1, fun u hu => ?_, fun i u z e1 e2 => ?_⟩
    · rcases List.mem_append.1 hu with hu | hu
      · exact h1 u hu
      · simp at hu; rw [hu]; rfl
    · by_cases hi : i < L.length
      · rw [List.getElem?_append_left (by rw [hl]; exact hi)] at e1
        rw [List.getElem?_append_left hi] at e2
        obtain ⟨A', c', e, hb, hlt'⟩ := hgs i u z e1 e2
        exact ⟨A', c', e, hb.ch hch (fun h0 b hb hs => by have := hlt' h0 b hb; have := hob _ hs; omega), hlt'⟩
      · rw [List.getElem?_append_right (by rw [hl]; omega), hl] at e1
        rw [List.getElem?_append_right (by omega)] at e2
        have : i - L.length = 0 := by
          rcases Nat.lt_or_ge (i - L.length) 1 with h | h
          · omega
          · rw [List.getElem?_eq_none (by simpa using h)] at e2; cases e2
        rw [this] at e1 e2
        simp at e1 e2
        subst e1 e2
        exact ⟨A, c, rfl, hx.ch hch (fun h0 b hb hs => by have := hlt h0 b hb; have := hob _ hs; omega), hlt⟩
end Go.Proofs.YtjeibckjockmeaaDoor
