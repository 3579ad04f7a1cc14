/- A row of slices of bytes, of the call's own, that avoids some blocks. No condition. -/
import Derived.Test.YthblbmbefhlbjaaRowsG
namespace Go.Proofs.Ythblbmbefhlbjaa
open Go.RowKit

/-- v is a row of the call's own, from block B on, of the slices vs, which read as L; neither it nor they lie in blocks of T, and none of them lies in its block -/
def RwV (B : Nat) (T : Nat → Prop) (w : World) (v : Value) (L : List (List UInt8)) (vs : List Value) : Prop :=
  vs.length = L.length ∧ w.ownsRow B 27 1 v L.length vs ∧ (∀ u ∈ vs, u.oneCell' = true) ∧ (∀ k, v.ownBlock = some k → ¬ T k) ∧
    ∀ (i : Nat) (u : Value) (x : List UInt8), vs[i]? = some u → L[i]? = some x → ∃ A c, u = .slice A x.length c ∧ Bs w A x.length c x ∧ (0 < x.length → ∀ b, A = some b → ¬ v.ownBlock = some b.block ∧ ¬ T b.block)
def Rw (B : Nat) (T : Nat → Prop) (w : World) (v : Value) (L : List (List UInt8)) : Prop := ∃ vs, RwV B T w v L vs

section
variable {B : Nat} {T T' S : Nat → Prop} {w w' : World} {v v' : Value} {L : List (List UInt8)} {vs : List Value}
theorem Rw.nil (B : Nat) (T : Nat → Prop) (w : World) : Rw B T w (.slice none 0 0) [] := ⟨[], rfl, World.ownsRow_nil w B 27 1, (fun u h => by cases h), (fun k h => by cases h), (fun i u x h => by cases h)⟩
theorem RwV.form (h : RwV B T w v L vs) : ∃ A c, v = .slice A L.length c := own_form h.2.1
theorem Rw.form (h : Rw B T w v L) : ∃ A c, v = .slice A L.length c := by obtain ⟨vs, h⟩ := h; exact h.form
theorem RwV.ch (h : RwV B T w v L vs) (c : Ch S w w') (hS : ∀ k, k < w.heap.size → S k → T k) (hT : ∀ k, k < w.heap.size → T' k → T k) : RwV B T' w' v L vs := by
  obtain ⟨hl, ho, h1, h2, hg⟩ := h
  refine ⟨hl, own_ch ho c (fun k hk hs => h2 k hk (hS k (World.ownsRow.lt ho k hk).2 hs)), h1, fun k hk ht => h2 k hk (hT k (World.ownsRow.lt ho k hk).2 ht), fun i u x a b => ?_⟩
  obtain ⟨A, ci, e, hb, hne⟩ := hg i u x a b
  have hlt : 0 < x.length → ∀ b, A = some b → b.block < w.heap.size := fun h0 b hA => by
    obtain ⟨b', o', e', hlt, _⟩ := hb.at_ h0
    rw [e'] at hA
    injection hA with hA
    subst hA
    exact hlt
  exact ⟨A, ci, e, hb.ch c (fun h0 b hA hs => (hne h0 b hA).2 (hS _ (hlt h0 b hA) hs)), fun h0 b hA => ⟨(hne h0 b hA).1, fun ht => (hne h0 b hA).2 (hT _ (hlt h0 b hA) ht)⟩⟩
theorem Rw.ch (h : Rw B T w v L) (c : Ch S w w') (hS : ∀ k, k < w.heap.size → S k → T k) (hT : ∀ k, k < w.heap.size → T' k → T k) : Rw B T' w' v L := by
  obtain ⟨vs, h⟩ := h
  exact ⟨vs, h.ch c hS hT⟩
theorem Rw.below (h : Rw B T w v L) (hb : Below w.heap.size w w') : Rw B T w' v L := h.ch (Ch.of_below (S := fun _ => False) hb) (fun _ _ h => h.elim) (fun _ _ h => h)
theorem Rw.rd (h : Rw B T w v L) : ∃ A c, v = .slice A L.length c ∧ Rd w A L.length c L := by
  obtain ⟨vs, hl, ho, _, _, hg⟩ := h
  rcases ho.2 with ⟨rfl, h0⟩ | ⟨g, cap, cur, rfl, h1, h2, h3, h4, h5, h6⟩
  · exact ⟨none, 0, by rw [h0], rfl, by omega, by simp [maxLen], fun hn => by omega⟩
  · refine ⟨_, cap, rfl, rfl, h3, h4, fun _ => ⟨g, 0, rfl, (Array.getElem?_eq_some_iff.1 h2).1, fun i x hi => ?_⟩⟩
    have hil : i < L.length := (List.getElem?_eq_some_iff.1 hi).1
    have hgl : i < vs.length := by rw [hl]; exact hil
    obtain ⟨A, c, e, hb, _⟩ := hg i vs[i] x (List.getElem?_eq_getElem hgl) hi
    refine ⟨A, c, ?_, hb⟩
    rw [Nat.zero_add, cell_of_row w g i cur _ _ h2]
    have e2 : (cur.toList.take (L.length * 1))[i]? = vs[i]? := by rw [h6]
    rw [Nat.mul_one, List.getElem?_take, if_pos hil, List.getElem?_eq_getElem hgl, e] at e2
    simpa using e2
/-- one slice more -/
theorem RwV.more {x : List UInt8} {A : Option Addr} {c : Nat} (h : RwV B T w v L vs) (hx : Bs w A x.length c x) (hlt : 0 < x.length → ∀ b, A = some b → ¬ v.ownBlock = some b.block ∧ ¬ T b.block) (hTn : ¬ T w.heap.size)
    (hown : w'.ownsRow B 27 1 v' (L.length + 1) (vs ++ [.slice A x.length c])) (hgr : w.grownBy w' v.ownBlock) (hfr : v'.ownBlock = v.ownBlock ∨ v'.ownBlock = some w.heap.size) : RwV B T w' v' (L ++ [x]) (vs ++ [.slice A x.length c]) := by
  obtain ⟨hl, ho, h1, h2, hg⟩ := h
  have hch : Ch (fun k => v.ownBlock = some k) w w' := Ch.of_grown hgr (fun k hk => hk)
  have hnew : ∀ b : Addr, b.block < w.heap.size → ¬ v.ownBlock = some b.block → ¬ v'.ownBlock = some b.block := fun b hb hne e => by
    rcases hfr with q | q
    · exact hne (by rw [← q]; exact e)
    · rw [q] at e; injection e with e; omega
  have hblk : ∀ (A : Option Addr) (c : Nat) (y : List UInt8), Bs w A y.length c y → 0 < y.length → ∀ b, A = some b → b.block < w.heap.size := fun A c y hb h0 b hA => by
    obtain ⟨b', o', e', hlt, _⟩ := hb.at_ h0
    rw [e'] at hA
    injection hA with hA
    subst hA
    exact hlt
  refine ⟨by simp [hl], by rw [List.length_append]; exact hown, fun u hu => ?_, fun k hk ht => ?_, fun i u z e1 e2 => ?_⟩
  · rcases List.mem_append.1 hu with hu | hu
    · exact h1 u hu
    · simp at hu; rw [hu]; rfl
  · rcases hfr with q | q
    · exact h2 k (by rw [← q]; exact hk) ht
    · rw [q] at hk; injection hk with hk; rw [← hk] at ht; exact hTn ht
  · by_cases hi : i < L.length
    · rw [List.getElem?_append_left (by rw [hl]; exact hi)] at e1
      rw [List.getElem?_append_left hi] at e2
      obtain ⟨A', c', e, hb, hne⟩ := hg i u z e1 e2
      exact ⟨A', c', e, hb.ch hch (fun h0 b hA hs => (hne h0 b hA).1 hs), fun h0 b hA => ⟨hnew b (hblk _ _ _ hb h0 b hA) (hne h0 b hA).1, (hne h0 b hA).2⟩⟩
    · rw [List.getElem?_append_right (by rw [hl]; omega), hl] at e1
      rw [List.getElem?_append_right (by omega)] at e2
      have : i - L.length = 0 := by
        rcases Nat.lt_or_ge (i - L.length) 1 with h | h
        · omega
        · rw [List.getElem?_eq_none (by simpa using h)] at e2; cases e2
      rw [this] at e1 e2
      simp at e1 e2
      subst e1 e2
      exact ⟨A, c, rfl, hx.ch hch (fun h0 b hA hs => (hlt h0 b hA).1 hs), fun h0 b hA => ⟨hnew b (hblk _ _ _ hx h0 b hA) (hlt h0 b hA).1, (hlt h0 b hA).2⟩⟩
end

/-- 'append(l, x)': x lies in none of T, and not in l's block -/
theorem wpList_rw {ops : Array Oper} {rest : List Oper} {o : Oper} {a : Act} {Q : Exit → Act → World → Prop} {w : World} (hgd : o.guard = none) (s y : Operand)
    (ho : o.op = .call { callee := .builtin .append, args := #[s, y], argTypes := #[47, 47] }) (B : Nat) (T : Nat → Prop) (v : Value) (L : List (List UInt8)) (x : List UInt8) (A : Option Addr) (c : Nat) (hs : a.eval s = v) (hw : Rw B T w v L) (hx : Bs w A x.length c x)
    (hlt : 0 < x.length → ∀ b, A = some b → ¬ v.ownBlock = some b.block ∧ ¬ T b.block) (hTn : ¬ T w.heap.size)
    (g : Nat) (hy : a.eval y = .slice (some ⟨g, 0, none⟩) 1 1) (hg : w.heap[g]? = some (.cells #[.slice A x.length c] 27)) (hn : L.length + 1 ≤ 1099511627776) (hB : B ≤ w.heap.size)
    (h : ∀ v' w', Rw B T w' v' (L ++ [x]) → w.grownBy w' v.ownBlock → (v'.ownBlock = v.ownBlock ∨ v'.ownBlock = some w.heap.size) → wpList Try.prog ops Q rest (a.put o.dst v') w') : wpList Try.prog ops Q (o :: rest) a w := by
  obtain ⟨vs, hw⟩ := hw
  refine wpList_appAt hgd s y 47 ho B 27 (.slice none 0 0) 24 Try.underlying47 rowsInfo rfl (by decide) v L.length vs hs hw.2.1 ⟨g, 0, none⟩ 1 1 [.slice A x.length c] hy rfl (fun j u hu => ?_) (fun u hu => ?_) hn hB (fun v' w' q1 q2 q3 => h v' w' ⟨_, hw.more hx hlt hTn q1 q2 q3⟩ q2 q3)
  · have hj : j = 0 := by
      rcases Nat.lt_or_ge j 1 with h | h
      · omega
      · rw [List.getElem?_eq_none (by simpa using h)] at hu; cases hu
    subst hj
    rw [Addr.add_lit, Nat.zero_add, cell_of_row w g 0 _ _ _ hg]
    exact hu
  · simp at hu; subst hu; rfl
end Go.Proofs.Ythblbmbefhlbjaa
