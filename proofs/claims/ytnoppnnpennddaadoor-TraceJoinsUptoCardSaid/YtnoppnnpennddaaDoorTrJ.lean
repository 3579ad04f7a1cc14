/- Layer 19: a row of steps appended to a row of the call's own. -/
import Derived.Test.YtnoppnnpennddaaDoorTrY
namespace Go.Proofs.YtnoppnnpennddaaDoor
open Go.RowKit

/-- what a step's slices read as -/
def SubS (w : World) (x : TStep) (p : Value × Value) : Prop := (∃ A m c, p.1 = .slice A m c ∧ Bs w A m c x.l) ∧ ∃ A m c, p.2 = .slice A m c ∧ TOs w A m c x.outs
theorem SubS.below {w w' : World} {x : TStep} {p : Value × Value} (h : SubS w x p) (hb : Below w.heap.size w w') : SubS w' x p := by
  obtain ⟨⟨A, m, c, e, h1⟩, ⟨A', m', c', e', h2⟩⟩ := h
  exact ⟨⟨A, m, c, e, h1.below hb⟩, ⟨A', m', c', e', h2.below hb⟩⟩
def SubsS (w : World) (L : List TStep) (P : List (Value × Value)) : Prop := P.length = L.length ∧ ∀ (i : Nat) (x : TStep) (p : Value × Value), L[i]? = some x → P[i]? = some p → SubS w x p
theorem SubsS.below {w w' : World} {L : List TStep} {P : List (Value × Value)} (h : SubsS w L P) (hb : Below w.heap.size w w') : SubsS w' L P := ⟨h.1, fun i x p h1 h2 => (h.2 i x p h1 h2).below hb⟩
theorem SubsS.app {w : World} {L M : List TStep} {P Q : List (Value × Value)} (h : SubsS w L P) (h' : SubsS w M Q) : SubsS w (L ++ M) (P ++ Q) := by
  refine ⟨by simp [h.1, h'.1], fun i x p hx hp => ?_⟩
  by_cases hi : i < L.length
  · rw [List.getElem?_append_left hi] at hx
    rw [List.getElem?_append_left (by rw [h.1]; exact hi)] at hp
    exact h.2 i x p hx hp
  · rw [List.getElem?_append_right (by omega)] at hx
    rw [List.getElem?_append_right (by rw [h.1]; omega), h.1] at hp
    exact h'.2 _ x p hx hp
theorem stepsC_app : ∀ {L : List TStep} {P : List (Value × Value)} (M : List TStep) (Q : List (Value × Value)), P.length = L.length → stepsC (L ++ M) (P ++ Q) = stepsC L P ++ stepsC M Q
  | [], [], M, Q, _ => by simp [stepsC]
  | y :: L, q :: P, M, Q, h => by
    have := stepsC_app (L := L) (P := P) M Q (by simpa using h)
    simp only [List.cons_append, stepsC, this, List.append_assoc]
/-- a row of steps told by its cells -/
def SrcS (w : World) (A : Option Addr) (m : Nat) (L : List TStep) (P : List (Value × Value)) : Prop := L.length = m ∧ P.length = m ∧ (0 < m → ∃ b o, A = some ⟨b, o, none⟩ ∧ ∀ i x p, L[i]? = some x → P[i]? = some p → ∀ j, j < 6 → w.cell? ⟨b, o + i * 6 + j, none⟩ = (stepC x p)[j]?)
theorem SrcS.below {w w' : World} {A : Option Addr} {m : Nat} {L : List TStep} {P : List (Value × Value)} (h : SrcS w A m L P) (hb : Below w.heap.size w w') : SrcS w' A m L P :=
  ⟨h.1, h.2.1, fun hm => by
    obtain ⟨b, o, e, hc⟩ := h.2.2 hm
    refine ⟨b, o, e, fun i x p h1 h2 j hj => ?_⟩
    have h3 := hc i x p h1 h2 j hj
    have h4 : ((stepC x p)[j]?).isSome = true := by
      rw [List.getElem?_eq_getElem (by simpa [stepC] using hj)]; rfl
    rw [← h3] at h4
    obtain ⟨u, hu⟩ := Option.isSome_iff_exists.1 h4
    rw [← h3, hu]
    exact (hb.cell (p := ⟨b, o + i * 6 + j, none⟩) (World.block_lt_of_cell? w _ hu)).trans hu⟩
theorem Sts.src {w : World} {A : Option Addr} {n c : Nat} {L : List TStep} (h : Sts w A n c L) : ∃ P, SrcS w A n L P ∧ SubsS w L P := by
  by_cases hn : 0 < n
  · obtain ⟨b, o, e, hc⟩ := h.2.2.2 hn
    have key : ∀ k, k ≤ n → ∃ P : List (Value × Value), P.length = k ∧ ∀ i x p, L[i]? = some x → P[i]? = some p → (∀ j, j < 6 → w.cell? ⟨b, o + i * 6 + j, none⟩ = (stepC x p)[j]?) ∧ SubS w x p := by
      intro k
      induction k with
      | zero => exact fun _ => ⟨[], rfl, fun i x p _ h2 => by simp at h2⟩
      | succ k ih =>
        intro hk
        obtain ⟨P, hP, hh⟩ := ih (by omega)
        have hkl : k < L.length := by rw [h.1]; omega
        obtain ⟨a0, a1, a2, ⟨A3, m3, c3, a3, hB3⟩, ⟨A4, m4, c4, a4, hB4⟩, a5⟩ := hc k _ (List.getElem?_eq_getElem hkl)
        refine ⟨P ++ [(.slice A3 m3 c3, .slice A4 m4 c4)], by simp [hP], fun i x p h1 h2 => ?_⟩
        by_cases hi : i < k
        · rw [List.getElem?_append_left (by omega)] at h2
          exact hh i x p h1 h2
        · have hik : i = k := by
            have := (List.getElem?_eq_some_iff.1 h2).1
            simp only [List.length_append, List.length_cons, List.length_nil] at this
            omega
          subst hik
          rw [List.getElem?_append_right (by omega), hP, Nat.sub_self] at h2
          simp only [List.getElem?_cons_zero, Option.some.injEq] at h2
          rw [List.getElem?_eq_getElem hkl] at h1
          injection h1 with h1
          subst h1 h2
          refine ⟨fun j hj => ?_, ⟨A3, m3, c3, rfl, hB3⟩, ⟨A4, m4, c4, rfl, hB4⟩⟩
          match j, hj with
          | 0, _ => exact a0
          | 1, _ => exact a1
          | 2, _ => exact a2
          | 3, _ => exact a3
          | 4, _ => exact a4
          | 5, _ => exact a5
    obtain ⟨P, hP, hh⟩ := key n (Nat.le_refl _)
    exact ⟨P, ⟨h.1, hP, fun _ => ⟨b, o, e, fun i x p h1 h2 => (hh i x p h1 h2).1⟩⟩, ⟨hP.trans h.1.symm, fun i x p h1 h2 => (hh i x p h1 h2).2⟩⟩
  · have h0 : n = 0 := by omega
    have hl : L = [] := List.length_eq_zero_iff.1 (h.1.trans h0)
    subst hl
    exact ⟨[], ⟨h.1, h0.symm, fun h => absurd h hn⟩, rfl, fun i x p h1 => by simp at h1⟩
theorem stepsC_one {L : List TStep} {P : List (Value × Value)} (h : ∀ (i : Nat) (x : TStep) (p : Value × Value), L[i]? = some x → P[i]? = some p → (∃ A m c, p.1 = .slice A m c) ∧ ∃ A m c, p.2 = .slice A m c) : ∀ u ∈ stepsC L P, u.oneCell' = true := by
  induction L generalizing P with
  | nil => intro u hu; simp [stepsC] at hu
  | cons x L ih =>
    cases P with
    | nil => intro u hu; simp [stepsC] at hu
    | cons p P =>
      intro u hu
      simp only [stepsC] at hu
      rcases List.mem_append.1 hu with hu | hu
      · obtain ⟨⟨A, m, c, h1⟩, ⟨A', m', c', h2⟩⟩ := h 0 x p rfl rfl
        simp only [stepC, List.mem_cons, List.not_mem_nil, or_false, h1, h2] at hu
        rcases hu with rfl | rfl | rfl | rfl | rfl | rfl <;> rfl
      · exact ih (fun i x p h1 h2 => h (i + 1) x p (by simpa using h1) (by simpa using h2)) u hu
set_option maxRecDepth 100000 in
/-- 'append(s, m...)', m nil, empty or not -/
theorem run_appSteps {w : World} (base : Nat) (t ty : TypeId) (ht : Tryd.prog.underlying t = some (.slice TS)) (v : Value) (n : Nat) (xs : List Value) (hown : w.ownsRow base TS 6 v n xs) (A : Option Addr) (m c : Nat) (L : List TStep) (P : List (Value × Value))
    (hs : SrcS w A m L P) (hb : SubsS w L P) (hn : n + m ≤ 1000000000) (hbase : base ≤ w.heap.size) :
    ∃ v' w', (Builtin.append_ #[t, t] ty #[v, .slice A m c]).run Tryd.prog w = .ok v' w' ∧ w'.ownsRow base TS 6 v' (n + m) (xs ++ stepsC L P) ∧ Below base w w' := by
  obtain ⟨i, hi, hzz⟩ := Option.map_eq_some_iff.1 stInfo
  simp only [Prod.mk.injEq] at hzz
  obtain ⟨hz, hsz, hby⟩ := hzz
  rcases A with _ | a
  · have hm : m = 0 := by
      rcases Nat.eq_zero_or_pos m with h | h
      · exact h
      · obtain ⟨b, o, e, _⟩ := hs.2.2 h
        cases e
    subst hm
    have hl : L = [] := List.length_eq_zero_iff.1 hs.1
    subst hl
    refine ⟨v, w, ?_, by simpa [stepsC] using hown, Below.refl _ _⟩
    rcases hown.2 with ⟨rfl, _⟩ | ⟨g, cap, cur, rfl, _, _, hnc, _⟩
    · simp [Builtin.append_, run_underlying ht, sizeOf, typeInfo, hi, Builtin.lenOf, Builtin.firstCells]
    · simp [Builtin.append_, run_underlying ht, sizeOf, typeInfo, hi, Builtin.lenOf, Builtin.firstCells, hnc, storeCells]
  · have hlen := stepsC_len (L := L) (P := P) (by rw [hs.2.1, hs.1])
    have h2 : (n + m) * 80 ≤ 1000000000 * 80 := Nat.mul_le_mul_right 80 hn
    obtain ⟨v', w', hrun, h2, h3, _, _⟩ := run_append_own_at (P := Tryd.prog) w base t ty TS i (.agg (stC 0 0 0 nilE nilE false).toArray) 6 80 ht hi hz hsz hby rfl (by omega) v n xs hown a m c (stepsC L P) (by rw [hlen, hs.1])
      (fun j u hu => by
        have hj : j < L.length * 6 := by rw [← hlen]; exact (List.getElem?_eq_some_iff.1 hu).1
        have hm : 0 < m := by have := hs.1; omega
        obtain ⟨b, o, e, hc⟩ := hs.2.2 hm
        injection e with e
        subst e
        rw [Addr.add_lit]
        have hjl : j / 6 < L.length := by omega
        have hjp : j / 6 < P.length := by rw [hs.2.1, ← hs.1]; exact hjl
        have h1 := hc (j / 6) _ _ (List.getElem?_eq_getElem hjl) (List.getElem?_eq_getElem hjp) (j % 6) (by omega)
        have h2 := stepsC_at (List.getElem?_eq_getElem hjl) (List.getElem?_eq_getElem hjp) (j % 6) (by omega)
        rw [show j / 6 * 6 + j % 6 = j from by omega, hu] at h2
        rw [← h2, show o + j / 6 * 6 + j % 6 = o + j from by omega] at h1
        exact h1) (stepsC_one (fun i x p h1 h2 => by
          obtain ⟨⟨A, m, c, e, _⟩, ⟨A', m', c', e', _⟩⟩ := hb.2 i x p h1 h2
          exact ⟨⟨A, m, c, e⟩, ⟨A', m', c', e'⟩⟩)) (by simp only [maxLen]; omega) (by omega) hbase
    exact ⟨v', w', hrun, h2, (Below.refl _ _).grown h3 hbase fun k hk => (World.ownsRow.lt hown k hk).1⟩
theorem wpList_wantS {ops : Array Oper} {rest : List Oper} {o : Oper} {a : Act} {w : World} {Q : Exit → Act → World → Prop} (hw : Region.wanted o (yielded ops a.tmps) = true)
    (h : ∀ K : Act → World → Prop, (∀ a w, wpList Tryd.prog ops Q rest a w → K a w) → o.wp Tryd.prog a w K Q) : wpList Tryd.prog ops Q (o :: rest) a w :=
  wpList_step fun K hK => by rw [if_pos hw]; exact h K hK
theorem wpList_appSteps {w : World} {ops : Array Oper} {rest : List Oper} {o : Oper} {a : Act} {Q : Exit → Act → World → Prop} (hw : Region.wanted o (yielded ops a.tmps) = true) (s x : Operand) (t : TypeId)
    (ho : o.op = .call { callee := .builtin .append, args := #[s, x], argTypes := #[t, t] }) (base : Nat) (ht : Tryd.prog.underlying t = some (.slice TS)) (v : Value) (n : Nat) (xs : List Value) (hs : a.eval s = v) (hown : w.ownsRow base TS 6 v n xs)
    (A : Option Addr) (m c : Nat) (L : List TStep) (P : List (Value × Value)) (hx : a.eval x = .slice A m c) (hS : SrcS w A m L P) (hB : SubsS w L P) (hn : n + m ≤ 1000000000) (hbase : base ≤ w.heap.size)
    (h : ∀ v' w', w'.ownsRow base TS 6 v' (n + m) (xs ++ stepsC L P) → Below base w w' → wpList Tryd.prog ops Q rest (a.put o.dst v') w') : wpList Tryd.prog ops Q (o :: rest) a w :=
  wpList_wantS hw fun K hK => by
    obtain ⟨v', w', hrun, h2, h3⟩ := run_appSteps base t o.type ht v n xs hown A m c L P hS hB hn hbase
    unfold Oper.wp execOp
    simp only [ho, resolve, invoke, builtin, Sem.run_bind, Sem.run_pure, Result.andThen_ok, List.map_toArray, List.map_cons, List.map_nil, hs, hx, hrun]
    exact hK _ _ (h v' w' h2 h3)
/-- such a row reads as steps -/
theorem sts_own {w : World} {B n : Nat} {v : Value} {L : List TStep} {P : List (Value × Value)} (h : w.ownsRow B TS 6 v n (stepsC L P)) (hl : L.length = n) (hs : SubsS w L P) : ∃ A c, v = .slice A n c ∧ Sts w A n c L := by
  rcases h.2 with ⟨rfl, h0⟩ | ⟨g, cap, cur, rfl, _, _, h3, h4, _⟩
  · subst h0
    exact ⟨none, 0, rfl, hl, by omega, by simp [maxLen], fun h => by omega⟩
  · refine ⟨some ⟨g, 0, none⟩, cap, rfl, hl, h3, h4, fun _ => ⟨g, 0, rfl, fun i x hx => ?_⟩⟩
    have hi : i < L.length := (List.getElem?_eq_some_iff.1 hx).1
    have hp : P[i]? = some (P[i]'(by rw [hs.1]; exact hi)) := List.getElem?_eq_getElem _
    generalize P[i]'(by rw [hs.1]; exact hi) = p at hp
    have key : ∀ j, j < 6 → w.cell? ⟨g, 0 + i * 6 + j, none⟩ = (stepC x p)[j]? := by
      intro j hj
      rw [Nat.zero_add, h.cellAt (i * 6 + j) (by omega), stepsC_at hx hp j hj]
    obtain ⟨⟨A, m, c, e1, hB⟩, ⟨A', m', c', e2, hO⟩⟩ := hs.2 i x p hx hp
    refine ⟨key 0 (by omega), key 1 (by omega), key 2 (by omega), ⟨A, m, c, ?_, hB⟩, ⟨A', m', c', ?_, hO⟩, key 5 (by omega)⟩
    · rw [key 3 (by omega), ← e1]; rfl
    · rw [key 4 (by omega), ← e2]; rfl
theorem own_lit0 (w : World) : (w.alloc (.cells #[] TS)).ownsRow w.heap.size TS 6 (.slice (some ⟨w.heap.size, 0, none⟩) 0 0) 0 [] :=
  ⟨rfl, .inr ⟨w.heap.size, 0, #[], rfl, Nat.le_refl _, heap_alloc_new w _, Nat.le_refl _, by simp [maxLen], rfl, rfl⟩⟩
end Go.Proofs.YtnoppnnpennddaaDoor
