/- Layer 19: steps that a call has made itself: how they lie. -/
import Derived.Test.YtnoppnnpennddaaDoorTrS
namespace Go.Proofs.YtnoppnnpennddaaDoor
open Go.RowKit

/-- a slice that reads as bytes, and lies in none of the blocks X -/
def BsX (X : Nat → Prop) (w : World) (v : Value) (l : List UInt8) : Prop := ∃ A m c, v = .slice A m c ∧ Bs w A m c l ∧ ∀ a, A = some a → m = 0 ∨ ¬ X a.block
def OutX (X : Nat → Prop) (w : World) (b o i : Nat) (x : TOut) : Prop := w.cell? ⟨b, o + i * 2, none⟩ = some (.bool x.back) ∧ ∃ v, w.cell? ⟨b, o + i * 2 + 1, none⟩ = some v ∧ BsX X w v x.l
def TOsX (X : Nat → Prop) (w : World) (v : Value) (L : List TOut) : Prop := ∃ A m c, v = .slice A m c ∧ L.length = m ∧ m ≤ c ∧ c ≤ maxLen ∧ (0 < m → ∃ b o, A = some ⟨b, o, none⟩ ∧ ¬ X b ∧ ∀ i x, L[i]? = some x → OutX X w b o i x)
section
variable {X Y : Nat → Prop} {w w' : World} {v : Value}
theorem BsX.bs {l : List UInt8} (h : BsX X w v l) : ∃ A m c, v = .slice A m c ∧ Bs w A m c l := by
  obtain ⟨A, m, c, e, hB, _⟩ := h
  exact ⟨A, m, c, e, hB⟩
/-- other blocks, at a world in which none but blocks of X have changed -/
theorem BsX.ch {l : List UInt8} (h : BsX X w v l) (hc : Ch X w w') (hY : ∀ b, b < w.heap.size → Y b → X b) : BsX Y w' v l := by
  obtain ⟨A, m, c, e, hB, hx⟩ := h
  refine ⟨A, m, c, e, ⟨hB.1, hB.2.1, hB.2.2.1, fun hn => ?_⟩, fun a ha => ?_⟩
  · obtain ⟨b, o, eA, hlt, hcell⟩ := hB.at_ hn
    refine ⟨b, o, eA, fun i x hi => ?_⟩
    have hne := (hx _ eA).resolve_left (by omega)
    have hb := hc.block b hlt hne
    have := hcell i x hi
    simp only [World.cell?, hb] at this ⊢
    exact this
  · by_cases h0 : m = 0
    · exact .inl h0
    · obtain ⟨b, o, eA, hlt, _⟩ := hB.at_ (by omega)
      rw [ha] at eA
      injection eA with eA
      subst eA
      exact .inr (fun hy => (hx _ ha).resolve_left h0 (hY _ hlt hy))
theorem OutX.ch {b o i : Nat} {x : TOut} (h : OutX X w b o i x) (hn : ¬ X b) (hc : Ch X w w') (hY : ∀ b, b < w.heap.size → Y b → X b) : OutX Y w' b o i x := by
  obtain ⟨h0, u, h1, h2⟩ := h
  have hb := hc.block b (World.block_lt_of_cell? w _ h0) hn
  refine ⟨?_, u, ?_, h2.ch hc hY⟩
  · simp only [World.cell?, hb] at h0 ⊢
    exact h0
  · simp only [World.cell?, hb] at h1 ⊢
    exact h1
theorem TOsX.ch {L : List TOut} (h : TOsX X w v L) (hc : Ch X w w') (hY : ∀ b, b < w.heap.size → Y b → X b) : TOsX Y w' v L := by
  obtain ⟨A, m, c, e, hl, hle, hm, hx⟩ := h
  refine ⟨A, m, c, e, hl, hle, hm, fun hn => ?_⟩
  obtain ⟨b, o, eA, hnb, hi⟩ := hx hn
  refine ⟨b, o, eA, fun hy => ?_, fun i x hx' => (hi i x hx').ch hnb hc hY⟩
  have h0 := hi 0 (L[0]'(by omega)) (List.getElem?_eq_getElem _)
  exact hnb (hY b (World.block_lt_of_cell? w _ h0.1) hy)
theorem TOsX.tos {L : List TOut} (h : TOsX X w v L) : ∃ A m c, v = .slice A m c ∧ TOs w A m c L := by
  obtain ⟨A, m, c, e, hl, hle, hm, hx⟩ := h
  refine ⟨A, m, c, e, hl, hle, hm, fun hn => ?_⟩
  obtain ⟨b, o, eA, _, hi⟩ := hx hn
  refine ⟨b, o, eA, fun i x hx' => ?_⟩
  obtain ⟨h0, u, h1, h2⟩ := hi i x hx'
  obtain ⟨A', m', c', rfl, hB⟩ := h2.bs
  exact ⟨h0, A', m', c', h1, hB⟩
end
/-- the cells of steps, and of outputs -/
def stepC (x : TStep) (p : Value × Value) : List Value := [.int .i64 x.k, .int .i64 x.n, .int .i64 x.kp, p.1, p.2, .bool x.cr]
def stepsC : List TStep → List (Value × Value) → List Value
  | x :: L, p :: P => stepC x p ++ stepsC L P
  | _, _ => []
def outsC : List TOut → List Value → List Value
  | x :: L, d :: D => .bool x.back :: d :: outsC L D
  | _, _ => []
theorem stepsC_len : ∀ {L : List TStep} {P : List (Value × Value)}, P.length = L.length → (stepsC L P).length = L.length * 6
  | [], [], _ => rfl
  | x :: L, p :: P, h => by
    have := stepsC_len (L := L) (P := P) (by simpa using h)
    simp only [stepsC, stepC, List.length_append, List.length_cons, List.length_nil, this]
    omega
theorem outsC_len : ∀ {L : List TOut} {D : List Value}, D.length = L.length → (outsC L D).length = L.length * 2
  | [], [], _ => rfl
  | x :: L, d :: D, h => by
    have := outsC_len (L := L) (D := D) (by simpa using h)
    simp only [outsC, List.length_cons, this]
    omega
theorem stepsC_at : ∀ {L : List TStep} {P : List (Value × Value)} {i : Nat} {x : TStep} {p : Value × Value}, L[i]? = some x → P[i]? = some p → ∀ j, j < 6 → (stepsC L P)[i * 6 + j]? = (stepC x p)[j]?
  | [], _, _, _, _, h, _, _, _ => by simp at h
  | _ :: _, [], _, _, _, _, h, _, _ => by simp at h
  | y :: L, q :: P, 0, x, p, h, h', j, hj => by
    simp only [List.getElem?_cons_zero, Option.some.injEq] at h h'
    subst h h'
    simp only [stepsC, Nat.zero_mul, Nat.zero_add]
    rw [List.getElem?_append_left (by simp [stepC]; omega)]
  | y :: L, q :: P, i + 1, x, p, h, h', j, hj => by
    simp only [List.getElem?_cons_succ] at h h'
    have := stepsC_at h h' j hj
    simp only [stepsC]
    rw [List.getElem?_append_right (by simp [stepC]; omega), ← this]
    congr 1
    simp [stepC]
    omega
theorem outsC_at : ∀ {L : List TOut} {D : List Value} {i : Nat} {x : TOut} {d : Value}, L[i]? = some x → D[i]? = some d → (outsC L D)[i * 2]? = some (.bool x.back) ∧ (outsC L D)[i * 2 + 1]? = some d
  | [], _, _, _, _, h, _ => by simp at h
  | _ :: _, [], _, _, _, _, h => by simp at h
  | y :: L, q :: D, 0, x, d, h, h' => by
    simp only [List.getElem?_cons_zero, Option.some.injEq] at h h'
    subst h h'
    exact ⟨rfl, rfl⟩
  | y :: L, q :: D, i + 1, x, d, h, h' => by
    simp only [List.getElem?_cons_succ] at h h'
    obtain ⟨h1, h2⟩ := outsC_at h h'
    simp only [outsC]
    rw [show (i + 1) * 2 = i * 2 + 1 + 1 from by omega, show (i * 2 + 1 + 1 + 1 : Nat) = (i * 2 + 1) + 1 + 1 from rfl]
    exact ⟨h1, h2⟩
/-- the blocks that may still be written: the row of steps, the last one's row of outputs -/
abbrev XS (g : Nat) (ov : Value) : Nat → Prop := fun b => b = g ∨ ov.ownBlock = some b
/-- the steps L0 and x that a call has made itself, from block B on -/
def PSt1 (w : World) (B g cap : Nat) (L0 : List TStep) (P0 : List (Value × Value)) (x : TStep) (dv ov : Value) (D : List Value) : Prop :=
  P0.length = L0.length ∧ w.ownsRow B TS 6 (.slice (some ⟨g, 0, none⟩) (L0.length + 1) cap) (L0.length + 1) (stepsC L0 P0 ++ stepC x (dv, ov)) ∧
  (∀ (i : Nat) (y : TStep) (p : Value × Value), L0[i]? = some y → P0[i]? = some p → BsX (XS g ov) w p.1 y.l ∧ TOsX (XS g ov) w p.2 y.outs) ∧ BsX (XS g ov) w dv x.l ∧
  D.length = x.outs.length ∧ w.ownsRow B TO 2 ov x.outs.length (outsC x.outs D) ∧ (∀ (i : Nat) (y : TOut) (d : Value), x.outs[i]? = some y → D[i]? = some d → BsX (XS g ov) w d y.l)
def PSt (w : World) (B : Nat) (v : Value) (L : List TStep) : Prop :=
  (L = [] ∧ v = nilE) ∨ ∃ L0 x P0 dv ov D g cap, L = L0 ++ [x] ∧ v = .slice (some ⟨g, 0, none⟩) (L0.length + 1) cap ∧ PSt1 w B g cap L0 P0 x dv ov D
theorem PSt1.below {w w' : World} {B g cap : Nat} {L0 : List TStep} {P0 : List (Value × Value)} {x : TStep} {dv ov : Value} {D : List Value} (h : PSt1 w B g cap L0 P0 x dv ov D) (hb : Below w.heap.size w w') : PSt1 w' B g cap L0 P0 x dv ov D := by
  obtain ⟨h1, h2, h3, h4, h5, h6, h7⟩ := h
  have hc : Ch (XS g ov) w w' := Ch.of_below hb
  exact ⟨h1, row_below h2 hb, fun i y p hy hp => ⟨(h3 i y p hy hp).1.ch hc (fun _ _ h => h), (h3 i y p hy hp).2.ch hc (fun _ _ h => h)⟩, h4.ch hc (fun _ _ h => h), h5, row_below h6 hb, fun i y d hy hd => (h7 i y d hy hd).ch hc (fun _ _ h => h)⟩
theorem PSt.below {w w' : World} {B : Nat} {v : Value} {L : List TStep} (h : PSt w B v L) (hb : Below w.heap.size w w') : PSt w' B v L := by
  rcases h with h | ⟨L0, x, P0, dv, ov, D, g, cap, e, ev, h⟩
  · exact .inl h
  · exact .inr ⟨L0, x, P0, dv, ov, D, g, cap, e, ev, h.below hb⟩
theorem Ch.wide {X Y : Nat → Prop} {w w' : World} (h : Ch X w w') (hXY : ∀ b, X b → Y b) : Ch Y w w' := ⟨h.os, h.tape, h.output, h.size, fun k hk hn => h.block k hk (fun hx => hn (hXY k hx))⟩
/-- rows of other types lie in other blocks -/
theorem own_apart {w : World} {B B' n n' s s' g : Nat} {e e' : TypeId} {v : Value} {A : Option Addr} {m c : Nat} {xs xs' : List Value} (h : w.ownsRow B e s v n xs) (h' : w.ownsRow B' e' s' (.slice A m c) n' xs') (he : e ≠ e') (hA : A = some ⟨g, 0, none⟩) : v.ownBlock ≠ some g := by
  rcases h'.2 with ⟨h0, _⟩ | ⟨g', cap', cur', h1, _, h2, _⟩
  · rw [hA] at h0
    simp at h0
  · rw [hA] at h1
    simp only [Value.slice.injEq, Option.some.injEq, Addr.mk.injEq, and_true] at h1
    obtain ⟨rfl, _⟩ := h1
    rcases h.2 with ⟨rfl, _⟩ | ⟨g2, cap2, cur2, rfl, _, h3, _⟩
    · simp [Value.ownBlock]
    · intro hx
      simp only [Value.ownBlock, Option.some.injEq] at hx
      rw [hx, h2] at h3
      simp at h3
      exact he h3.2.symm
/-- outputs of the call's own, read -/
theorem TOsX.of_own {X Y : Nat → Prop} {w : World} {B n : Nat} {ov : Value} {L : List TOut} {D : List Value} (ho : w.ownsRow B TO 2 ov n (outsC L D)) (hl : L.length = n) (hD : D.length = L.length)
    (hd : ∀ (i : Nat) (y : TOut) (d : Value), L[i]? = some y → D[i]? = some d → BsX Y w d y.l) (hX : ∀ b, b < w.heap.size → X b → Y b) (hn : ∀ k, ov.ownBlock = some k → ¬ X k) : TOsX X w ov L := by
  rcases ho.2 with ⟨rfl, h0⟩ | ⟨g, cap, cur, rfl, _, _, hle, hmx, _⟩
  · exact ⟨none, 0, 0, rfl, by omega, by omega, by simp [maxLen], fun h => by omega⟩
  · refine ⟨some ⟨g, 0, none⟩, n, cap, rfl, hl, hle, hmx, fun _ => ⟨g, 0, rfl, hn g rfl, fun i x hx => ?_⟩⟩
    have hi : i < L.length := (List.getElem?_eq_some_iff.1 hx).1
    have hdi : D[i]? = some (D[i]'(by omega)) := List.getElem?_eq_getElem _
    obtain ⟨c0, c1⟩ := outsC_at hx hdi
    have e0 := ho.cellAt (i * 2) (by omega)
    have e1 := ho.cellAt (i * 2 + 1) (by omega)
    rw [c0] at e0
    rw [c1] at e1
    refine ⟨by rw [Nat.zero_add]; exact e0, _, by rw [Nat.zero_add]; exact e1, (hd i x _ hx hdi).ch (Ch.refl _ w) hX⟩
theorem stepsC_snoc : ∀ {L : List TStep} {P : List (Value × Value)} (x : TStep) (p : Value × Value), P.length = L.length → stepsC (L ++ [x]) (P ++ [p]) = stepsC L P ++ stepC x p
  | [], [], x, p, _ => by simp [stepsC]
  | y :: L, q :: P, x, p, h => by
    have := stepsC_snoc (L := L) (P := P) x p (by simpa using h)
    simp only [List.cons_append, stepsC, this, List.append_assoc]
/-- .. read as steps that lie somewhere -/
theorem PSt1.sts {w : World} {B g cap : Nat} {L0 : List TStep} {P0 : List (Value × Value)} {x : TStep} {dv ov : Value} {D : List Value} (h : PSt1 w B g cap L0 P0 x dv ov D) : Sts w (some ⟨g, 0, none⟩) (L0.length + 1) cap (L0 ++ [x]) := by
  obtain ⟨h1, h2, h3, h4, h5, h6, h7⟩ := h
  have hcap : L0.length + 1 ≤ cap ∧ cap ≤ maxLen := by
    rcases h2.2 with ⟨h0, _⟩ | ⟨g', cap', cur, hv, _, _, a, b, _⟩
    · simp at h0
    · simp only [Value.slice.injEq] at hv
      obtain ⟨_, _, rfl⟩ := hv
      exact ⟨a, b⟩
  refine ⟨by simp, hcap.1, hcap.2, fun _ => ⟨g, 0, rfl, fun i y hy => ?_⟩⟩
  have hi : i < L0.length + 1 := by have := (List.getElem?_eq_some_iff.1 hy).1; simpa using this
  rw [← stepsC_snoc x (dv, ov) h1] at h2
  have hp : (P0 ++ [(dv, ov)])[i]? = some ((P0 ++ [(dv, ov)])[i]'(by simp; omega)) := List.getElem?_eq_getElem _
  generalize (P0 ++ [(dv, ov)])[i]'(by simp; omega) = p at hp
  have key : ∀ j, j < 6 → w.cell? ⟨g, 0 + i * 6 + j, none⟩ = (stepC y p)[j]? := by
    intro j hj
    rw [Nat.zero_add, h2.cellAt (i * 6 + j) (by omega), stepsC_at hy hp j hj]
  have hsub : (∃ A m c, p.1 = .slice A m c ∧ Bs w A m c y.l) ∧ (∃ A m c, p.2 = .slice A m c ∧ TOs w A m c y.outs) := by
    by_cases hlt : i < L0.length
    · rw [List.getElem?_append_left hlt] at hy
      rw [List.getElem?_append_left (by omega)] at hp
      exact ⟨(h3 i y p hy hp).1.bs, (h3 i y p hy hp).2.tos⟩
    · obtain rfl : i = L0.length := by omega
      rw [List.getElem?_append_right (Nat.le_refl _), Nat.sub_self] at hy
      rw [List.getElem?_append_right (by omega), h1, Nat.sub_self] at hp
      simp only [List.getElem?_cons_zero, Option.some.injEq] at hy hp
      subst hy hp
      exact ⟨h4.bs, (TOsX.of_own (X := fun _ => False) h6 rfl h5 h7 (fun _ _ h => h.elim) (fun _ _ h => h)).tos⟩
  obtain ⟨⟨A, m, c, e1, hB⟩, ⟨A', m', c', e2, hO⟩⟩ := hsub
  refine ⟨key 0 (by omega), key 1 (by omega), key 2 (by omega), ⟨A, m, c, ?_, hB⟩, ⟨A', m', c', ?_, hO⟩, key 5 (by omega)⟩
  · rw [key 3 (by omega), ← e1]; rfl
  · rw [key 4 (by omega), ← e2]; rfl
/-- a step more -/
theorem PSt1.app {w w' : World} {B g cap g' cap' : Nat} {L0 : List TStep} {P0 : List (Value × Value)} {x : TStep} {dv ov : Value} {D : List Value} (h : PSt1 w B g cap L0 P0 x dv ov D) (y : TStep) (dv' : Value) (hy : y.outs = [])
    (ho : w'.ownsRow B TS 6 (.slice (some ⟨g', 0, none⟩) (L0.length + 1 + 1) cap') (L0.length + 1 + 1) (stepsC L0 P0 ++ stepC x (dv, ov) ++ stepC y (dv', nilE))) (hc : Ch (fun b => b = g) w w') (hg : g' = g ∨ w.heap.size ≤ g') (hd : BsX (XS g' nilE) w' dv' y.l) :
    PSt1 w' B g' cap' (L0 ++ [x]) (P0 ++ [(dv, ov)]) y dv' nilE [] := by
  obtain ⟨h1, h2, h3, h4, h5, h6, h7⟩ := h
  have hY : ∀ b, b < w.heap.size → XS g' nilE b → b = g := by
    rintro b hb (rfl | h)
    · rcases hg with h | h
      · exact h
      · omega
    · simp [Value.ownBlock] at h
  have hcX : Ch (XS g ov) w w' := Ch.wide hc (fun b h => .inl h)
  refine ⟨by simp [h1], by rw [stepsC_snoc x (dv, ov) h1]; simpa using ho, fun i z p hz hp => ?_, hd, by simp [hy], ?_, fun i z d hz _ => by simp [hy] at hz⟩
  · by_cases hlt : i < L0.length
    · rw [List.getElem?_append_left hlt] at hz
      rw [List.getElem?_append_left (by omega)] at hp
      exact ⟨(h3 i z p hz hp).1.ch hcX (fun b hb hx => .inl (hY b hb hx)), (h3 i z p hz hp).2.ch hcX (fun b hb hx => .inl (hY b hb hx))⟩
    · have hi : i = L0.length := by
        have := (List.getElem?_eq_some_iff.1 hz).1
        simp only [List.length_append, List.length_cons, List.length_nil] at this
        omega
      subst hi
      rw [List.getElem?_append_right (Nat.le_refl _), Nat.sub_self] at hz
      rw [List.getElem?_append_right (by omega), h1, Nat.sub_self] at hp
      simp only [List.getElem?_cons_zero, Option.some.injEq] at hz hp
      subst hz hp
      have hne : ∀ k, ov.ownBlock = some k → ¬ (k = g) := fun k hk e => own_apart h6 h2 (by decide) rfl (by rw [hk, e])
      exact ⟨h4.ch hcX (fun b hb hx => .inl (hY b hb hx)), (TOsX.of_own (X := fun b => b = g) h6 rfl h5 h7 (fun b _ hx => .inl hx) hne).ch hc (fun b hb hx => hY b hb hx)⟩
  · rw [hy]
    exact World.ownsRow_nil _ _ _ _
end Go.Proofs.YtnoppnnpennddaaDoor
