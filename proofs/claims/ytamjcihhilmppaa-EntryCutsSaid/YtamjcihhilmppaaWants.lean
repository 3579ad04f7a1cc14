/- A row of the call's own, of slices that lay there ahead of it; 'append(l, m...)'. No condition. -/
import Derived.Test.YtamjcihhilmppaaRowsG
namespace Go.Proofs.Ytamjcihhilmppaa
open Go.RowKit

/-- v is a row of the call's own, from block B on; its slices vs read as L, and lie below B -/
def WantV (B : Nat) (w : World) (v : Value) (L : List (List UInt8)) (vs : List Value) : Prop :=
  vs.length = L.length ∧ w.ownsRow B 22 1 v L.length vs ∧ (∀ u ∈ vs, u.oneCell' = true) ∧
    ∀ (i : Nat) (u : Value) (x : List UInt8), vs[i]? = some u → L[i]? = some x → ∃ A c, u = .slice A x.length c ∧ Bs w A x.length c x ∧ (0 < x.length → ∀ b, A = some b → b.block < B)
def Wants (B : Nat) (w : World) (v : Value) (L : List (List UInt8)) : Prop := ∃ vs, WantV B w v L vs
theorem Wants.nil (B : Nat) (w : World) : Wants B w (.slice none 0 0) [] := ⟨[], rfl, World.ownsRow_nil w B 22 1, (fun u h => by cases h), (fun i u x h => by cases h)⟩
/-- '[][]byte{}' -/
theorem Wants.lit {B : Nat} {w : World} (hB : B ≤ w.heap.size) : Wants B (w.alloc (.cells #[] 22)) (.slice (some ⟨w.heap.size, 0, none⟩) 0 0) [] :=
  ⟨[], rfl, World.ownsRow_made w #[] 0 hB (by simp [maxLen]) (by simp), (fun u h => by cases h), (fun i u x h => by cases h)⟩
theorem WantV.ch {B : Nat} {S : Nat → Prop} {w w' : World} {v : Value} {L : List (List UInt8)} {vs : List Value} (h : WantV B w v L vs) (c : Ch S w w') (h1 : ∀ k, k < B → ¬ S k) (h2 : ∀ k, v.ownBlock = some k → ¬ S k) : WantV B w' v L vs := by
  obtain ⟨hl, ho, h3, hg⟩ := h
  refine ⟨hl, own_ch ho c h2, h3, fun i u x a b => ?_⟩
  obtain ⟨A, ci, e, hb, hlt⟩ := hg i u x a b
  exact ⟨A, ci, e, hb.ch c (fun h0 b hb => h1 _ (hlt h0 b hb)), hlt⟩
theorem Wants.ch {B : Nat} {S : Nat → Prop} {w w' : World} {v : Value} {L : List (List UInt8)} (h : Wants B w v L) (c : Ch S w w') (h1 : ∀ k, k < B → ¬ S k) (h2 : ∀ k, v.ownBlock = some k → ¬ S k) : Wants B w' v L := by
  obtain ⟨vs, h⟩ := h
  exact ⟨vs, h.ch c h1 h2⟩
theorem Wants.below {B : Nat} {w w' : World} {v : Value} {L : List (List UInt8)} (h : Wants B w v L) (hb : Below w.heap.size w w') : Wants B w' v L :=
  h.ch (Ch.of_below (S := fun _ => False) hb) (fun _ _ h => h) (fun _ _ h => h)
theorem Wants.rd {B : Nat} {w : World} {v : Value} {L : List (List UInt8)} (h : Wants B w v L) : ∃ A c, v = .slice A L.length c ∧ Rd w A L.length c L := by
  obtain ⟨vs, hl, ho, _, hg⟩ := h
  rcases ho.2 with ⟨rfl, h0⟩ | ⟨g, cap, cur, rfl, h1, h2, h3, h4, h5, h6⟩
  · exact ⟨none, 0, by rw [h0], rfl, by omega, by simp [maxLen], fun hn => by omega⟩
  · refine ⟨_, cap, rfl, rfl, h3, h4, fun _ => ⟨g, 0, rfl, (Array.getElem?_eq_some_iff.1 h2).1, fun i x hi => ?_⟩⟩
    have hil : i < L.length := (List.getElem?_eq_some_iff.1 hi).1
    have hgl : i < vs.length := by rw [hl]; exact hil
    obtain ⟨A, c, e, hb, _⟩ := hg i vs[i] x (List.getElem?_eq_getElem hgl) hi
    refine ⟨A, c, ?_, hb⟩
    rw [Nat.zero_add, cell_of_row w g i cur _ _ h2]
    have e2 : (cur.toList.take (L.length * 1))[i]? = vs[i]? := by rw [h6]
    rw [Nat.mul_one, List.getElem?_take, if_pos hil, List.getElem?_eq_getElem hgl, e] at e2
    simpa using e2
/-- the slices of rows that are read -/
theorem Rd.vals {w : World} {A : Option Addr} {n c : Nat} {L : List (List UInt8)} (h : Rd w A n c L) : ∃ vs : List Value, vs.length = n ∧ (∀ u ∈ vs, u.oneCell' = true) ∧ (∀ b, A = some b → 0 < n → b.spot = none) ∧ (∀ (j : Nat) (u : Value), vs[j]? = some u → ∃ b, A = some b ∧ w.cell? (b.add j) = some u) ∧
    ∀ (j : Nat) (u : Value) (x : List UInt8), vs[j]? = some u → L[j]? = some x → ∃ Aj cj, u = .slice Aj x.length cj ∧ Bs w Aj x.length cj x := by
  rcases Nat.eq_zero_or_pos n with h0 | h0
  · subst h0
    exact ⟨[], rfl, (fun u h => by cases h), (fun b _ h => by omega), (fun j u h => by cases h), (fun j u x h => by cases h)⟩
  obtain ⟨b, o, rfl, hlt, hc⟩ := h.2.2.2 h0
  have key : ∀ j, j < n → ∃ Aj cj, w.cell? ⟨b, o + j, none⟩ = some (.slice Aj (L.getD j []).length cj) ∧ Bs w Aj (L.getD j []).length cj (L.getD j []) := fun j hj => by
    have hx : L[j]? = some (L.getD j []) := by rw [List.getD_eq_getElem?_getD, List.getElem?_eq_getElem (by rw [h.1]; exact hj)]; rfl
    exact hc j _ hx
  have val : ∀ j, j < n → ∀ u, ((List.range n).map fun j => (w.cell? ⟨b, o + j, none⟩).getD (.bool false))[j]? = some u → w.cell? ⟨b, o + j, none⟩ = some u := fun j hj u hu => by
    obtain ⟨Aj, cj, e, _⟩ := key j hj
    rw [List.getElem?_map, List.getElem?_range hj] at hu
    simp only [Option.map_some, Option.some.injEq, e, Option.getD_some] at hu
    rw [e, hu]
  have lt : ∀ j u, ((List.range n).map fun j => (w.cell? ⟨b, o + j, none⟩).getD (.bool false))[j]? = some u → j < n := fun j u hu => by
    have := (List.getElem?_eq_some_iff.1 hu).1
    simpa using this
  refine ⟨(List.range n).map fun j => (w.cell? ⟨b, o + j, none⟩).getD (.bool false), by simp, fun u hu => ?_, fun b' hb _ => by injection hb with hb; subst hb; rfl, fun j u hu => ⟨_, rfl, ?_⟩, fun j u x hu hx => ?_⟩
  · obtain ⟨j, hj⟩ := List.getElem?_of_mem hu
    have hjn := lt j u hj
    obtain ⟨Aj, cj, e, _⟩ := key j hjn
    have := val j hjn u hj
    rw [e] at this
    injection this with this
    subst this
    rfl
  · rw [Addr.add_lit]
    exact val j (lt j u hu) u hu
  · have hjn := lt j u hu
    have h1 := val j hjn u hu
    obtain ⟨Aj, cj, e, hb⟩ := hc j x hx
    rw [e] at h1
    injection h1 with h1
    exact ⟨Aj, cj, h1.symm, hb⟩
/-- many more -/
theorem WantV.more {B : Nat} {w w' : World} {v v' : Value} {L L2 : List (List UInt8)} {vs vs2 : List Value} (h : WantV B w v L vs) (hl2 : vs2.length = L2.length) (h12 : ∀ u ∈ vs2, u.oneCell' = true)
    (hg2 : ∀ (j : Nat) (u : Value) (x : List UInt8), vs2[j]? = some u → L2[j]? = some x → ∃ A c, u = .slice A x.length c ∧ Bs w A x.length c x ∧ (0 < x.length → ∀ b, A = some b → b.block < B))
    (hown : w'.ownsRow B 22 1 v' (L.length + L2.length) (vs ++ vs2)) (hgr : w.grownBy w' v.ownBlock) : WantV B w' v' (L ++ L2) (vs ++ vs2) := by
  obtain ⟨hl, ho, h1, hg⟩ := h
  have hch : Ch (fun k => v.ownBlock = some k) w w' := Ch.of_grown hgr (fun k hk => hk)
  have hob : ∀ k, v.ownBlock = some k → B ≤ k := fun k hk => (World.ownsRow.lt ho k hk).1
  refine ⟨by simp [hl, hl2], by rw [List.length_append]; exact hown, fun u hu => ?_, fun i u z e1 e2 => ?_⟩
  · rcases List.mem_append.1 hu with hu | hu
    · exact h1 u hu
    · exact h12 u hu
  · by_cases hi : i < L.length
    · rw [List.getElem?_append_left (by rw [hl]; exact hi)] at e1
      rw [List.getElem?_append_left hi] at e2
      obtain ⟨A', c', e, hb, hlt'⟩ := hg i u z e1 e2
      exact ⟨A', c', e, hb.ch hch (fun h0 b hb hs => by have := hlt' h0 b hb; have := hob _ hs; omega), hlt'⟩
    · rw [List.getElem?_append_right (by rw [hl]; omega), hl] at e1
      rw [List.getElem?_append_right (by omega)] at e2
      obtain ⟨A', c', e, hb, hlt'⟩ := hg2 _ u z e1 e2
      exact ⟨A', c', e, hb.ch hch (fun h0 b hb hs => by have := hlt' h0 b hb; have := hob _ hs; omega), hlt'⟩

theorem wpList_onWant {P : Program} {ops : Array Oper} {rest : List Oper} {o : Oper} {a : Act} {w : World} {Q : Exit → Act → World → Prop} (hw : Region.wanted o (yielded ops a.tmps) = true)
    (h : ∀ K : Act → World → Prop, (∀ a w, wpList P ops Q rest a w → K a w) → o.wp P a w K Q) : wpList P ops Q (o :: rest) a w :=
  wpList_step fun K hK => by rw [if_pos hw]; exact h K hK
/-- 'append(l, m...)', guarded or not -/
theorem wpList_wants {ops : Array Oper} {rest : List Oper} {o : Oper} {a : Act} {Q : Exit → Act → World → Prop} {w w0 : World} (hwd : Region.wanted o (yielded ops a.tmps) = true) (s y : Operand)
    (ho : o.op = .call { callee := .builtin .append, args := #[s, y], argTypes := #[39, 39] }) (v : Value) (L L2 : List (List UInt8)) (A : Option Addr) (m c : Nat) (hs : a.eval s = v) (hy : a.eval y = .slice A m c) (hw : Wants w0.heap.size w v L) (hS : Rd w0 A m c L2) (hb : Below w0.heap.size w0 w) (hn : L.length + m ≤ 1099511627776)
    (h : ∀ v' w', Wants w0.heap.size w' v' (L ++ L2) → Below w0.heap.size w w' → wpList Try.prog ops Q rest (a.put o.dst v') w') : wpList Try.prog ops Q (o :: rest) a w := by
  obtain ⟨vs, hw⟩ := hw
  obtain ⟨vs2, hl2, h12, _, hcell, hg2⟩ := hS.vals
  have hL2 : L2.length = m := hS.1
  have hgg : ∀ (j : Nat) (u : Value) (x : List UInt8), vs2[j]? = some u → L2[j]? = some x → ∃ A c, u = .slice A x.length c ∧ Bs w A x.length c x ∧ (0 < x.length → ∀ b, A = some b → b.block < w0.heap.size) := fun j u x h1 h2 => by
    obtain ⟨Aj, cj, e, hbs⟩ := hg2 j u x h1 h2
    refine ⟨Aj, cj, e, hbs.below hb, fun h0 b hA => ?_⟩
    obtain ⟨b', o', e', hlt, _⟩ := hbs.at_ h0
    rw [e'] at hA
    injection hA with hA
    subst hA
    exact hlt
  have hbl : ∀ w', w.grownBy w' v.ownBlock → Below w0.heap.size w w' := fun w' hg => (Ch.of_grown (S := fun k => v.ownBlock = some k) hg (fun k hk => hk)).below (fun k hk => (World.ownsRow.lt hw.2.1 k hk).1) hb.size
  obtain ⟨i, hi, hzz⟩ := Option.map_eq_some_iff.1 rowsInfo
  simp only [Prod.mk.injEq] at hzz
  refine wpList_onWant hwd fun K hK => ?_
  rcases A with _ | ad
  · have hm : m = 0 := by
      rcases Nat.eq_zero_or_pos m with h | h
      · exact h
      · obtain ⟨b, o, e, _⟩ := hS.2.2.2 h
        cases e
    subst hm
    obtain rfl : L2 = [] := List.eq_nil_of_length_eq_zero hL2
    have hrun : (Builtin.append_ #[39, 39] o.type #[v, .slice none 0 c]).run Try.prog w = .ok v w := by
      rcases hw.2.1.2 with ⟨rfl, _⟩ | ⟨g, cap, cur, rfl, _, _, hnc, _⟩
      · simp [Builtin.append_, run_underlying Try.underlying39, sizeOf, typeInfo, hi, Builtin.lenOf, Builtin.firstCells]
      · simp [Builtin.append_, run_underlying Try.underlying39, sizeOf, typeInfo, hi, Builtin.lenOf, Builtin.firstCells, hnc, storeCells]
    unfold Oper.wp execOp
    simp only [ho, resolve, invoke, builtin, Sem.run_bind, Sem.run_pure, Result.andThen_ok, List.map_toArray, List.map_cons, List.map_nil, hs, hy, hrun]
    exact hK _ _ (h v w (by rw [List.append_nil]; exact ⟨vs, hw⟩) (Below.refl _ _))
  · obtain ⟨v', w', hrun, h2, h3, _, h5⟩ := run_append_own_at (P := Try.prog) w w0.heap.size 39 o.type 22 i (.slice none 0 0) 1 24 Try.underlying39 hi hzz.1 hzz.2.1 hzz.2.2 rfl (by decide) v L.length vs hw.2.1 ad m c vs2 (by rw [hl2, Nat.mul_one])
      (fun j u hu => by
        obtain ⟨b, e, hc⟩ := hcell j u hu
        injection e with e
        subst e
        obtain ⟨b', o', e', hlt, _⟩ := hS.2.2.2 (by have := (List.getElem?_eq_some_iff.1 hu).1; omega)
        injection e' with e'
        subst e'
        rw [Addr.add_lit] at hc ⊢
        exact (hb.cell (p := ⟨b', o' + j, none⟩) hlt).trans hc) h12 (by simp only [maxLen]; omega) (Nat.le_trans (Nat.mul_le_mul hn (by decide : 24 ≤ 64)) (by decide)) hb.size
    unfold Oper.wp execOp
    simp only [ho, resolve, invoke, builtin, Sem.run_bind, Sem.run_pure, Result.andThen_ok, List.map_toArray, List.map_cons, List.map_nil, hs, hy, hrun]
    exact hK _ _ (h v' w' ⟨_, hw.more (by rw [hl2, hL2]) h12 hgg (by rw [hL2]; exact h2) h3⟩ (hbl _ h3))
/-- 'append(l, x)': x lay there ahead of l -/
theorem wpList_want1 {ops : Array Oper} {rest : List Oper} {o : Oper} {a : Act} {Q : Exit → Act → World → Prop} {w : World} (hgd : o.guard = none) (s y : Operand)
    (ho : o.op = .call { callee := .builtin .append, args := #[s, y], argTypes := #[39, 39] }) (B : Nat) (v : Value) (L : List (List UInt8)) (x : List UInt8) (A : Option Addr) (c : Nat) (hs : a.eval s = v) (hw : Wants B w v L) (hx : Bs w A x.length c x) (hlt : 0 < x.length → ∀ b, A = some b → b.block < B)
    (g : Nat) (hy : a.eval y = .slice (some ⟨g, 0, none⟩) 1 1) (hg : w.heap[g]? = some (.cells #[.slice A x.length c] 22)) (hn : L.length + 1 ≤ 1099511627776) (hB : B ≤ w.heap.size)
    (h : ∀ v' w', Wants B w' v' (L ++ [x]) → w.grownBy w' v.ownBlock → (v'.ownBlock = v.ownBlock ∨ v'.ownBlock = some w.heap.size) → wpList Try.prog ops Q rest (a.put o.dst v') w') : wpList Try.prog ops Q (o :: rest) a w := by
  obtain ⟨vs, hw⟩ := hw
  have hone : ∀ (i : Nat) (u : Value) (z : List UInt8), [Value.slice A x.length c][i]? = some u → [x][i]? = some z → ∃ A c, u = .slice A z.length c ∧ Bs w A z.length c z ∧ (0 < z.length → ∀ b, A = some b → b.block < B) := fun i u z e1 e2 => by
    have : i = 0 := by
      rcases Nat.lt_or_ge i 1 with h | h
      · omega
      · rw [List.getElem?_eq_none (by simpa using h)] at e1; cases e1
    subst this
    simp at e1 e2
    subst e1 e2
    exact ⟨A, c, rfl, hx, hlt⟩
  refine wpList_appAt hgd s y 39 ho B 22 (.slice none 0 0) 24 Try.underlying39 rowsInfo rfl (by decide) v L.length vs hs hw.2.1 ⟨g, 0, none⟩ 1 1 [.slice A x.length c] hy rfl (fun j u hu => ?_) (fun u hu => ?_) hn hB (fun v' w' q1 q2 q3 => h v' w' ⟨_, hw.more rfl (fun u hu => ?_) hone q1 q2⟩ q2 q3)
  · have hj : j = 0 := by
      rcases Nat.lt_or_ge j 1 with h | h
      · omega
      · rw [List.getElem?_eq_none (by simpa using h)] at hu; cases hu
    subst hj
    rw [Addr.add_lit, Nat.zero_add, cell_of_row w g 0 _ _ _ hg]
    exact hu
  · simp at hu; subst hu; rfl
  · simp at hu; subst hu; rfl
/-- bytes and slices that are collected side by side -/
structure Coll (B : Nat) (w : World) (all : List UInt8) (wl : List (List UInt8)) (va vw : Value) (wr : World) : Prop where
  own : Own 5 wr B va all
  want : Wants B wr vw wl
  low : Below w.heap.size w wr
  sz : B ≤ wr.heap.size
  bw : w.heap.size ≤ B
theorem Wants.row {B : Nat} {w : World} {v : Value} {L : List (List UInt8)} (h : Wants B w v L) : ∃ vs, w.ownsRow B 22 1 v L.length vs := by
  obtain ⟨vs, _, h, _⟩ := h
  exact ⟨vs, h⟩
section
variable {B : Nat} {w wr w' : World} {all all' : List UInt8} {wl wl' : List (List UInt8)} {va va' vw vw' : Value}
theorem Coll.apart (h : Coll B w all wl va vw wr) (k : Nat) (h1 : va.ownBlock = some k) (h2 : vw.ownBlock = some k) : False := by
  obtain ⟨vs, hv⟩ := h.want.row
  obtain ⟨cur, hc⟩ := own_ty (show wr.ownsRow B 5 1 va all.length (u8s all) from h.own) k h1
  exact own_ne hv hc (by decide) h2.symm
theorem Coll.below (h : Coll B w all wl va vw wr) (hb : Below wr.heap.size wr w') : Coll B w all wl va vw w' :=
  ⟨h.own.below hb, h.want.below hb, h.low.trans (hb.mono (Nat.le_trans h.bw h.sz)), Nat.le_trans h.sz hb.size, h.bw⟩
theorem Coll.app (h : Coll B w all wl va vw wr) (ho : Own 5 w' B va' all') (hg : wr.grownBy w' va.ownBlock) : Coll B w all' wl va' vw w' := by
  have hc : Ch (fun k => va.ownBlock = some k) wr w' := Ch.of_grown hg (fun k hk => hk)
  have hb1 : ∀ k, va.ownBlock = some k → B ≤ k := fun k hk => (Own.lt h.own k hk).1
  have hbw := h.bw
  have hsz := h.sz
  exact ⟨ho, h.want.ch hc (fun k hk hs => by have := hb1 k hs; omega) (fun k hk hs => h.apart k hs hk), h.low.trans (hc.below (fun k hk => by have := hb1 k hk; omega) (by omega)), Nat.le_trans h.sz hc.size, hbw⟩
theorem Coll.wanted (h : Coll B w all wl va vw wr) (ho : Wants B w' vw' wl') (hg : wr.grownBy w' vw.ownBlock) : Coll B w all wl' va vw' w' := by
  have hc : Ch (fun k => vw.ownBlock = some k) wr w' := Ch.of_grown hg (fun k hk => hk)
  have hbw := h.bw
  have hsz := h.sz
  obtain ⟨vs, hv⟩ := h.want.row
  exact ⟨h.own.ch hc (fun k hk hs => h.apart k hk hs), ho, h.low.trans (hc.below (fun k hk => by have := (World.ownsRow.lt hv k hk).1; omega) (by omega)), Nat.le_trans h.sz hc.size, hbw⟩
end
end Go.Proofs.Ytamjcihhilmppaa
