/- Laid together: CutsMath, RowsG, Rw, Tail. -/
import Derived.Test.YtodjilljcjkacaaGreatDoorPkII4
import Derived.RegionTactic
import Derived.BigRegion
import Derived.Laws.EntriesVeiled
import Derived.LoopTactic
import Derived.Deep.QuietTactic
import Derived.Deep.RegionLaw
import Derived.StillTail
import Derived.BigQuiet

/- Layer 13: records behind each other, cut anywhere, as plain lists. -/
namespace Go.Proofs.YtodjilljcjkacaaGreatDoor
open Go.RowKit

/-- how many of them are whole in k bytes, and how many bytes these have -/
def cutI : List (List UInt8) → Nat → Nat × Nat
  | [], _ => (0, 0)
  | b :: r, k => if k < 8 + b.length then (0, 0) else ((cutI r (k - (8 + b.length))).1 + 1, 8 + b.length + (cutI r (k - (8 + b.length))).2)
def recs (own : List (List UInt8)) : List UInt8 := (own.map record).flatten
theorem recs_cons (b : List UInt8) (r : List (List UInt8)) : recs (b :: r) = record b ++ recs r := by simp [recs]
theorem recs_snoc (L : List (List UInt8)) (b : List UInt8) : recs (L ++ [b]) = recs L ++ record b := by simp [recs]

theorem get_short {b : List UInt8} (hok : okLen b.length = true) (k : Nat) (hk : k < 8 + b.length) : getErr ((record b).take k) = 7 := by
  unfold getErr
  have hl : ((record b).take k).length = k := by rw [List.length_take, record_length]; omega
  by_cases h8 : k < 8
  · rw [if_pos (by omega)]
  have e4 : ((record b).take k).take 4 = be4 b.length := by
    rw [List.take_take, show min 4 k = 4 from by omega]
    unfold record
    rw [List.append_assoc, List.take_append_of_le_length (by simp [be4]), List.take_of_length_le (by simp [be4])]
  have hb := okLen_yes hok
  rw [if_neg (by omega), e4, beNum_be4 (by omega), if_neg (by rw [hok]; decide), if_pos (by omega)]

theorem cut_scan : ∀ (own : List (List UInt8)) (k : Nat), (∀ x ∈ own, okLen x.length = true) → k ≤ (recs own).length →
    scan ((recs own).take k) = (own.take (cutI own k).1, (cutI own k).2, if (cutI own k).2 = k then 0 else 7)
  | [], k, _, hk => by
    have h0 : k = 0 := by simpa [recs] using hk
    subst h0
    rfl
  | b :: r, k, hok, hk => by
    have hb := hok b (by simp)
    rw [recs_cons] at hk ⊢
    by_cases hlt : k < 8 + b.length
    · have hc : cutI (b :: r) k = (0, 0) := by simp [cutI, hlt]
      rw [hc, List.take_append_of_le_length (by rw [record_length]; omega)]
      by_cases h0 : k = 0
      · subst h0
        simp [scan_nil]
      · have he := get_short hb k hlt
        have hl : ((record b).take k).length = k := by rw [List.length_take, record_length]; omega
        rw [scan_err (by omega) (by omega), he, if_neg (by omega)]
        rfl
    · obtain ⟨j, hj⟩ : ∃ j, k = 8 + b.length + j := ⟨k - (8 + b.length), by omega⟩
      subst hj
      have hc : cutI (b :: r) (8 + b.length + j) = ((cutI r j).1 + 1, 8 + b.length + (cutI r j).2) := by
        simp only [cutI, if_neg hlt, show 8 + b.length + j - (8 + b.length) = j from by omega]
      have ht : (record b ++ recs r).take (8 + b.length + j) = record b ++ (recs r).take j := by
        rw [List.take_append, List.take_of_length_le (by rw [record_length]; omega), record_length, show 8 + b.length + j - (8 + b.length) = j from by omega]
      obtain ⟨g1, g2, g3⟩ := get_record b ((recs r).take j) hb
      have hs := scan_ok g1
      have hd : (record b ++ (recs r).take j).drop (8 + b.length) = (recs r).take j := List.drop_left' (by rw [record_length])
      have ih := cut_scan r j (fun x hx => hok x (List.mem_cons_of_mem _ hx)) (by rw [List.length_append, record_length] at hk; omega)
      rw [g2, g3, hd, ih] at hs
      rw [ht, hs, hc]
      refine Prod.ext (by simp) (Prod.ext rfl ?_)
      show (if (cutI r j).2 = j then (0 : Int) else 7) = if 8 + b.length + (cutI r j).2 = 8 + b.length + j then 0 else 7
      by_cases h : (cutI r j).2 = j
      · rw [if_pos h, if_pos (by omega)]
      · rw [if_neg h, if_neg (by omega)]
/-- ahead of the i-th -/
def CutAt (own : List (List UInt8)) (k i at_ : Nat) : Prop := i ≤ own.length ∧ at_ ≤ k ∧ (cutI own k).1 = i + (cutI (own.drop i) (k - at_)).1 ∧ (cutI own k).2 = at_ + (cutI (own.drop i) (k - at_)).2
theorem CutAt.start (own : List (List UInt8)) (k : Nat) : CutAt own k 0 0 := ⟨Nat.zero_le _, Nat.zero_le _, by simp, by simp⟩
theorem drop_cons {own : List (List UInt8)} {i : Nat} (h : i < own.length) : own.drop i = own.getD i [] :: own.drop (i + 1) := by
  rw [List.drop_eq_getElem_cons h, List.getD_eq_getElem?_getD, List.getElem?_eq_getElem h]
  rfl
theorem CutAt.more {own : List (List UInt8)} {k i at_ : Nat} (h : CutAt own k i at_) (hi : i < own.length) (hk : ¬ k < at_ + (8 + (own.getD i []).length)) : CutAt own k (i + 1) (at_ + (8 + (own.getD i []).length)) := by
  obtain ⟨h1, h2, h3, h4⟩ := h
  rw [drop_cons hi] at h3 h4
  have e : cutI (own.getD i [] :: own.drop (i + 1)) (k - at_) = ((cutI (own.drop (i + 1)) (k - (at_ + (8 + (own.getD i []).length)))).1 + 1, 8 + (own.getD i []).length + (cutI (own.drop (i + 1)) (k - (at_ + (8 + (own.getD i []).length)))).2) := by
    rw [cutI, if_neg (by omega), Nat.sub_sub]
  rw [e] at h3 h4
  simp only at h3 h4
  exact ⟨by omega, by omega, by omega, by omega⟩
theorem CutAt.stop {own : List (List UInt8)} {k i at_ : Nat} (h : CutAt own k i at_) (hi : i < own.length) (hk : k < at_ + (8 + (own.getD i []).length)) : cutI own k = (i, at_) := by
  obtain ⟨h1, h2, h3, h4⟩ := h
  rw [drop_cons hi, cutI, if_pos (by omega)] at h3 h4
  exact Prod.ext h3 h4
theorem CutAt.all {own : List (List UInt8)} {k i at_ : Nat} (h : CutAt own k i at_) (hi : i = own.length) : cutI own k = (i, at_) := by
  obtain ⟨h1, h2, h3, h4⟩ := h
  rw [hi, List.drop_length, cutI] at h3 h4
  exact Prod.ext (by rw [h3, hi]; rfl) h4
end Go.Proofs.YtodjilljcjkacaaGreatDoor
/- Rows of rows of bytes in memory, as they are read. No condition. -/
namespace Go.Proofs.YtodjilljcjkacaaGreatDoor
open Go.RowKit

theorem rowsInfo : (Tryz.prog.info? 40).map (fun i => (i.zero, i.size, i.bytes)) = some (some (.slice none 0 0), 1, 24) := by kernel_rfl
/-- the slice '.slice A n c' reads as the rows L -/
def Rd (w : World) (A : Option Addr) (n c : Nat) (L : List (List UInt8)) : Prop :=
  L.length = n ∧ n ≤ c ∧ c ≤ maxLen ∧ (0 < n → ∃ b o, A = some ⟨b, o, none⟩ ∧ b < w.heap.size ∧ ∀ (i : Nat) (x : List UInt8), L[i]? = some x → ∃ Ai ci, w.cell? ⟨b, o + i, none⟩ = some (.slice Ai x.length ci) ∧ Bs w Ai x.length ci x)
theorem Rd.nmax {w : World} {A : Option Addr} {n c : Nat} {L : List (List UInt8)} (h : Rd w A n c L) : n ≤ 9223372036854775807 := by
  have := h.2.1
  have := h.2.2.1
  simp only [maxLen] at this
  omega
theorem Rd.below {w w' : World} {A : Option Addr} {n c : Nat} {L : List (List UInt8)} (h : Rd w A n c L) (hb : Below w.heap.size w w') : Rd w' A n c L :=
  ⟨h.1, h.2.1, h.2.2.1, fun hn => by
    obtain ⟨b, o, e, hlt, hc⟩ := h.2.2.2 hn
    exact ⟨b, o, e, Nat.lt_of_lt_of_le hlt hb.size, fun i x hx => by
      obtain ⟨Ai, ci, h1, h2⟩ := hc i x hx
      exact ⟨Ai, ci, (hb.cell (p := ⟨b, o + i, none⟩) hlt).trans h1, h2.below hb⟩⟩⟩
theorem Rd.read {w : World} {A : Option Addr} {n c : Nat} {L : List (List UInt8)} (h : Rd w A n c L) {i : Nat} (hi : i < n) : ∃ b o Ai ci, A = some ⟨b, o, none⟩ ∧ b < w.heap.size ∧ w.cell? ⟨b, o + i, none⟩ = some (.slice Ai (L.getD i []).length ci) ∧ Bs w Ai (L.getD i []).length ci (L.getD i []) := by
  obtain ⟨b, o, e, hlt, hc⟩ := h.2.2.2 (by omega)
  obtain ⟨Ai, ci, h1, h2⟩ := hc i (L.getD i []) (by rw [List.getD_eq_getElem?_getD, List.getElem?_eq_getElem (by rw [h.1]; exact hi)]; rfl)
  exact ⟨b, o, Ai, ci, e, hlt, h1, h2⟩
theorem Rd.drop {w : World} {A : Option Addr} {n c : Nat} {L : List (List UInt8)} (h : Rd w A n c L) {q : Nat} (hq : q ≤ n) : Rd w (if c = q then A else Option.map (fun x => x.add q) A) (n - q) (c - q) (L.drop q) := by
  obtain ⟨h1, h2, h3, h4⟩ := h
  refine ⟨by rw [List.length_drop, h1], by omega, by omega, fun hn => ?_⟩
  obtain ⟨b, o, rfl, hlt, hc⟩ := h4 (by omega)
  rw [if_neg (by omega)]
  refine ⟨b, o + q, by rw [Option.map_some, Addr.add_lit], hlt, fun i x hx => ?_⟩
  rw [List.getElem?_drop] at hx
  obtain ⟨Ai, ci, h5, h6⟩ := hc (q + i) x hx
  exact ⟨Ai, ci, by rw [Nat.add_assoc]; exact h5, h6⟩
end Go.Proofs.YtodjilljcjkacaaGreatDoor
/- A row of slices of bytes, of the call's own, that avoids some blocks. No condition. -/
namespace Go.Proofs.YtodjilljcjkacaaGreatDoor
open Go.RowKit

/-- v is a row of the call's own, from block B on, of the slices vs, which read as L; neither it nor they lie in blocks of T, and none of them lies in its block -/
def RwV (B : Nat) (T : Nat → Prop) (w : World) (v : Value) (L : List (List UInt8)) (vs : List Value) : Prop :=
  vs.length = L.length ∧ w.ownsRow B 40 1 v L.length vs ∧ (∀ u ∈ vs, u.oneCell' = true) ∧ (∀ k, v.ownBlock = some k → ¬ T k) ∧
    ∀ (i : Nat) (u : Value) (x : List UInt8), vs[i]? = some u → L[i]? = some x → ∃ A c, u = .slice A x.length c ∧ Bs w A x.length c x ∧ (0 < x.length → ∀ b, A = some b → ¬ v.ownBlock = some b.block ∧ ¬ T b.block)
def Rw (B : Nat) (T : Nat → Prop) (w : World) (v : Value) (L : List (List UInt8)) : Prop := ∃ vs, RwV B T w v L vs

section
variable {B : Nat} {T T' S : Nat → Prop} {w w' : World} {v v' : Value} {L : List (List UInt8)} {vs : List Value}
theorem Rw.nil (B : Nat) (T : Nat → Prop) (w : World) : Rw B T w (.slice none 0 0) [] := ⟨[], rfl, World.ownsRow_nil w B 40 1, (fun u h => by cases h), (fun k h => by cases h), (fun i u x h => by cases h)⟩
theorem RwV.form (h : RwV B T w v L vs) : ∃ A c, v = .slice A L.length c := own_form h.2.1
theorem Rw.form (h : Rw B T w v L) : ∃ A c, v = .slice A L.length c := by obtain ⟨vs, h⟩ := h; exact h.form
theorem RwV.ch (h : RwV B T w v L vs) (c : Ch S w w') (hS : ∀ k, k < w.heap.size → S k → T k) (hT : ∀ k, k < w.heap.size → T' k → T k) : RwV B T' w' v L vs := by
  obtain ⟨hl, ho, h1, h2, hg⟩ := h
  refine ⟨hl, own_ch ho c (fun k hk hs => h2 k hk (hS k (World.ownsRow.lt ho k hk).2 hs)), h1, fun k hk ht => h2 k hk (hT k (World.ownsRow.lt ho k hk).2 ht), fun i u x a b => ?_⟩
  obtain ⟨A, ci, e, hb, hne⟩ := hg i u x a b
  have hlt : 0 < x.length → ∀ b, A = some b → b.block < w.heap.size := fun h0 b hA => by
    obtain ⟨b', o', e', hlt, _⟩ := hb.at_ h0
    rw [e'] at hA
    injection hA with hA
    subst hA
    exact hlt
  exact ⟨A, ci, e, hb.ch c (fun h0 b hA hs => (hne h0 b hA).2 (hS _ (hlt h0 b hA) hs)), fun h0 b hA => ⟨(hne h0 b hA).1, fun ht => (hne h0 b hA).2 (hT _ (hlt h0 b hA) ht)⟩⟩
theorem Rw.ch (h : Rw B T w v L) (c : Ch S w w') (hS : ∀ k, k < w.heap.size → S k → T k) (hT : ∀ k, k < w.heap.size → T' k → T k) : Rw B T' w' v L := by
  obtain ⟨vs, h⟩ := h
  exact ⟨vs, h.ch c hS hT⟩
theorem Rw.below (h : Rw B T w v L) (hb : Below w.heap.size w w') : Rw B T w' v L := h.ch (Ch.of_below (S := fun _ => False) hb) (fun _ _ h => h.elim) (fun _ _ h => h)
theorem Rw.rd (h : Rw B T w v L) : ∃ A c, v = .slice A L.length c ∧ Rd w A L.length c L := by
  obtain ⟨vs, hl, ho, _, _, hg⟩ := h
  rcases ho.2 with ⟨rfl, h0⟩ | ⟨g, cap, cur, rfl, h1, h2, h3, h4, h5, h6⟩
  · exact ⟨none, 0, by rw [h0], rfl, by omega, by simp [maxLen], fun hn => by omega⟩
  · refine ⟨_, cap, rfl, rfl, h3, h4, fun _ => ⟨g, 0, rfl, (Array.getElem?_eq_some_iff.1 h2).1, fun i x hi => ?_⟩⟩
    have hil : i < L.length := (List.getElem?_eq_some_iff.1 hi).1
    have hgl : i < vs.length := by rw [hl]; exact hil
    obtain ⟨A, c, e, hb, _⟩ := hg i vs[i] x (List.getElem?_eq_getElem hgl) hi
    refine ⟨A, c, ?_, hb⟩
    rw [Nat.zero_add, cell_of_row w g i cur _ _ h2]
    have e2 : (cur.toList.take (L.length * 1))[i]? = vs[i]? := by rw [h6]
    rw [Nat.mul_one, List.getElem?_take, if_pos hil, List.getElem?_eq_getElem hgl, e] at e2
    simpa using e2
/-- one slice more -/
theorem RwV.more {x : List UInt8} {A : Option Addr} {c : Nat} (h : RwV B T w v L vs) (hx : Bs w A x.length c x) (hlt : 0 < x.length → ∀ b, A = some b → ¬ v.ownBlock = some b.block ∧ ¬ T b.block) (hTn : ¬ T w.heap.size)
    (hown : w'.ownsRow B 40 1 v' (L.length + 1) (vs ++ [.slice A x.length c])) (hgr : w.grownBy w' v.ownBlock) (hfr : v'.ownBlock = v.ownBlock ∨ v'.ownBlock = some w.heap.size) : RwV B T w' v' (L ++ [x]) (vs ++ [.slice A x.length c]) := by
  obtain ⟨hl, ho, h1, h2, hg⟩ := h
  have hch : Ch (fun k => v.ownBlock = some k) w w' := Ch.of_grown hgr (fun k hk => hk)
  have hnew : ∀ b : Addr, b.block < w.heap.size → ¬ v.ownBlock = some b.block → ¬ v'.ownBlock = some b.block := fun b hb hne e => by
    rcases hfr with q | q
    · exact hne (by rw [← q]; exact e)
    · rw [q] at e; injection e with e; omega
  have hblk : ∀ (A : Option Addr) (c : Nat) (y : List UInt8), Bs w A y.length c y → 0 < y.length → ∀ b, A = some b → b.block < w.heap.size := fun A c y hb h0 b hA => by
    obtain ⟨b', o', e', hlt, _⟩ := hb.at_ h0
    rw [e'] at hA
    injection hA with hA
    subst hA
    exact hlt
  refine ⟨by simp [hl], by rw [List.length_append]; exact hown, fun u hu => ?_, fun k hk ht => ?_, fun i u z e1 e2 => ?_⟩
  · rcases List.mem_append.1 hu with hu | hu
    · exact h1 u hu
    · simp at hu; rw [hu]; rfl
  · rcases hfr with q | q
    · exact h2 k (by rw [← q]; exact hk) ht
    · rw [q] at hk; injection hk with hk; rw [← hk] at ht; exact hTn ht
  · by_cases hi : i < L.length
    · rw [List.getElem?_append_left (by rw [hl]; exact hi)] at e1
      rw [List.getElem?_append_left hi] at e2
      obtain ⟨A', c', e, hb, hne⟩ := hg i u z e1 e2
      exact ⟨A', c', e, hb.ch hch (fun h0 b hA hs => (hne h0 b hA).1 hs), fun h0 b hA => ⟨hnew b (hblk _ _ _ hb h0 b hA) (hne h0 b hA).1, (hne h0 b hA).2⟩⟩
    · rw [List.getElem?_append_right (by rw [hl]; omega), hl] at e1
      rw [List.getElem?_append_right (by omega)] at e2
      have : i - L.length = 0 := by
        rcases Nat.lt_or_ge (i - L.length) 1 with h | h
        · omega
        · rw [List.getElem?_eq_none (by simpa using h)] at e2; cases e2
      rw [this] at e1 e2
      simp at e1 e2
      subst e1 e2
      exact ⟨A, c, rfl, hx.ch hch (fun h0 b hA hs => (hlt h0 b hA).1 hs), fun h0 b hA => ⟨hnew b (hblk _ _ _ hx h0 b hA) (hlt h0 b hA).1, (hlt h0 b hA).2⟩⟩
end

/-- 'append(l, x)': x lies in none of T, and not in l's block -/
theorem wpList_rw {ops : Array Oper} {rest : List Oper} {o : Oper} {a : Act} {Q : Exit → Act → World → Prop} {w : World} (hgd : o.guard = none) (s y : Operand)
    (ho : o.op = .call { callee := .builtin .append, args := #[s, y], argTypes := #[41, 41] }) (B : Nat) (T : Nat → Prop) (v : Value) (L : List (List UInt8)) (x : List UInt8) (A : Option Addr) (c : Nat) (hs : a.eval s = v) (hw : Rw B T w v L) (hx : Bs w A x.length c x)
    (hlt : 0 < x.length → ∀ b, A = some b → ¬ v.ownBlock = some b.block ∧ ¬ T b.block) (hTn : ¬ T w.heap.size)
    (g : Nat) (hy : a.eval y = .slice (some ⟨g, 0, none⟩) 1 1) (hg : w.heap[g]? = some (.cells #[.slice A x.length c] 40)) (hn : L.length + 1 ≤ 1099511627776) (hB : B ≤ w.heap.size)
    (h : ∀ v' w', Rw B T w' v' (L ++ [x]) → w.grownBy w' v.ownBlock → (v'.ownBlock = v.ownBlock ∨ v'.ownBlock = some w.heap.size) → wpList Tryz.prog ops Q rest (a.put o.dst v') w') : wpList Tryz.prog ops Q (o :: rest) a w := by
  obtain ⟨vs, hw⟩ := hw
  refine wpList_appAt hgd s y 41 ho B 40 (.slice none 0 0) 24 Tryz.underlying41 rowsInfo rfl (by decide) v L.length vs hs hw.2.1 ⟨g, 0, none⟩ 1 1 [.slice A x.length c] hy rfl (fun j u hu => ?_) (fun u hu => ?_) hn hB (fun v' w' q1 q2 q3 => h v' w' ⟨_, hw.more hx hlt hTn q1 q2 q3⟩ q2 q3)
  · have hj : j = 0 := by
      rcases Nat.lt_or_ge j 1 with h | h
      · omega
      · rw [List.getElem?_eq_none (by simpa using h)] at hu; cases hu
    subst hj
    rw [Addr.add_lit, Nat.zero_add, cell_of_row w g 0 _ _ _ hg]
    exact hu
  · simp at hu; subst hu; rfl
end Go.Proofs.YtodjilljcjkacaaGreatDoor
/- A region that draws its order, whose first operations only read, and whose last ones do what they like: one walk, in the order of the text, by the cheap step. -/
namespace Go.Proofs.YtodjilljcjkacaaGreatDoor
open Go.RowKit

/-- this world -/
structure Here (w : World) where
  u : World
  h : u = w
instance (w : World) : Nonempty (Here w) := ⟨⟨w, rfl⟩⟩
theorem still_of_quiet {P : Program} {o : Oper} {a : Act} {W : World} {K : Act → Prop} (h : o.quiet P a (fun w' => ∃ m : Here W, w' = m.u) K) : o.still P a W K := by
  obtain ⟨v, h1, h2⟩ := h
  have h3 := h1 W ⟨⟨W, rfl⟩, rfl⟩
  unfold Oper.quietAt at h3
  unfold Oper.still
  generalize (execOp a.eval o).run P W = r at *
  cases r with
  | ok n w' =>
    cases n with
    | value u => obtain ⟨rfl, rfl⟩ := h3; exact ⟨rfl, h2⟩
    | skip => obtain ⟨rfl, rfl⟩ := h3; exact ⟨rfl, h2⟩
    | enter f args =>
      obtain ⟨rfl, hc⟩ := h3
      exact ⟨rfl, v, hc.mono (fun e w'' hh => ⟨hh.1, by obtain ⟨m, rfl⟩ := hh.2; exact m.h⟩), h2⟩
    | _ => cases h3
  | halt x w' => cases h3
theorem wpStill_of_quiet {P : Program} {ops : Array Oper} {W : World} {Q : Act → Prop} : ∀ (l : List Oper) (a : Act), wpQuiet P ops (fun w' => ∃ m : Here W, w' = m.u) Q l a → wpStill P ops W Q l a
  | [], _, h => h
  | o :: rest, a, h => by
    unfold wpQuiet at h
    unfold wpStill
    split
    · rename_i hw
      rw [if_pos hw] at h
      exact Oper.still_mono (fun a1 ha => wpStill_of_quiet rest a1 ha) (still_of_quiet h)
    · rename_i hw
      rw [if_neg hw] at h
      exact wpStill_of_quiet rest _ h
theorem region_tail {P : Program} {id : Nat} {Q : Exit → Act → World → Prop} {a : Act} {w : World} {l : List Oper} (n : Nat) (hm : P.follows .mixedOrders = true) (hB : Region.lexTailB .any l.toArray n = true)
    (h : wpQuiet P l.toArray (fun w' => ∃ m : Here w.drew, w' = m.u) (fun a' => wpList P l.toArray Q (l.drop n) a' w.drew) (l.take n) a) : (Code.region id l.toArray true).wp P Q a w :=
  wp_region_still_tail n hm hB (wpStill_of_quiet _ _ h)
theorem Here.cell {w : World} {a : Addr} {v : Value} (h : w.cell? a = some v) (n : Here w.drew) : n.u.cell? a = some v := by
  rw [n.h]; exact h
end Go.Proofs.YtodjilljcjkacaaGreatDoor
