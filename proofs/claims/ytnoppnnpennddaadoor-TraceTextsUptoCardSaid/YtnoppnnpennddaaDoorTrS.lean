/- Layer 19: a row of steps: where it lies, its text, the text's lines. -/
import Derived.Test.YtnoppnnpennddaaDoorTr8
import Derived.Test.YtnoppnnpennddaaDoorTr10
import Derived.Test.YtnoppnnpennddaaDoorTrN
namespace Go.Proofs.YtnoppnnpennddaaDoor
open Go.RowKit

structure TOut where
  back : Bool
  l : List UInt8
structure TStep where
  k : Int
  n : Int
  kp : Int
  l : List UInt8
  outs : List TOut
  cr : Bool
def OutAt (w : World) (b o i : Nat) (x : TOut) : Prop := w.cell? ⟨b, o + i * 2, none⟩ = some (.bool x.back) ∧ ∃ A m c, w.cell? ⟨b, o + i * 2 + 1, none⟩ = some (.slice A m c) ∧ Bs w A m c x.l
def TOs (w : World) (A : Option Addr) (n c : Nat) (L : List TOut) : Prop := L.length = n ∧ n ≤ c ∧ c ≤ maxLen ∧ (0 < n → ∃ b o, A = some ⟨b, o, none⟩ ∧ ∀ i x, L[i]? = some x → OutAt w b o i x)
def StepAt (w : World) (b o i : Nat) (x : TStep) : Prop :=
  w.cell? ⟨b, o + i * 6, none⟩ = some (.int .i64 x.k) ∧ w.cell? ⟨b, o + i * 6 + 1, none⟩ = some (.int .i64 x.n) ∧ w.cell? ⟨b, o + i * 6 + 2, none⟩ = some (.int .i64 x.kp) ∧
  (∃ A m c, w.cell? ⟨b, o + i * 6 + 3, none⟩ = some (.slice A m c) ∧ Bs w A m c x.l) ∧ (∃ A m c, w.cell? ⟨b, o + i * 6 + 4, none⟩ = some (.slice A m c) ∧ TOs w A m c x.outs) ∧ w.cell? ⟨b, o + i * 6 + 5, none⟩ = some (.bool x.cr)
def Sts (w : World) (A : Option Addr) (n c : Nat) (L : List TStep) : Prop := L.length = n ∧ n ≤ c ∧ c ≤ maxLen ∧ (0 < n → ∃ b o, A = some ⟨b, o, none⟩ ∧ ∀ i x, L[i]? = some x → StepAt w b o i x)
structure TStep.Fits (x : TStep) : Prop where
  n : -9223372036854775808 ≤ x.n ∧ x.n ≤ 9223372036854775807
  kp : -9223372036854775808 ≤ x.kp ∧ x.kp ≤ 9223372036854775807
  l : x.l.length ≤ 1048576
  outs : x.outs.length ≤ 1048576
  out : ∀ o ∈ x.outs, o.l.length ≤ 1048576
section
variable {w w' : World} {A : Option Addr} {n c b o i : Nat}
theorem OutAt.below {x : TOut} (h : OutAt w b o i x) (hb : Below w.heap.size w w') : OutAt w' b o i x := by
  obtain ⟨h0, A, m, c, h1, h2⟩ := h
  have hl := World.block_lt_of_cell? w _ h0
  exact ⟨(hb.cell (p := ⟨b, o + i * 2, none⟩) hl).trans h0, A, m, c, (hb.cell (p := ⟨b, o + i * 2 + 1, none⟩) hl).trans h1, h2.below hb⟩
theorem TOs.below {L : List TOut} (h : TOs w A n c L) (hb : Below w.heap.size w w') : TOs w' A n c L :=
  ⟨h.1, h.2.1, h.2.2.1, fun hn => by
    obtain ⟨b, o, e, hc⟩ := h.2.2.2 hn
    exact ⟨b, o, e, fun i x hx => (hc i x hx).below hb⟩⟩
theorem StepAt.below {x : TStep} (h : StepAt w b o i x) (hb : Below w.heap.size w w') : StepAt w' b o i x := by
  obtain ⟨h0, h1, h2, ⟨A, m, c, h3, h4⟩, ⟨A', m', c', h5, h6⟩, h7⟩ := h
  have hl := World.block_lt_of_cell? w _ h0
  exact ⟨(hb.cell (p := ⟨b, o + i * 6, none⟩) hl).trans h0, (hb.cell (p := ⟨b, o + i * 6 + 1, none⟩) hl).trans h1, (hb.cell (p := ⟨b, o + i * 6 + 2, none⟩) hl).trans h2, ⟨A, m, c, (hb.cell (p := ⟨b, o + i * 6 + 3, none⟩) hl).trans h3, h4.below hb⟩, ⟨A', m', c', (hb.cell (p := ⟨b, o + i * 6 + 4, none⟩) hl).trans h5, h6.below hb⟩, (hb.cell (p := ⟨b, o + i * 6 + 5, none⟩) hl).trans h7⟩
theorem Sts.below {L : List TStep} (h : Sts w A n c L) (hb : Below w.heap.size w w') : Sts w' A n c L :=
  ⟨h.1, h.2.1, h.2.2.1, fun hn => by
    obtain ⟨b, o, e, hc⟩ := h.2.2.2 hn
    exact ⟨b, o, e, fun i x hx => (hc i x hx).below hb⟩⟩
end
/-- how much is looked at -/
def sumO (L : List TOut) : Nat := (L.map fun o => 1 + o.l.length).sum
def sumG (L : List TStep) : Nat := (L.map fun x => 1 + x.l.length + sumO x.outs).sum
theorem sumO_take {L : List TOut} {j : Nat} (h : j < L.length) : sumO (L.take (j + 1)) = sumO (L.take j) + (1 + L[j].l.length) := by
  unfold sumO
  rw [List.take_succ_eq_append_getElem h]
  simp only [List.map_append, List.map_cons, List.map_nil, List.sum_append, List.sum_cons, List.sum_nil, Nat.add_zero]
theorem sumG_take {L : List TStep} {j : Nat} (h : j < L.length) : sumG (L.take (j + 1)) = sumG (L.take j) + (1 + L[j].l.length + sumO L[j].outs) := by
  unfold sumG
  rw [List.take_succ_eq_append_getElem h]
  simp only [List.map_append, List.map_cons, List.map_nil, List.sum_append, List.sum_cons, List.sum_nil, Nat.add_zero]
theorem sumO_take_le (L : List TOut) (j : Nat) : sumO (L.take j) ≤ sumO L := by
  have : L = L.take j ++ L.drop j := (List.take_append_drop j L).symm
  conv => rhs; rw [this]
  unfold sumO
  simp only [List.map_append, List.sum_append]
  omega
theorem sumG_take_le (L : List TStep) (j : Nat) : sumG (L.take j) ≤ sumG L := by
  have : L = L.take j ++ L.drop j := (List.take_append_drop j L).symm
  conv => rhs; rw [this]
  unfold sumG
  simp only [List.map_append, List.sum_append]
  omega
theorem sumO_bd {L : List TOut} (h : ∀ o ∈ L, o.l.length ≤ 1048576) : sumO L ≤ L.length * 1048577 := by
  induction L with
  | nil => simp [sumO]
  | cons a r ih =>
    have h1 := ih (fun o ho => h o (List.mem_cons_of_mem _ ho))
    have h2 := h a (List.mem_cons_self ..)
    simp only [sumO, List.map_cons, List.sum_cons, List.length_cons] at h1 ⊢
    omega
theorem sumG_bd {L : List TStep} (h : ∀ x ∈ L, x.Fits) : sumG L ≤ L.length * 1099514773505 := by
  induction L with
  | nil => simp [sumG]
  | cons a r ih =>
    have h1 := ih (fun o ho => h o (List.mem_cons_of_mem _ ho))
    have h2 := h a (List.mem_cons_self ..)
    have h3 := sumO_bd h2.out
    have h4 := h2.l
    have h5 := Nat.mul_le_mul_right 1048577 h2.outs
    simp only [sumG, List.map_cons, List.sum_cons, List.length_cons] at h1 ⊢
    omega
theorem len_sumO (L : List TOut) : L.length ≤ sumO L := by
  induction L with
  | nil => simp
  | cons a r ih => simp only [sumO, List.map_cons, List.sum_cons, List.length_cons] at ih ⊢; omega
theorem len_sumG (L : List TStep) : L.length ≤ sumG L := by
  induction L with
  | nil => simp
  | cons a r ih => simp only [sumG, List.map_cons, List.sum_cons, List.length_cons] at ih ⊢; omega
theorem sumO_mem {L : List TOut} {o : TOut} (h : o ∈ L) : 1 + o.l.length ≤ sumO L := by
  induction L with
  | nil => cases h
  | cons a r ih =>
    simp only [sumO, List.map_cons, List.sum_cons]
    rcases List.mem_cons.1 h with rfl | h
    · omega
    · have := ih h; simp only [sumO] at this; omega
theorem sumG_mem {L : List TStep} {x : TStep} (h : x ∈ L) : 1 + x.l.length + sumO x.outs ≤ sumG L := by
  induction L with
  | nil => cases h
  | cons a r ih =>
    simp only [sumG, List.map_cons, List.sum_cons]
    rcases List.mem_cons.1 h with rfl | h
    · omega
    · have := ih h; simp only [sumG] at this; omega
/-- the text of an output, of a step, of steps -/
def outT (x : TOut) : List UInt8 := (if x.back then [98, 97, 99, 107, 32] else [111, 110, 32]) ++ hexD x.l
def outsT (L : List TOut) : List UInt8 := L.flatMap fun x => outT x ++ [10]
def goneT (b : Bool) : List UInt8 := if b then [103, 111, 110, 101, 10] else []
def stepT (x : TStep) : List UInt8 := (evT x.k x.n x.kp x.l).1 ++ [10] ++ outsT x.outs ++ goneT x.cr
def stepsT (L : List TStep) : List UInt8 := L.flatMap stepT
def codeT (x : TStep) : Int := (evT x.k x.n x.kp x.l).2
theorem outsT_take {L : List TOut} {j : Nat} (h : j < L.length) : outsT (L.take (j + 1)) = outsT (L.take j) ++ (outT L[j] ++ [10]) := by
  unfold outsT
  rw [List.take_succ_eq_append_getElem h, List.flatMap_append]
  simp
theorem stepsT_take {L : List TStep} {j : Nat} (h : j < L.length) : stepsT (L.take (j + 1)) = stepsT (L.take j) ++ stepT L[j] := by
  unfold stepsT
  rw [List.take_succ_eq_append_getElem h, List.flatMap_append]
  simp
theorem evT_len (k n kp : Int) (l : List UInt8) (hn : -9223372036854775808 ≤ n ∧ n ≤ 9223372036854775807) (hk : -9223372036854775808 ≤ kp ∧ kp ≤ 9223372036854775807) : (evT k n kp l).1.length ≤ 60 + 2 * l.length := by
  have h1 := itoaT_len n hn.1 hn.2
  have h2 := itoaT_len kp hk.1 hk.2
  have h3 := hexD_len l
  have h4 : ∀ j, (wordsT j).length ≤ 8 := by
    intro j
    match j with
    | 0 | 1 | 2 | 3 | 4 | 5 | 6 | 7 | 8 => decide
    | j + 9 => simp [wordsT]
  have h5 := h4 k.toNat
  unfold evT
  split
  · simp
  · split
    · simp
    · simp only [List.length_append]
      split <;> split <;> split <;> simp only [List.length_cons, List.length_nil] <;> omega
theorem outT_len (x : TOut) : (outT x).length ≤ 6 + 2 * x.l.length := by
  have := hexD_len x.l
  unfold outT
  split <;> simp only [List.length_append, List.length_cons, List.length_nil] <;> omega
theorem outsT_len (L : List TOut) : (outsT L).length ≤ 10 * sumO L := by
  induction L with
  | nil => simp [outsT]
  | cons a r ih =>
    have := outT_len a
    simp only [outsT, List.flatMap_cons, List.length_append, sumO, List.map_cons, List.sum_cons, List.length_cons, List.length_nil] at ih ⊢
    omega
theorem goneT_len (b : Bool) : (goneT b).length ≤ 5 := by cases b <;> simp [goneT]
theorem stepT_len (x : TStep) (h : x.Fits) : (stepT x).length ≤ 100 * (1 + x.l.length + sumO x.outs) := by
  have h1 := evT_len x.k x.n x.kp x.l h.n h.kp
  have h2 := outsT_len x.outs
  have h3 := goneT_len x.cr
  simp only [stepT, List.length_append, List.length_cons, List.length_nil]
  omega
theorem stepsT_len {L : List TStep} (h : ∀ x ∈ L, x.Fits) : (stepsT L).length ≤ 100 * sumG L := by
  induction L with
  | nil => simp [stepsT]
  | cons a r ih =>
    have h1 := ih (fun o ho => h o (List.mem_cons_of_mem _ ho))
    have h2 := stepT_len a (h a (List.mem_cons_self ..))
    simp only [stepsT, List.flatMap_cons, List.length_append, sumG, List.map_cons, List.sum_cons] at h1 ⊢
    omega
/-- the lines -/
theorem dig_no10 (c : UInt8) : digB c = true → c ≠ 10 := by rintro h rfl; exact absurd h (by decide)
theorem itoa_no10 (n : Int) : (10 : UInt8) ∉ itoaT n := fun h => by
  rcases itoa_mem n 10 h with h | h
  · exact absurd h (by decide)
  · exact absurd h (by decide)
theorem hexD_no10 (l : List UInt8) : (10 : UInt8) ∉ hexD l := by
  unfold hexD
  split
  · decide
  · intro h
    obtain ⟨c, _, hc⟩ := List.mem_flatMap.1 h
    have key : ∀ k : Fin 16, digL.getD k.val 0 ≠ 10 := by decide
    have hl := c.toNat_lt
    simp only [hexT, List.mem_cons, List.not_mem_nil, or_false] at hc
    rcases hc with e | e
    · exact key ⟨c.toNat / 16, by omega⟩ e.symm
    · exact key ⟨c.toNat % 16, by omega⟩ e.symm
theorem words_no10 (j : Nat) : (10 : UInt8) ∉ wordsT j := by
  match j with
  | 0 | 1 | 2 | 3 | 4 | 5 | 6 | 7 | 8 => decide
  | j + 9 => simp [wordsT]
theorem evT_no10 (k n kp : Int) (l : List UInt8) : (10 : UInt8) ∉ (evT k n kp l).1 := by
  have h1 := itoa_no10 n
  have h2 := itoa_no10 kp
  have h3 := hexD_no10 l
  have h4 := words_no10 k.toNat
  unfold evT
  split
  · simp
  · split
    · simp
    · simp only [List.mem_append]
      split <;> split <;> split <;> simp_all
theorem outT_no10 (x : TOut) : (10 : UInt8) ∉ outT x := by
  have h3 := hexD_no10 x.l
  unfold outT
  split <;> simp_all
def lines (l : List UInt8) : Nat := l.count 10
def wantT (L : List TStep) : Nat := (L.map fun x => 1 + x.outs.length + (if x.cr then 1 else 0)).sum
theorem wantT_take {L : List TStep} {j : Nat} (h : j < L.length) : wantT (L.take (j + 1)) = wantT (L.take j) + (1 + L[j].outs.length + (if L[j].cr then 1 else 0)) := by
  unfold wantT
  rw [List.take_succ_eq_append_getElem h]
  simp only [List.map_append, List.map_cons, List.map_nil, List.sum_append, List.sum_cons, List.sum_nil, Nat.add_zero]
theorem outsT_lines (L : List TOut) : lines (outsT L) = L.length := by
  unfold lines
  induction L with
  | nil => simp [outsT]
  | cons a r ih =>
    simp only [outsT, List.flatMap_cons, List.count_append, List.length_cons] at ih ⊢
    rw [ih, List.count_eq_zero.2 (outT_no10 a)]
    simp
    omega
theorem stepT_lines (x : TStep) : lines (stepT x) = 1 + x.outs.length + (if x.cr then 1 else 0) := by
  have h := outsT_lines x.outs
  unfold lines at h ⊢
  simp only [stepT, List.count_append, h, List.count_eq_zero.2 (evT_no10 x.k x.n x.kp x.l)]
  cases x.cr <;> simp [goneT]
theorem stepsT_lines (L : List TStep) : lines (stepsT L) = wantT L := by
  induction L with
  | nil => simp [stepsT, lines, wantT]
  | cons a r ih =>
    have h := stepT_lines a
    unfold lines at ih h ⊢
    simp only [stepsT, List.flatMap_cons, List.count_append, wantT, List.map_cons, List.sum_cons] at ih ⊢
    rw [ih, h]
theorem last_app (X : List UInt8) {Y : List UInt8} (h : Y.getLast? = some 10) : (X ++ Y).getLast? = some 10 := by
  rw [List.getLast?_append, h]
  rfl
theorem outsT_last (L : List TOut) : outsT L = [] ∨ (outsT L).getLast? = some 10 := by
  induction L with
  | nil => exact .inl rfl
  | cons a r ih =>
    right
    have e : outsT (a :: r) = (outT a ++ [10]) ++ outsT r := by simp [outsT]
    rw [e]
    rcases ih with h | h
    · rw [h, List.append_nil]
      exact last_app _ rfl
    · exact last_app _ h
theorem stepT_last (x : TStep) : (stepT x).getLast? = some 10 := by
  unfold stepT goneT
  split
  · exact last_app _ rfl
  · rw [List.append_nil]
    rcases outsT_last x.outs with h | h
    · rw [h, List.append_nil]
      exact last_app _ rfl
    · exact last_app _ h
theorem stepsT_last (L : List TStep) : stepsT L = [] ∨ (stepsT L).getLast? = some 10 := by
  induction L with
  | nil => exact .inl rfl
  | cons a r ih =>
    right
    have e : stepsT (a :: r) = stepT a ++ stepsT r := by simp [stepsT]
    rw [e]
    rcases ih with h | h
    · rw [h, List.append_nil]
      exact stepT_last a
    · exact last_app _ h
theorem wantT_le {L : List TStep} : wantT L ≤ 2 * sumG L := by
  induction L with
  | nil => simp [wantT]
  | cons a r ih =>
    have := len_sumO a.outs
    simp only [wantT, sumG, List.map_cons, List.sum_cons] at ih ⊢
    split <;> omega
end Go.Proofs.YtnoppnnpennddaaDoor
