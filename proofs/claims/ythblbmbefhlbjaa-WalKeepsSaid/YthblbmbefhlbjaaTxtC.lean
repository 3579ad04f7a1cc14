/- Laid together: CutMath, Strs, Held, Conv, RefCut, Txt. -/
import Derived.Test.YthblbmbefhlbjaaRows
import Derived.Lib.SplitLaws
import Derived.Lib.Join
import Derived.Test.YthblbmbefhlbjaaBase
import Derived.OwnWalk
import Derived.Lib.ConvBytes
import Derived.Deep.AppendSrc
import Derived.LoopTactic
import Derived.RegionTactic
import Derived.BigRegion
import Derived.Deep.RegionLaw
import Derived.Laws.Concat
import Derived.Laws.Tables

/- Texts cut at a byte and joined by it, as lists of bytes. -/
namespace Go.Proofs.Ythblbmbefhlbjaa
open Go.Lib

/-- the texts between the signs c -/
def cutAt (c : UInt8) : List UInt8 → List (List UInt8)
  | [] => [[]]
  | x :: r => if x = c then [] :: cutAt c r else match cutAt c r with
    | [] => [[x]]
    | h :: t => (x :: h) :: t

theorem cutAt_ne (c : UInt8) : ∀ l : List UInt8, cutAt c l ≠ []
  | [] => by simp [cutAt]
  | x :: r => by
    unfold cutAt
    split
    · simp
    · split <;> simp
theorem cutAt_eq (c : UInt8) (r : List UInt8) : cutAt c (c :: r) = [] :: cutAt c r := by
  rw [cutAt, if_pos rfl]
theorem cutAt_cons {c x : UInt8} (hx : x ≠ c) (r : List UInt8) : ∃ h t, cutAt c r = h :: t ∧ cutAt c (x :: r) = (x :: h) :: t := by
  cases h : cutAt c r with
  | nil => exact absurd h (cutAt_ne c r)
  | cons a t => exact ⟨a, t, rfl, by rw [cutAt, if_neg hx, h]⟩
theorem cutAt_clean (c : UInt8) (r : List UInt8) : ∀ a : List UInt8, c ∉ a → cutAt c (a ++ c :: r) = a :: cutAt c r
  | [], _ => cutAt_eq c r
  | x :: a, ha => by
    obtain ⟨h, t, h1, h2⟩ := cutAt_cons (c := c) (x := x) (fun e => ha (by rw [e]; exact List.mem_cons_self ..)) (a ++ c :: r)
    rw [cutAt_clean c r a (fun e => ha (List.mem_cons_of_mem _ e))] at h1
    injection h1 with e1 e2
    subst e1 e2
    exact h2
theorem cutAt_none (c : UInt8) : ∀ a : List UInt8, c ∉ a → cutAt c a = [a]
  | [], _ => rfl
  | x :: a, ha => by
    obtain ⟨h, t, h1, h2⟩ := cutAt_cons (c := c) (x := x) (fun e => ha (by rw [e]; exact List.mem_cons_self ..)) a
    rw [cutAt_none c a (fun e => ha (List.mem_cons_of_mem _ e))] at h1
    injection h1 with e1 e2
    subst e1 e2
    exact h2
theorem cutAt_length (c : UInt8) : ∀ l : List UInt8, (cutAt c l).length = l.count c + 1
  | [] => rfl
  | x :: r => by
    by_cases hx : x = c
    · subst hx
      rw [cutAt_eq, List.length_cons, cutAt_length x r, List.count_cons_self]
    · obtain ⟨h, t, h1, h2⟩ := cutAt_cons hx r
      have := cutAt_length c r
      rw [h1] at this
      rw [h2, List.count_cons_of_ne (by simpa using hx)]
      simpa using this
theorem cutAt_clean_all (c : UInt8) : ∀ (l : List UInt8) (x : List UInt8), x ∈ cutAt c l → c ∉ x
  | [], x, hx => by simp [cutAt] at hx; simp [hx]
  | y :: r, x, hx => by
    by_cases hy : y = c
    · subst hy
      rw [cutAt_eq] at hx
      rcases List.mem_cons.1 hx with rfl | hx
      · simp
      · exact cutAt_clean_all y r x hx
    · obtain ⟨h, t, h1, h2⟩ := cutAt_cons hy r
      rw [h2] at hx
      rcases List.mem_cons.1 hx with rfl | hx
      · intro hc
        rcases List.mem_cons.1 hc with e | hc
        · exact hy e.symm
        · exact cutAt_clean_all c r h (by rw [h1]; exact List.mem_cons_self ..) hc
      · exact cutAt_clean_all c r x (by rw [h1]; exact List.mem_cons_of_mem _ hx)
theorem join_two (c : UInt8) (x y : List UInt8) (r : List (List UInt8)) : join (x :: y :: r) [c] = x ++ c :: join (y :: r) [c] := by
  rw [join_cons, join_cons]
  simp [joinTail]
theorem cutAt_join (c : UInt8) : ∀ l : List UInt8, join (cutAt c l) [c] = l
  | [] => by simp [cutAt, join_one]
  | x :: r => by
    have ih := cutAt_join c r
    by_cases hx : x = c
    · subst hx
      rw [cutAt_eq]
      cases h : cutAt x r with
      | nil => exact absurd h (cutAt_ne x r)
      | cons a t => rw [join_two, ← h, ih]; rfl
    · obtain ⟨h, t, h1, h2⟩ := cutAt_cons hx r
      rw [h1] at ih
      rw [h2]
      rw [join_cons] at ih ⊢
      rw [List.cons_append, ih]
theorem cutAt_of_join (c : UInt8) : ∀ (x : List UInt8) (r : List (List UInt8)), (∀ y ∈ x :: r, c ∉ y) → cutAt c (join (x :: r) [c]) = x :: r
  | x, [], h => by rw [join_one, cutAt_none c x (h x (List.mem_cons_self ..))]
  | x, y :: r, h => by
    rw [join_two, cutAt_clean c _ x (h x (List.mem_cons_self ..)), cutAt_of_join c y r (fun z hz => h z (List.mem_cons_of_mem _ hz))]
theorem cutAt_snoc_eq (c : UInt8) : ∀ l : List UInt8, cutAt c (l ++ [c]) = cutAt c l ++ [[]]
  | [] => by simp [cutAt]
  | x :: r => by
    have ih := cutAt_snoc_eq c r
    by_cases hx : x = c
    · subst hx
      rw [List.cons_append, cutAt_eq, cutAt_eq, ih]; rfl
    · obtain ⟨h, t, h1, h2⟩ := cutAt_cons hx r
      obtain ⟨h', t', h3, h4⟩ := cutAt_cons hx (r ++ [c])
      rw [ih, h1] at h3
      rw [List.cons_append, h4, h2]
      injection h3 with e1 e2
      rw [← e1, ← e2]; rfl
/-- the last one, with x behind -/
def lastMore (T : List (List UInt8)) (x : UInt8) : List (List UInt8) := T.set (T.length - 1) (T.getD (T.length - 1) [] ++ [x])
theorem cutAt_snoc_ne (c x : UInt8) (hx : x ≠ c) : ∀ l : List UInt8, cutAt c (l ++ [x]) = lastMore (cutAt c l) x
  | [] => by simp [cutAt, hx, lastMore]
  | y :: r => by
    have ih := cutAt_snoc_ne c x hx r
    by_cases hy : y = c
    · subst hy
      rw [List.cons_append, cutAt_eq, cutAt_eq, ih]
      cases h : cutAt y r with
      | nil => exact absurd h (cutAt_ne y r)
      | cons a t => simp [lastMore]
    · obtain ⟨h, t, h1, h2⟩ := cutAt_cons hy r
      obtain ⟨h', t', h3, h4⟩ := cutAt_cons hy (r ++ [x])
      rw [ih, h1] at h3
      rw [List.cons_append, h4, h2]
      cases t with
      | nil =>
        simp [lastMore] at h3
        obtain ⟨rfl, rfl⟩ := h3
        simp [lastMore]
      | cons a t =>
        simp [lastMore] at h3
        obtain ⟨rfl, rfl⟩ := h3
        simp [lastMore]
theorem index_clean (c : UInt8) (r : List UInt8) : ∀ a : List UInt8, c ∉ a → index (a ++ c :: r) [c] = ((a.length : Nat) : Int)
  | [], _ => by rw [List.nil_append, index]; simp [List.isPrefixOf]
  | x :: a, ha => by
    have hx : ¬ c = x := fun e => ha (by rw [e]; exact List.mem_cons_self ..)
    have ih := index_clean c r a (fun e => ha (List.mem_cons_of_mem _ e))
    have hp : ([c] : List UInt8).isPrefixOf (x :: (a ++ c :: r)) = false := by simp [List.isPrefixOf, hx]
    rw [List.cons_append, index, hp, ih]
    have : ¬ ((((a.length : Nat) : Int) == -1) = true) := fun e => by have := beq_iff_eq.1 e; omega
    simp [this]
theorem splitK_cut (c : UInt8) : ∀ (k : Nat) (l : List UInt8), l.count c = k → splitK [c] 0 k l = cutAt c l
  | 0, l, h => by rw [cutAt_none c l (List.count_eq_zero.1 h)]; rfl
  | k + 1, l, h => by
    have hm : c ∈ l := List.count_pos_iff.1 (by omega)
    obtain ⟨a, r, rfl, ha⟩ := List.eq_append_cons_of_mem hm
    have hi := index_clean c r a ha
    have h0 : a.count c = 0 := List.count_eq_zero.2 ha
    rw [List.count_append, h0, List.count_cons_self] at h
    unfold splitK
    rw [hi, if_neg (fun e => by have := beq_iff_eq.1 e; omega), cutAt_clean c r a ha]
    simp only [Int.toNat_natCast, Nat.add_zero, List.take_left, List.length_cons, List.length_nil]
    rw [show a.length + (0 + 1) = (a ++ [c]).length by simp, show a ++ c :: r = (a ++ [c]) ++ r by simp, List.drop_left, splitK_cut c k r (by omega)]
theorem cutAt_mem_le (c : UInt8) : ∀ (l x : List UInt8), x ∈ cutAt c l → x.length ≤ l.length
  | [], x, hx => by simp [cutAt] at hx; simp [hx]
  | y :: r, x, hx => by
    by_cases hy : y = c
    · subst hy
      rw [cutAt_eq] at hx
      rcases List.mem_cons.1 hx with rfl | hx
      · simp
      · have := cutAt_mem_le y r x hx
        simp only [List.length_cons]; omega
    · obtain ⟨h, t, h1, h2⟩ := cutAt_cons hy r
      rw [h2] at hx
      rcases List.mem_cons.1 hx with rfl | hx
      · have := cutAt_mem_le c r h (by rw [h1]; exact List.mem_cons_self ..)
        simp only [List.length_cons]; omega
      · have := cutAt_mem_le c r x (by rw [h1]; exact List.mem_cons_of_mem _ hx)
        simp only [List.length_cons]; omega
theorem cutAt_part_le (c : UInt8) (l : List UInt8) (k : Nat) (hk : l.length ≤ k) (j : Nat) : ((cutAt c l).getD j []).length ≤ k := by
  rw [List.getD_eq_getElem?_getD]
  cases h : (cutAt c l)[j]? with
  | none => simp
  | some x => exact Nat.le_trans (cutAt_mem_le c l x (List.mem_of_getElem? h)) hk
theorem join_length_cut (c : UInt8) (x : List UInt8) (r : List (List UInt8)) : (join (x :: r) [c]).length = r.length + lens (x :: r) := by
  rw [join_length]; simp
end Go.Proofs.Ythblbmbefhlbjaa

/- Words of my own for texts in memory: a slice of texts that reads as a list, a row of the call's own. -/
namespace Go.Proofs.Ythblbmbefhlbjaa
open Go.RowKit

/-- the value of a text -/
abbrev str (x : List UInt8) : Value := .string (txt x)

/-- the slice '.slice A n c' reads as the texts T in the world w -/
def Ss (w : World) (A : Option Addr) (n c : Nat) (T : List (List UInt8)) : Prop :=
  T.length = n ∧ n ≤ c ∧ c ≤ maxLen ∧ (0 < n → ∃ b o, A = some ⟨b, o, none⟩ ∧ ∀ i x, T[i]? = some x → w.cell? ⟨b, o + i, none⟩ = some (str x))

section
variable {w w' : World} {A : Option Addr} {n c : Nat} {T : List (List UInt8)}
theorem Ss.len (h : Ss w A n c T) : T.length = n := h.1
theorem Ss.le (h : Ss w A n c T) : n ≤ c := h.2.1
theorem Ss.max (h : Ss w A n c T) : c ≤ 9223372036854775807 := by have := h.2.2.1; simpa only [maxLen] using this
theorem Ss.nmax (h : Ss w A n c T) : n ≤ 9223372036854775807 := Nat.le_trans h.le h.max
theorem Ss.at_ (h : Ss w A n c T) (hn : 0 < n) : ∃ b o, A = some ⟨b, o, none⟩ ∧ b < w.heap.size ∧ ∀ i x, T[i]? = some x → w.cell? ⟨b, o + i, none⟩ = some (str x) := by
  obtain ⟨b, o, e, hc⟩ := h.2.2.2 hn
  have hl : 0 < T.length := by rw [h.1]; exact hn
  exact ⟨b, o, e, World.block_lt_of_cell? w _ (hc 0 _ (List.getElem?_eq_getElem hl)), hc⟩
theorem Ss.read (h : Ss w A n c T) {i : Nat} (hi : i < n) : ∃ b o, A = some ⟨b, o, none⟩ ∧ b < w.heap.size ∧ w.cell? ⟨b, o + i, none⟩ = some (str (T.getD i [])) := by
  obtain ⟨b, o, e, hl, hc⟩ := h.at_ (by omega)
  exact ⟨b, o, e, hl, hc i _ (by rw [List.getD_eq_getElem?_getD, List.getElem?_eq_getElem (by rw [h.1]; exact hi)]; rfl)⟩
theorem Ss.below (h : Ss w A n c T) (hb : Below w.heap.size w w') : Ss w' A n c T :=
  ⟨h.1, h.2.1, h.2.2.1, fun hn => by
    obtain ⟨b, o, e, hlt, hc⟩ := h.at_ hn
    exact ⟨b, o, e, fun i x hx => (hb.cell (p := ⟨b, o + i, none⟩) hlt).trans (hc i x hx)⟩⟩
theorem Ss.drewN (h : Ss w A n c T) (k : Nat) : Ss (w.drewN k) A n c T := h.below (drawN_below (Below.refl _ _) k)
theorem Ss.nil (w : World) (c : Nat) (A : Option Addr) (hc : c ≤ maxLen) : Ss w A 0 c [] := ⟨rfl, Nat.zero_le _, hc, fun h => absurd h (by omega)⟩
theorem Ss.of_block {g : Nat} {t : TypeId} {f : Nat × Nat} {C : Array Value} (hg : w.heap[g]? = some (.cells C t f)) (hC : ∀ (i : Nat) (x : List UInt8), T[i]? = some x → C[i]? = some (str x)) (hn : T.length = n) (hnc : n ≤ c) (hc : c ≤ maxLen) :
    Ss w (some ⟨g, 0, none⟩) n c T := by
  subst hn
  refine ⟨rfl, hnc, hc, fun _ => ⟨g, 0, rfl, fun i x hx => ?_⟩⟩
  rw [Nat.zero_add, cell_of_row w g i C t f hg]
  exact hC i x hx
end

/-- a row of the call's own, from block 'base' on, that holds the texts T -/
def OwnS (w : World) (base : Nat) (v : Value) (T : List (List UInt8)) : Prop := w.ownsRow base 9 1 v T.length (T.map str)
section
variable {w w' : World} {base : Nat} {v : Value} {T : List (List UInt8)}
theorem OwnS.nil (w : World) (base : Nat) : OwnS w base (.slice none 0 0) [] := World.ownsRow_nil w base 9 1
theorem OwnS.below (h : OwnS w base v T) (hb : Below w.heap.size w w') : OwnS w' base v T := by
  refine ⟨h.1, ?_⟩
  rcases h.2 with hn | ⟨g, cap, cur, e, h1, h2, h3⟩
  · exact .inl hn
  · exact .inr ⟨g, cap, cur, e, h1, (hb.block g (Array.getElem?_eq_some_iff.1 h2).1).trans h2, h3⟩
/-- one text, written out -/
theorem OwnS.one (w : World) (x : List UInt8) (hb : base ≤ w.heap.size) : OwnS (w.alloc (.cells #[str x] 9)) base (.slice (some ⟨w.heap.size, 0, none⟩) 1 1) [x] :=
  ⟨by simp, .inr ⟨w.heap.size, 1, #[str x], rfl, hb, heap_alloc_new w _, Nat.le_refl _, by simp [maxLen], by simp, by simp⟩⟩
theorem OwnS.ss (h : OwnS w base v T) : ∃ A c, v = .slice A T.length c ∧ Ss w A T.length c T ∧ ∀ b, A = some b → base ≤ b.block := by
  rcases h.2 with ⟨rfl, h0⟩ | ⟨g, cap, cur, rfl, h1, h2, h3, h4, _, h6⟩
  · have : T = [] := List.eq_nil_of_length_eq_zero h0
    subst this
    exact ⟨none, 0, rfl, Ss.nil w 0 none (by simp [maxLen]), fun _ hb => by cases hb⟩
  · refine ⟨_, cap, rfl, Ss.of_block (by simpa using h2) (fun i x hx => ?_) rfl h3 h4, fun b hb => ?_⟩
    · have hl : i < T.length := (List.getElem?_eq_some_iff.1 hx).1
      have e : (cur.toList.take (T.length * 1))[i]? = (T.map str)[i]? := by rw [h6]
      rw [Nat.mul_one, List.getElem?_take, if_pos hl, List.getElem?_map, hx] at e
      simpa using e
    · injection hb with hb
      subst hb
      exact h1
theorem OwnS.form (h : OwnS w base v T) (h0 : 0 < T.length) : ∃ g c, v = .slice (some ⟨g, 0, none⟩) T.length c ∧ base ≤ g ∧ g < w.heap.size ∧ T.length ≤ c ∧ c ≤ 9223372036854775807 := by
  rcases h.2 with ⟨_, h1⟩ | ⟨g, cap, cur, rfl, h1, h2, h3, h4, _⟩
  · omega
  · exact ⟨g, cap, rfl, h1, (Array.getElem?_eq_some_iff.1 h2).1, h3, by simpa only [maxLen] using h4⟩
theorem OwnS.cell {g c : Nat} (h : OwnS w base (.slice (some ⟨g, 0, none⟩) T.length c) T) {j : Nat} {x : List UInt8} (hx : T[j]? = some x) : w.cell? ⟨g, j, none⟩ = some (str x) := by
  have hj : j < T.length := (List.getElem?_eq_some_iff.1 hx).1
  have := World.ownsRow.cellAt h j (by omega)
  rw [this]
  simp [hx]
theorem OwnS.frozen {g c : Nat} (h : OwnS w base (.slice (some ⟨g, 0, none⟩) T.length c) T) (j : Nat) : w.frozen? ⟨g, j, none⟩ = false := World.ownsRow.frozenAt h j
theorem OwnS.store {g c : Nat} (h : OwnS w base (.slice (some ⟨g, 0, none⟩) T.length c) T) (j : Nat) (x : List UInt8) : OwnS (w.setCell ⟨g, j, none⟩ (str x)) base (.slice (some ⟨g, 0, none⟩) T.length c) (T.set j x) := by
  have := (World.ownsRow.stored h j (str x)).1
  unfold OwnS
  rw [List.length_set, show (T.set j x).map str = (T.map str).set j (str x) from by simp]
  exact this
/-- 'append(s, x)' onto a row of the call's own -/
theorem wpList_str {ops : Array Oper} {rest : List Oper} {o : Oper} {a : Act} {Q : Exit → Act → World → Prop} {w : World} (hgd : o.guard = none) (s x : Operand)
    (ho : o.op = .call { callee := .builtin .append, args := #[s, x], argTypes := #[61, 61] }) (base : Nat) (v : Value) (T : List (List UInt8)) (hs : a.eval s = v) (hown : OwnS w base v T) (g : Nat) (y : List UInt8)
    (hx : a.eval x = .slice (some ⟨g, 0, none⟩) 1 1) (hg : w.heap[g]? = some (.cells #[str y] 9)) (hn : T.length ≤ 1099511627776) (hbase : base ≤ w.heap.size)
    (h : ∀ v' w', OwnS w' base v' (T ++ [y]) → Below base w w' → w.grownBy w' v.ownBlock → wpList Try.prog ops Q rest (a.put o.dst v') w') : wpList Try.prog ops Q (o :: rest) a w := by
  have hi : (Try.prog.info? 9).map (fun i => (i.zero, i.size, i.bytes)) = some (some (.string ByteArray.empty), 1, 16) := by kernel_rfl
  obtain ⟨i, hi, hzz⟩ := Option.map_eq_some_iff.1 hi
  simp only [Prod.mk.injEq] at hzz
  exact wpList_append_own w hgd s x 61 ho base 9 i (.string ByteArray.empty) 1 16 Try.underlying61 hi hzz.1 hzz.2.1 hzz.2.2 rfl (by decide) v T.length (T.map str) hs hown ⟨g, 0, none⟩ 1 1 [str y] hx rfl
    (fun j u hu => by
      have hj : j = 0 := by
        rcases Nat.lt_or_ge j 1 with h | h
        · omega
        · rw [List.getElem?_eq_none (by simpa using h)] at hu; cases hu
      subst hj
      rw [Addr.add_lit, Nat.zero_add, cell_of_row w g 0 _ _ _ hg]
      exact hu) (fun u hu => by simp at hu; subst hu; rfl) (by simp only [maxLen]; omega) (by omega) hbase (fun v' w' h2 h3 _ => h v' w' (by unfold OwnS; simpa using h2) ((Below.refl _ _).grown h3 hbase fun k hk => (World.ownsRow.lt hown k hk).1) h3)
end
end Go.Proofs.Ythblbmbefhlbjaa

/- Blocks that are as they are told. -/
namespace Go.Proofs.Ythblbmbefhlbjaa
open Go.RowKit

/-- blocks that are as they are told -/
def Held (W : World) : List (Nat × Obj) → Prop
  | [] => True
  | x :: r => W.heap[x.1]? = some x.2 ∧ Held W r
theorem Held.below {W W' : World} : ∀ {r : List (Nat × Obj)}, Held W r → Below W.heap.size W W' → Held W' r
  | [], _, _ => trivial
  | _ :: _, h, hb => ⟨(hb.block _ (Array.getElem?_eq_some_iff.1 h.1).1).trans h.1, h.2.below hb⟩
theorem Held.alloc {W : World} {r : List (Nat × Obj)} (h : Held W r) (o : Obj) : Held (W.alloc o) ((W.heap.size, o) :: r) :=
  ⟨heap_alloc_new W o, h.below ((Below.refl _ _).alloc (Nat.le_refl _) o)⟩
theorem Held.alloc' {W : World} {r : List (Nat × Obj)} (h : Held W r) (o : Obj) : Held (W.alloc o) r := h.below ((Below.refl _ _).alloc (Nat.le_refl _) o)
theorem Held.beneath {B : Nat} {W W' : World} : ∀ {r : List (Nat × Obj)}, Held W r → (∀ x ∈ r, x.1 < B) → Below B W W' → Held W' r
  | [], _, _, _ => trivial
  | x :: _, h, hl, hb => ⟨(hb.block _ (hl x (List.mem_cons_self ..))).trans h.1, h.2.beneath (fun y hy => hl y (List.mem_cons_of_mem _ hy)) hb⟩
end Go.Proofs.Ythblbmbefhlbjaa

/- '[]byte(s)' of a text, and 'append' onto it. -/
namespace Go.Proofs.Ythblbmbefhlbjaa
open Go.RowKit

theorem Below.setCells {B : Nat} {w : World} {g : Nat} (hg : B ≤ g) : ∀ (vs : List Value) (o : Nat) (W : World), Below B w W → Below B w (W.setCells g o vs)
  | [], _, _, h => h
  | v :: r, o, W, h => Below.setCells hg r (o + 1) (W.setCell ⟨g, o, none⟩ v) (h.setCell (p := ⟨g, o, none⟩) hg v)

theorem txt_app (a b : List UInt8) : txt a ++ txt b = txt (a ++ b) := by
  apply ByteArray.ext
  simp [txt]
theorem txt_size (a : List UInt8) : (txt a).size = a.length := by simp [ByteArray.size]

/-- a row that a text's conversion made: the bytes, and room behind them -/
structure Conv (W : World) (base n cap g : Nat) (xs : List UInt8) : Prop where
  hb : base ≤ g
  hg : g < W.heap.size
  hn : xs.length = n
  hc : n ≤ cap
  hm : cap ≤ maxLen
  cell : ∀ i x, xs[i]? = some x → W.cell? ⟨g, i, none⟩ = some (u8 x)
  there : ∀ j, j < cap → (W.cell? ⟨g, j, none⟩).isSome = true
  free : ∀ j, j < cap → W.frozen? ⟨g, j, none⟩ = false

theorem Conv.below {W W' : World} {base n cap g : Nat} {xs : List UInt8} (h : Conv W base n cap g xs) (hb : Below W.heap.size W W') : Conv W' base n cap g xs := by
  have hc : ∀ j, W'.cell? ⟨g, j, none⟩ = W.cell? ⟨g, j, none⟩ := fun j => hb.cell (p := ⟨g, j, none⟩) h.hg
  refine ⟨h.hb, Nat.lt_of_lt_of_le h.hg hb.size, h.hn, h.hc, h.hm, fun i x hx => by rw [hc]; exact h.cell i x hx, fun j hj => by rw [hc]; exact h.there j hj, fun j hj => ?_⟩
  have := h.free j hj
  unfold World.frozen? at this ⊢
  rw [hb.block g h.hg]
  exact this

section
variable {P : Program}

theorem Conv.bs {W : World} {base n cap g : Nat} {xs : List UInt8} (h : Conv W base n cap g xs) : Bs W (some ⟨g, 0, none⟩) n cap xs :=
  ⟨h.hn, h.hc, h.hm, fun _ => ⟨g, 0, rfl, fun i x hx => by rw [Nat.zero_add]; exact h.cell i x hx⟩⟩

theorem conv_run (w : World) (src dst e : TypeId) (s : ByteArray) {u : TypeDesc} (hs : P.underlying src = some u) (hd : P.underlying dst = some (.slice e)) (he : P.underlying e = some (.int .u8)) (base : Nat) (hb : base ≤ w.heap.size) (hl : s.size ≤ maxLen) :
    ∃ cap W, (convert src dst (.string s)).run P w = .ok (.slice (some ⟨w.heap.size, 0, none⟩) s.size cap) W ∧ Conv W base s.size cap w.heap.size s.data.toList ∧ Below w.heap.size w W := by
  refine ⟨_, _, Lib.run_convert_string_bytes w src dst e s hs hd he, ⟨hb, ?_, ?_, grownCap_ge _ _ _ _, grownCap_le_maxLen _ _ _ _ hl, ?_, ?_, ?_⟩, ?_⟩
  · rw [Lib.bytesWorld_size]; omega
  · rw [Array.length_toList]; rfl
  · intro i x hx
    have hi := (List.getElem?_eq_some_iff.1 hx).1
    rw [Lib.bytesWorld_cell w e s i (by rw [Array.length_toList] at hi; exact hi), List.getD_eq_getElem?_getD, hx]
    rfl
  · intro j hj
    have hge := grownCap_ge w s.size 0 e
    have hz : (Lib.bytesCells w e s).size = grownCap w s.size 0 e := by
      simp only [Lib.bytesCells, Array.size_append, Array.size_map, Array.size_replicate]
      have : s.data.size = s.size := rfl
      omega
    rw [cell_of_row _ _ _ _ _ _ (Lib.bytesWorld_at_new w e s), Array.getElem?_eq_getElem (by omega)]
    rfl
  · intro j hj
    have hge := grownCap_ge w s.size 0 e
    have hz : (Lib.bytesCells w e s).size = grownCap w s.size 0 e := by
      simp only [Lib.bytesCells, Array.size_append, Array.size_map, Array.size_replicate]
      have : s.data.size = s.size := rfl
      omega
    simp only [World.frozen?, Lib.bytesWorld_at_new w e s, Bool.and_eq_false_iff, decide_eq_false_iff_not]
    left
    omega
  · refine ⟨rfl, rfl, rfl, ?_, fun k hk => Lib.bytesWorld_at_old w e s k hk⟩
    rw [Lib.bytesWorld_size]; omega

theorem conv_list (w : World) (src dst e : TypeId) (l : List UInt8) (N : Nat) {u : TypeDesc} (hs : P.underlying src = some u) (hd : P.underlying dst = some (.slice e)) (he : P.underlying e = some (.int .u8)) (hN : l.length = N) (hl : N ≤ maxLen) :
    ∃ cap W, (convert src dst (.string (txt l))).run P w = .ok (.slice (some ⟨w.heap.size, 0, none⟩) N cap) W ∧ Conv W w.heap.size N cap w.heap.size l ∧ Below w.heap.size w W := by
  have h := conv_run (P := P) w src dst e (txt l) hs hd he w.heap.size (Nat.le_refl _) (by rw [txt_size, hN]; exact hl)
  rwa [txt_size, hN] at h

theorem Bs.src (src e : TypeId) (hs : P.underlying src = some (.slice e)) {W : World} {A : Option Addr} {m c : Nat} {l : List UInt8} (h : Bs W A m c l) : Src P 1 src (.slice A m c) m (u8s l) W := by
  have hlen := h.len
  rcases A with _ | a
  · have hm : m = 0 := by
      rcases Nat.eq_zero_or_pos m with h0 | h0
      · exact h0
      · obtain ⟨b, o, e, _⟩ := h.2.2.2 h0
        cases e
    subst hm
    obtain rfl := h.empty
    exact Src.ofNil W hs c
  · refine Src.ofSlice W hs a m c (u8s l) (by simp [hlen]) (fun j u hu => ?_) (u8s_one l)
    obtain ⟨x, hx, rfl⟩ := u8s_get hu
    have hm : 0 < m := by have := (List.getElem?_eq_some_iff.1 hx).1; omega
    obtain ⟨b, o, e, _, hc⟩ := h.at_ hm
    injection e with e
    subst e
    rw [Addr.add_lit]
    exact hc j x hx

/-- 'append(row, x...)' -/
theorem Conv.app (t ty e : TypeId) (ht : P.underlying t = some (.slice e)) (hi : (P.info? e).map (fun i => (i.zero, i.size, i.bytes)) = some (some (.int .u8 0), 1, 1))
    {W : World} {base n cap g : Nat} {xs : List UInt8} (h : Conv W base n cap g xs) {A : Option Addr} {m c : Nat} {l : List UInt8} (hl : Bs W A m c l) (hb : base ≤ W.heap.size) (hbytes : n + m ≤ 140737488355328) :
    ∃ B c' W', (Builtin.append_ #[t, t] ty #[.slice (some ⟨g, 0, none⟩) n cap, .slice A m c]).run P W = .ok (.slice B (n + m) c') W' ∧ Bs W' B (n + m) c' (xs ++ l) ∧ Below base W W' := by
  obtain ⟨i, hi, hzz⟩ := Option.map_eq_some_iff.1 hi
  simp only [Prod.mk.injEq] at hzz
  obtain ⟨hz, hsz, hby⟩ := hzz
  have hs := Bs.src (P := P) t e ht hl
  have hlen := hl.len
  have hul : (u8s l).length = m := by simp [hlen]
  by_cases hroom : n + m ≤ cap
  · have hr := run_append_room_src (P := P) W t t ty e i ht hi g 0 n cap (.slice A m c) m (u8s l) (by rw [hsz]; exact hs) hroom
      (fun j hj => by rw [hsz]; exact h.there _ (by omega)) (fun j hj => by rw [hsz]; exact h.free _ (by omega))
    refine ⟨_, _, _, hr, ⟨by rw [List.length_append, h.hn, hlen], hroom, h.hm, fun _ => ⟨g, 0, rfl, fun k x hx => ?_⟩⟩, Below.setCells h.hb _ _ _ (Below.refl _ _)⟩
    rw [hsz, Nat.mul_one, Nat.zero_add, Nat.zero_add]
    by_cases hk : k < n
    · rw [List.getElem?_append_left (by rw [h.hn]; exact hk)] at hx
      rw [World.cell?_setCells_out g _ _ _ _ (fun _ _ => .inl hk)]
      exact h.cell k x hx
    · rw [List.getElem?_append_right (by rw [h.hn]; omega), h.hn] at hx
      have hk2 := (List.getElem?_eq_some_iff.1 hx).1
      have hin := World.cell?_setCells_in g (u8s l) n W (fun j hj => h.there _ (by omega)) (k - n) (by omega)
      rw [show n + (k - n) = k from by omega] at hin
      rw [hin]
      congr 1
      rw [List.getElem_map]
      rw [List.getElem?_eq_getElem hk2] at hx
      injection hx with hx
      rw [hx]
  · have hold : (Builtin.firstCells i.size n (.slice (some ⟨g, 0, none⟩) n cap)).run P W.drew = .ok (u8s xs).toArray W.drew := by
      rw [hsz]
      exact run_firstCells_some (P := P) W.drew 1 n ⟨g, 0, none⟩ n cap (u8s xs) (by simp [h.hn]) (fun j u hu => by
        obtain ⟨x, hx, rfl⟩ := u8s_get hu
        rw [Addr.add_lit, Nat.zero_add]
        exact h.cell j x hx)
    have hr := run_append_grow_src (P := P) W t t ty e i (.int .u8 0) ht hi hz (some ⟨g, 0, none⟩) n cap (u8s xs) hold (.slice A m c) m (u8s l) (by rw [hsz]; exact hs) (by omega) (by omega)
      (growslice_fits (by omega) (by rw [hby]; omega))
    refine ⟨_, _, _, hr, Bs.of_block (g := W.heap.size) (t := e) (f := (0, 0)) (cur := u8s (xs ++ l) ++ (Builtin.zeroCells (Value.int .u8 0).cells (grownCap W (n + m) cap e - (n + m))).toList) ?_ ?_ (by rw [List.length_append, h.hn, hlen]) (grownCap_ge _ _ _ _) (grownCap_le_maxLen _ _ _ _ (by simp only [maxLen]; omega)), ((Below.refl base W).drew).alloc (by simpa using hb) _⟩
    · rw [show (W.drew.alloc (.cells ((u8s xs ++ u8s l).toArray ++ Builtin.zeroCells (Value.int .u8 0).cells (grownCap W (n + m) cap e - (n + m))) e)).heap[W.heap.size]? = _ from heap_alloc_new W.drew _]
      congr 2
      apply Array.ext'
      simp
    · rw [List.take_append_of_le_length (by simp), List.take_of_length_le (by simp)]

theorem wpList_appC {ops : Array Oper} {rest : List Oper} {o : Oper} {a : Act} {Q : Exit → Act → World → Prop} {W : World} (hgd : o.guard = none) (s x : Operand) (t : TypeId)
    (ho : o.op = .call { callee := .builtin .append, args := #[s, x], argTypes := #[t, t] }) (e : TypeId) (ht : P.underlying t = some (.slice e)) (hi : (P.info? e).map (fun i => (i.zero, i.size, i.bytes)) = some (some (.int .u8 0), 1, 1))
    {base n cap g : Nat} {xs : List UInt8} (hs : a.eval s = .slice (some ⟨g, 0, none⟩) n cap) (hC : Conv W base n cap g xs) {A : Option Addr} {m c : Nat} {l : List UInt8} (hx : a.eval x = .slice A m c) (hl : Bs W A m c l) (hb : base ≤ W.heap.size) (hbytes : n + m ≤ 140737488355328)
    (h : ∀ B c' W', Bs W' B (n + m) c' (xs ++ l) → Below base W W' → wpList P ops Q rest (a.put o.dst (.slice B (n + m) c')) W') : wpList P ops Q (o :: rest) a W :=
  wpList_plain hgd fun K hK => by
    obtain ⟨B, c', W', hrun, h2, h3⟩ := Conv.app (P := P) t o.type e ht hi hC hl hb hbytes
    unfold Oper.wp execOp
    simp only [ho, resolve, invoke, builtin, Sem.run_bind, Sem.run_pure, Result.andThen_ok, List.map_toArray, List.map_cons, List.map_nil, hs, hx, hrun]
    exact hK _ _ (h B c' W' h2 h3)
end

end Go.Proofs.Ythblbmbefhlbjaa

/- Layer 6: the answer's Cut. -/
namespace Go.Proofs.Ythblbmbefhlbjaa
open Go.RowKit

theorem add_run (a b : ByteArray) (h : a.size + b.size ≤ 9223372036854775807) (W : World) : (binOp .add 9 (.string a) (.string b)).run Try.prog W = .ok (.string (a ++ b)) W := by
  have : ¬ ((9223372036854775807 : Int) < (a.size : Int) + (b.size : Int)) := by omega
  simp [binOp, Op.stringOp, this]
/-- texts in new memory -/
def RetSs (w : World) (T : List (List UInt8)) (e : Ending) (w' : World) : Prop :=
  ∃ A c, e = .returned (.slice A T.length c) ∧ Ss w' A T.length c T ∧ Below w.heap.size w w'

theorem extract_one (s : ByteArray) (k : Nat) (h : k < s.size) : (s.extract k (k + 1)).data.toList = [s[k]] := by
  rw [ByteArray.data_extract, Array.toList_extract, List.extract_eq_take_drop, show k + 1 - k = 1 by omega, List.drop_eq_getElem_cons (by simpa using h)]
  rfl
theorem txt_append (a : List UInt8) (s : ByteArray) : txt a ++ s = txt (a ++ s.data.toList) := by
  apply ByteArray.ext
  apply Array.toList_inj.1
  simp [ByteArray.data_append]
theorem txt_snoc (a : List UInt8) (s : ByteArray) (k : Nat) (h : k < s.size) : txt a ++ s.extract k (k + 1) = txt (a ++ [s[k]]) := by
  rw [txt_append, extract_one s k h]
theorem take_snoc (s : ByteArray) (k : Nat) (h : k < s.size) : s.data.toList.take (k + 1) = s.data.toList.take k ++ [s[k]] := by
  rw [List.take_succ_eq_append_getElem (by simpa using h)]; rfl

end Go.Proofs.Ythblbmbefhlbjaa

/- Sums of texts, and their bytes, in one step each. -/
namespace Go.Proofs.Ythblbmbefhlbjaa
open Go.RowKit

theorem addT (X Y : List UInt8) (h : X.length + Y.length ≤ 9223372036854775807) (W : World) : (binOp .add 9 (.string (txt X)) (.string (txt Y))).run Try.prog W = .ok (.string (txt (X ++ Y))) W := by
  rw [add_run _ _ (by simp only [txt_size]; omega) W, txt_app]
theorem wpList_addT {ops : Array Oper} {rest : List Oper} {dst : Option Tmp} {x y : Operand} {tb ty : TypeId} {pos : String} {af} {a : Act} {w : World} {Q : Exit → Act → World → Prop}
    (X Y Z : List UInt8) (hZ : Hid (Z = X ++ Y)) (hx : a.eval x = .string (txt X)) (hy : a.eval y = .string (txt Y)) (h : Z.length ≤ 9223372036854775807)
    (next : wpList Try.prog ops Q rest (a.put dst (str Z)) w) : wpList Try.prog ops Q ((⟨dst, .binOp .add 9 x y tb, ty, pos, af, none⟩ : Oper) :: rest) a w :=
  wpList_plain rfl fun K hK => by
    obtain rfl : Z = X ++ Y := hZ
    unfold Oper.wp execOp
    simp only [hx, hy]
    simp [eqGuard, addT X Y (by rw [List.length_append] at h; exact h) w, Result.andThen, Oper.upon]
    exact hK _ _ next
theorem wpList_convT {ops : Array Oper} {rest : List Oper} {dst : Option Tmp} {x : Operand} {ty : TypeId} {pos : String} {af} {a : Act} {w : World} {Q : Exit → Act → World → Prop}
    (l : List UInt8) (N g : Nat) (hx : a.eval x = .string (txt l)) (hN : l.length = N) (hl : N ≤ maxLen) (hg : w.heap.size = g)
    (next : ∀ cap W, Hid (Conv W g N cap g l) → Below w.heap.size w W → wpList Try.prog ops Q rest (a.put dst (.slice (some ⟨g, 0, none⟩) N cap)) W) : wpList Try.prog ops Q ((⟨dst, .convert 9 27 x, ty, pos, af, none⟩ : Oper) :: rest) a w := by
  subst hg
  obtain ⟨cap, W, hrun, hC, hb⟩ := conv_list (P := Try.prog) w 9 27 5 l N Try.underlying9 Try.underlying27 Try.underlying5 hN hl
  refine wpList_plain rfl fun K hK => ?_
  unfold Oper.wp execOp
  simp only [hx]
  simp [hrun, Result.andThen, Oper.upon]
  exact hK _ _ (next cap W (Lib.hid hC) hb)
/-- string(b) of bytes that lie somewhere -/
theorem wpList_strT {ops : Array Oper} {rest : List Oper} {dst : Option Tmp} {x : Operand} {ty : TypeId} {pos : String} {af} {a : Act} {w : World} {Q : Exit → Act → World → Prop}
    (A : Option Addr) (n c : Nat) (l : List UInt8) (hx : a.eval x = .slice A n c) (hB : Bs w A n c l)
    (next : wpList Try.prog ops Q rest (a.put dst (str l)) w) : wpList Try.prog ops Q ((⟨dst, .convert 27 9 x, ty, pos, af, none⟩ : Oper) :: rest) a w := by
  have hrun := hB.str (P := Try.prog) 27 5 9 Try.underlying27 Try.underlying5 Try.underlying9
  refine wpList_plain rfl fun K hK => ?_
  unfold Oper.wp execOp
  simp only [hx]
  simp [hrun, Result.andThen, Oper.upon]
  exact hK _ _ next
theorem run_bytes4 (a b c d : UInt8) (w : World) : (Instr.buildSlice 27 4 #[(0, u8 a), (1, u8 b), (2, u8 c), (3, u8 d)]).run Try.prog w = .ok (.slice (some ⟨w.heap.size, 0, none⟩) 4 4) (w.alloc (.cells #[u8 a, u8 b, u8 c, u8 d] 5)) := by
  simp [Instr.buildSlice, go_sem]
/-- four bytes in a row of their own -/
theorem wpList_bytes4 {ops : Array Oper} {rest : List Oper} {dst : Option Tmp} {x0 x1 x2 x3 : Operand} {ty : TypeId} {pos : String} {af} {a : Act} {w : World} {Q : Exit → Act → World → Prop}
    (g : Nat) (b c d e : UInt8) (h0 : a.eval x0 = u8 b) (h1 : a.eval x1 = u8 c) (h2 : a.eval x2 = u8 d) (h3 : a.eval x3 = u8 e) (hg : w.heap.size = g)
    (next : wpList Try.prog ops Q rest (a.put dst (.slice (some ⟨g, 0, none⟩) 4 4)) (w.alloc (.cells #[u8 b, u8 c, u8 d, u8 e] 5))) : wpList Try.prog ops Q ((⟨dst, .buildSlice 27 4 #[(0, x0), (1, x1), (2, x2), (3, x3)], ty, pos, af, none⟩ : Oper) :: rest) a w := by
  subst hg
  refine wpList_plain rfl fun K hK => ?_
  unfold Oper.wp execOp
  simp only [List.map_toArray, List.map_cons, List.map_nil, h0, h1, h2, h3, Sem.run_bind, run_bytes4, Result.andThen_ok]
  exact hK _ _ next
/-- a byte's load -/
theorem wpList_loadU8 {ops : Array Oper} {rest : List Oper} {dst : Option Tmp} {x : Operand} {ty : TypeId} {pos : String} {af} {a : Act} {w : World} {Q : Exit → Act → World → Prop}
    (b o : Nat) (v : UInt8) (hx : a.eval x = .pointer (some ⟨b, o, none⟩)) (hc : Hid (w.cell? ⟨b, o, none⟩ = some (u8 v)))
    (next : wpList Try.prog ops Q rest (a.put dst (u8 v)) w) : wpList Try.prog ops Q ((⟨dst, .load 5 x, ty, pos, af, none⟩ : Oper) :: rest) a w := by
  have hcc := hc.out
  refine wpList_plain rfl fun K hK => ?_
  unfold Oper.wp execOp
  simp only [hx]
  have hrun : (Instr.loadAt 5 (.pointer (some ⟨b, o, none⟩))).run Try.prog w = .ok (u8 v) w := by
    simp [Instr.loadAt, go_sem, hcc]
  simp only [Sem.run_bind, hrun, Result.andThen_ok]
  exact hK _ _ next
end Go.Proofs.Ythblbmbefhlbjaa
