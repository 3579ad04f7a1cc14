/- Words of my own for bytes in memory, over this seat's translation: a slice of bytes that reads as a list, a row of the call's own, and what append, make, copy and string(..) do with them. No condition. -/
import Derived.Test.YtncohbnlbjmadaaDoorRows
import Derived.WalkKit
import Derived.IntWalk
import Derived.ProofKit
import Derived.Outline
import Derived.Below
import Derived.Lib.Hide
import Derived.WalkLawsBesides
import Derived.WalkSpells
import Derived.BigQuiet
import Derived.Deep.QuietTactic
import Derived.Deep.Draws
import Derived.Maps.AppendAt
import Derived.Laws.CopyOwn
import Derived.Laws.MakeOwn
import Derived.Laws.BytesArg
import Derived.Shelf.Bytes.SlIndexAt
namespace Go.Proofs.YtncohbnlbjmadaaDoor
open Go.RowKit

theorem drawN_below {B : Nat} {a w : World} (h : Below B a w) (n : Nat) : Below B a (w.drewN n) := ⟨h.os, h.tape, h.output, h.size, h.block⟩

/-- the value of a byte -/
abbrev u8 (x : UInt8) : Value := .int .u8 (x.toNat : Int)
abbrev u8s (l : List UInt8) : List Value := l.map u8

/-- the numbers of bytes -/
def nums (l : List UInt8) : List Int := l.map fun x => (x.toNat : Int)
theorem nums_length (l : List UInt8) : (nums l).length = l.length := by simp [nums]
theorem bytesOf_nums (l : List UInt8) : Lib.bytesOf (nums l) = l := by
  unfold Lib.bytesOf nums
  rw [List.map_map]
  conv => rhs; rw [← List.map_id l]
  exact List.map_congr_left fun x _ => by simp

theorem u8s_one (l : List UInt8) : ∀ u ∈ u8s l, u.oneCell' = true := by
  intro u hu
  obtain ⟨x, _, rfl⟩ := List.mem_map.1 hu
  rfl
theorem u8s_get {l : List UInt8} {j : Nat} {u : Value} (h : (u8s l)[j]? = some u) : ∃ x, l[j]? = some x ∧ u = u8 x := by
  rw [List.getElem?_map] at h
  cases hx : l[j]? with
  | none => rw [hx] at h; cases h
  | some x => rw [hx] at h; exact ⟨x, rfl, (Option.some.inj h).symm⟩

/-- the slice '.slice A n c' reads as the bytes l in the world w -/
def Bs (w : World) (A : Option Addr) (n c : Nat) (l : List UInt8) : Prop :=
  l.length = n ∧ n ≤ c ∧ c ≤ maxLen ∧ (0 < n → ∃ b o, A = some ⟨b, o, none⟩ ∧ ∀ i x, l[i]? = some x → w.cell? ⟨b, o + i, none⟩ = some (u8 x))

section
variable {w w' : World} {A : Option Addr} {n c : Nat} {l : List UInt8}

theorem Bs.len (h : Bs w A n c l) : l.length = n := h.1
theorem Bs.le (h : Bs w A n c l) : n ≤ c := h.2.1
theorem Bs.max (h : Bs w A n c l) : c ≤ 9223372036854775807 := by have := h.2.2.1; simpa only [maxLen] using this
theorem Bs.nmax (h : Bs w A n c l) : n ≤ 9223372036854775807 := Nat.le_trans h.le h.max

/-- where there is a byte, the address and the cells -/
theorem Bs.at_ (h : Bs w A n c l) (hn : 0 < n) : ∃ b o, A = some ⟨b, o, none⟩ ∧ b < w.heap.size ∧ ∀ i x, l[i]? = some x → w.cell? ⟨b, o + i, none⟩ = some (u8 x) := by
  obtain ⟨b, o, e, hc⟩ := h.2.2.2 hn
  have hl : 0 < l.length := by rw [h.1]; exact hn
  exact ⟨b, o, e, World.block_lt_of_cell? w _ (hc 0 _ (List.getElem?_eq_getElem hl)), hc⟩

theorem Bs.below (h : Bs w A n c l) (hb : Below w.heap.size w w') : Bs w' A n c l :=
  ⟨h.1, h.2.1, h.2.2.1, fun hn => by
    obtain ⟨b, o, e, hlt, hc⟩ := h.at_ hn
    exact ⟨b, o, e, fun i x hx => (hb.cell (p := ⟨b, o + i, none⟩) hlt).trans (hc i x hx)⟩⟩
theorem Bs.alloc (h : Bs w A n c l) (o : Obj) : Bs (w.alloc o) A n c l := h.below ((Below.refl _ _).alloc (Nat.le_refl _) o)
theorem Bs.drew (h : Bs w A n c l) : Bs w.drew A n c l := h
theorem Bs.drewN (h : Bs w A n c l) (k : Nat) : Bs (w.drewN k) A n c l := by
  refine ⟨h.1, h.2.1, h.2.2.1, fun hn => ?_⟩
  obtain ⟨b, o, e, _, hc⟩ := h.at_ hn
  exact ⟨b, o, e, fun i x hx => by have := hc i x hx; simpa using this⟩

theorem Bs.nil (w : World) (c : Nat) (A : Option Addr) (hc : c ≤ maxLen) : Bs w A 0 c [] := ⟨rfl, Nat.zero_le _, hc, fun h => absurd h (by omega)⟩
theorem Bs.none_ (w : World) : Bs w none 0 0 [] := Bs.nil w 0 none (by simp [maxLen])
theorem Bs.empty (h : Bs w A 0 c l) : l = [] := List.eq_nil_of_length_eq_zero h.1

/-- a block that holds them -/
theorem Bs.of_block {g : Nat} {t : TypeId} {f : Nat × Nat} {cur : List Value} (hg : w.heap[g]? = some (.cells cur.toArray t f)) (hcur : cur.take l.length = u8s l) (hn : l.length = n) (hnc : n ≤ c) (hc : c ≤ maxLen) :
    Bs w (some ⟨g, 0, none⟩) n c l := by
  subst hn
  refine ⟨rfl, hnc, hc, fun _ => ⟨g, 0, rfl, fun i x hx => ?_⟩⟩
  rw [Nat.zero_add, cell_of_row w g i cur.toArray t f hg]
  have h1 : (u8s l)[i]? = some (u8 x) := by simp [u8s, hx]
  rw [← hcur, List.getElem?_take] at h1
  split at h1
  · simpa using h1
  · cases h1

/-- a new block, written out: the block's number and its cells as the walk spells them -/
theorem Bs.lit (w : World) (l : List UInt8) (t : TypeId) (C : Array Value) (g : Nat) (hg : g = w.heap.size) (hC : C = (u8s l).toArray) (hn : n = l.length) (hl : l.length ≤ maxLen) : Bs (w.alloc (.cells C t)) (some ⟨g, 0, none⟩) n n l := by
  subst hg hC hn
  exact Bs.of_block (heap_alloc_new w _) (by rw [List.take_of_length_le (by simp)]) rfl (Nat.le_refl _) hl

/-- a cut -/
theorem Bs.cut (h : Bs w A n c l) {i j : Nat} (hij : i ≤ j) (hj : j ≤ n) : Bs w (if c = i then A else A.map (·.add i)) (j - i) (c - i) ((l.take j).drop i) := by
  refine ⟨by rw [List.length_drop, List.length_take, h.1]; omega, by have := h.le; omega, Nat.le_trans (Nat.sub_le _ _) h.2.2.1, fun hn => ?_⟩
  obtain ⟨b, o, rfl, hc⟩ := h.2.2.2 (by omega)
  have := h.le
  rw [if_neg (by omega)]
  refine ⟨b, o + i, by simp [Addr.add_lit], fun k x hx => ?_⟩
  rw [Nat.add_assoc]
  refine hc _ x ?_
  rw [← hx, List.getElem?_drop, List.getElem?_take]
  split
  · rfl
  · rw [List.getElem?_drop, List.getElem?_take, if_neg (by assumption)] at hx; cases hx

/-- the numbers, as the library tells them -/
theorem Bs.cells (h : Bs w A n c l) (hn : 0 < n) : ∃ b o, A = some ⟨b, o, none⟩ ∧ ∀ i, i < n → w.cell? ⟨b, o + i, none⟩ = some (.int .u8 ((nums l).getD i 0)) := by
  obtain ⟨b, o, rfl, hc⟩ := h.2.2.2 hn
  refine ⟨b, o, rfl, fun i hi => ?_⟩
  have hl : i < l.length := by rw [h.1]; exact hi
  rw [hc i _ (List.getElem?_eq_getElem hl)]
  simp [nums, hl]
end

/-- the text of bytes -/
abbrev txt (l : List UInt8) : ByteArray := ⟨l.toArray⟩
theorem strOfNums_nums (l : List UInt8) : strOfNums (nums l) = txt l := by
  apply ByteArray.ext
  apply Array.toList_inj.1
  have := bytesOf_nums l
  unfold Lib.bytesOf at this
  simpa [strOfNums] using this

section
variable {P : Program} {w : World} {A : Option Addr} {n c : Nat} {l : List UInt8}

/-- 'string(b)' -/
theorem Bs.str (h : Bs w A n c l) (src e dst : TypeId) (hs : P.underlying src = some (.slice e)) (he : P.underlying e = some (.int .u8)) (hd : P.underlying dst = some .string) :
    (convert src dst (.slice A n c)).run P w = .ok (.string (txt l)) w := by
  rcases Nat.eq_zero_or_pos n with h0 | h0
  · subst h0
    obtain rfl := h.empty
    rcases A with _ | a
    · exact run_convert_bytes_nil (P := P) w src e hs he 0 c dst hd
    · rw [run_convert_bytes_string w src dst e _ 0 c hs he hd]
      simp [Conv.bytesToString, loadCells]
      rfl
  · obtain ⟨b, o, rfl, hc⟩ := h.cells h0
    rw [run_convert_bytes_arg w src e hs he b o n c (nums l) (by rw [nums_length, h.1]) hc dst hd, strOfNums_nums]
end
/-- a row of the call's own, from block 'base' on, that holds the bytes l -/
def Own (E : TypeId) (w : World) (base : Nat) (v : Value) (l : List UInt8) : Prop := w.ownsRow base E 1 v l.length (u8s l)

section
variable {E : TypeId} {w w' : World} {base : Nat} {v : Value} {l : List UInt8}
theorem Own.alloc (h : Own E w base v l) (o : Obj) : Own E (w.alloc o) base v l := World.ownsRow.alloc h o
theorem Own.nil (E : TypeId) (w : World) (base : Nat) : Own E w base (.slice none 0 0) [] := World.ownsRow_nil w base E 1
theorem Own.made (E : TypeId) (w : World) (cur : Array Value) (cap : Nat) (hb : base ≤ w.heap.size) (hm : cap ≤ maxLen) (hs : cur.size = cap) :
    Own E (w.alloc (.cells cur E)) base (.slice (some ⟨w.heap.size, 0, none⟩) 0 cap) [] := World.ownsRow_made w cur cap hb hm (by omega)
/-- a literal of bytes -/
theorem Own.lit (E : TypeId) (w : World) (l : List UInt8) (hb : base ≤ w.heap.size) (hm : l.length ≤ maxLen) :
    Own E (w.alloc (.cells (u8s l).toArray E)) base (.slice (some ⟨w.heap.size, 0, none⟩) l.length l.length) l :=
  ⟨by simp, .inr ⟨w.heap.size, l.length, (u8s l).toArray, rfl, hb, heap_alloc_new w _, Nat.le_refl _, hm, by simp, by rw [Nat.mul_one]; exact List.take_of_length_le (by simp)⟩⟩
theorem Own.below (h : Own E w base v l) (hb : Below w.heap.size w w') : Own E w' base v l := by
  refine ⟨h.1, ?_⟩
  rcases h.2 with hn | ⟨g, cap, cur, e, h1, h2, h3⟩
  · exact .inl hn
  · exact .inr ⟨g, cap, cur, e, h1, (hb.block g (Array.getElem?_eq_some_iff.1 h2).1).trans h2, h3⟩
theorem Own.bs (h : Own E w base v l) : ∃ A c, v = .slice A l.length c ∧ Bs w A l.length c l ∧ ∀ b, A = some b → base ≤ b.block := by
  rcases h.2 with ⟨rfl, h0⟩ | ⟨g, cap, cur, rfl, h1, h2, h3, h4, _, h6⟩
  · have : l = [] := List.eq_nil_of_length_eq_zero h0
    subst this
    exact ⟨none, 0, rfl, Bs.none_ w, fun _ hb => by cases hb⟩
  · refine ⟨_, cap, rfl, Bs.of_block (cur := cur.toList) (f := (0, 0)) (t := E) (by simpa using h2) (by simpa using h6) rfl h3 h4, fun b hb => ?_⟩
    injection hb with hb
    subst hb
    exact h1
end

section
variable {P : Program} {w : World}

/-- 'append(s, x...)' onto a row of the call's own, the source nil, empty or not -/
theorem run_app (base : Nat) (t ty e : TypeId) (ht : P.underlying t = some (.slice e)) (hi : (P.info? e).map (fun i => (i.zero, i.size, i.bytes)) = some (some (.int .u8 0), 1, 1))
    (v : Value) (xs : List UInt8) (hown : Own e w base v xs) (A : Option Addr) (m c : Nat) (l : List UInt8) (hl : Bs w A m c l) (hbytes : xs.length + m ≤ 140737488355328) (hbase : base ≤ w.heap.size) :
    ∃ v' w', (Builtin.append_ #[t, t] ty #[v, .slice A m c]).run P w = .ok v' w' ∧ Own e w' base v' (xs ++ l) ∧ Below base w w' ∧ w.grownBy w' v.ownBlock := by
  obtain ⟨i, hi, hzz⟩ := Option.map_eq_some_iff.1 hi
  simp only [Prod.mk.injEq] at hzz
  obtain ⟨hz, hsz, hby⟩ := hzz
  have hlen := hl.len
  rcases A with _ | a
  · have hm : m = 0 := by
      rcases Nat.eq_zero_or_pos m with h | h
      · exact h
      · obtain ⟨b, o, e, _⟩ := hl.2.2.2 h
        cases e
    subst hm
    obtain rfl := hl.empty
    refine ⟨v, w, ?_, by simpa using hown, Below.refl _ _, World.grownBy.refl w _⟩
    rcases hown.2 with ⟨rfl, _⟩ | ⟨g, cap, cur, rfl, _, _, hnc, _⟩
    · simp [Builtin.append_, run_underlying ht, sizeOf, typeInfo, hi, Builtin.lenOf, Builtin.firstCells]
    · simp [Builtin.append_, run_underlying ht, sizeOf, typeInfo, hi, Builtin.lenOf, Builtin.firstCells, hnc, storeCells]
  · obtain ⟨v', w', hrun, h2, h3, _, _⟩ := run_append_own_at (P := P) w base t ty e i (.int .u8 0) 1 1 ht hi hz hsz hby rfl (by omega) v xs.length (u8s xs) hown a m c (u8s l) (by simp [hlen])
      (fun j u hu => by
        obtain ⟨x, hx, rfl⟩ := u8s_get hu
        have hm : 0 < m := by have := (List.getElem?_eq_some_iff.1 hx).1; omega
        obtain ⟨b, o, e, _, hc⟩ := hl.at_ hm
        injection e with e
        subst e
        rw [Addr.add_lit]
        exact hc j x hx) (u8s_one l) (by simp only [maxLen]; omega) (by omega) hbase
    refine ⟨v', w', hrun, ?_, (Below.refl _ _).grown h3 hbase fun k hk => (World.ownsRow.lt hown k hk).1, h3⟩
    unfold Own
    rw [List.length_append, hlen]
    simpa using h2

theorem wpList_app {ops : Array Oper} {rest : List Oper} {o : Oper} {a : Act} {Q : Exit → Act → World → Prop} (hgd : o.guard = none) (s x : Operand) (t : TypeId)
    (ho : o.op = .call { callee := .builtin .append, args := #[s, x], argTypes := #[t, t] }) (base : Nat) (e : TypeId) (ht : P.underlying t = some (.slice e)) (hi : (P.info? e).map (fun i => (i.zero, i.size, i.bytes)) = some (some (.int .u8 0), 1, 1))
    (v : Value) (xs : List UInt8) (hs : a.eval s = v) (hown : Own e w base v xs) (A : Option Addr) (m c : Nat) (l : List UInt8) (hx : a.eval x = .slice A m c) (hl : Bs w A m c l) (hbytes : xs.length + m ≤ 140737488355328) (hbase : base ≤ w.heap.size)
    (h : ∀ v' w', Own e w' base v' (xs ++ l) → Below base w w' → w.grownBy w' v.ownBlock → wpList P ops Q rest (a.put o.dst v') w') : wpList P ops Q (o :: rest) a w :=
  wpList_plain hgd fun K hK => by
    obtain ⟨v', w', hrun, h2, h3, h4⟩ := run_app (P := P) base t o.type e ht hi v xs hown A m c l hl hbytes hbase
    unfold Oper.wp execOp
    simp only [ho, resolve, invoke, builtin, Sem.run_bind, Sem.run_pure, Result.andThen_ok, List.map_toArray, List.map_cons, List.map_nil, hs, hx, hrun]
    exact hK _ _ (h v' w' h2 h3 h4)
end
section
variable {P : Program}
/-- make([]byte, k, c) -/
theorem run_mk (t e : TypeId) (ht : P.underlying t = some (.slice e)) (hi : (P.info? e).map (fun i => (i.zero, i.size, i.bytes)) = some (some (.int .u8 0), 1, 1)) (k c : Nat) (hk : k ≤ c) (hc : c ≤ 140737488355328) (w : World) :
    (Instr.makeSlice t (.int .i64 (k : Int)) (.int .i64 (c : Int))).run P w = .ok (.slice (some ⟨w.heap.size, 0, none⟩) k c) (w.alloc (.cells (Array.replicate c (.int .u8 0)) e)) := by
  obtain ⟨i, hi, hzz⟩ := Option.map_eq_some_iff.1 hi
  simp only [Prod.mk.injEq] at hzz
  obtain ⟨hz, hsz, hby⟩ := hzz
  have hr := run_make (P := P) w t e i (.int .u8 0) ht hi hz .i64 .i64 (k : Int) (c : Int) (by omega) (by omega) (by rw [hby]; omega) (by omega)
  simp only [Int.toNat_natCast, hsz, Nat.mul_one] at hr
  rw [hr]
  congr 2
  congr 1
  apply Array.toList_inj.1
  simp only [madeCells, Array.toList_map, Array.toList_range, Array.toList_replicate]
  apply List.ext_getElem (by simp)
  intro j h1 h2
  simp [Value.cells, Nat.mod_one]
end

/-- what a call gives that answers bytes and a number, and leaves what was there -/
def RetBs (err : Int) (l : List UInt8) (w : World) (e : Ending) (w' : World) : Prop :=
  ∃ A c, e = .returned (.tuple #[.slice A l.length c, .int .i64 err]) ∧ Bs w' A l.length c l ∧ Below w.heap.size w w'
section
variable {P : Program} {w : World}
theorem heap_new_rep (w : World) (k : Nat) (v : Value) (t : TypeId) : (w.alloc (.cells (Array.replicate k v) t)).heap[w.heap.size]? = some (.cells (List.replicate k v).toArray t (0, 0)) := by
  rw [List.toArray_replicate]
  exact heap_alloc_new w _
/-- copy(dst, src): dst the whole of a block of the call's own, src of as many bytes -/
theorem wpList_cpy {ops : Array Oper} {rest : List Oper} {o : Oper} {a : Act} {Q : Exit → Act → World → Prop} (hgd : o.guard = none) (d s : Operand) (dT sT : TypeId)
    (ho : o.op = .call { callee := .builtin .copy, args := #[d, s], argTypes := #[dT, sT] }) (e : TypeId) (hu : P.underlying dT = some (.slice e)) (hi : (P.info? e).map (fun i => (i.zero, i.size, i.bytes)) = some (some (.int .u8 0), 1, 1))
    (g m cap : Nat) (hd : a.eval d = .slice (some ⟨g, 0, none⟩) m cap) (cur : List Value) (t : TypeId) (hg : w.heap[g]? = some (.cells cur.toArray t (0, 0))) (hcur : cur.length = m)
    (A : Option Addr) (n c : Nat) (l : List UInt8) (hs : a.eval s = .slice A n c) (hB : Bs w A n c l) (hn : n = m)
    (h : ∀ w', w'.heap[g]? = some (.cells (u8s l).toArray t (0, 0)) → Below g w w' → wpList P ops Q rest (a.put o.dst (.int .i64 (m : Int))) w') : wpList P ops Q (o :: rest) a w := by
  subst hn
  have hl := hB.len
  refine wpList_copy_splice hgd d s dT sT ho e hu (by obtain ⟨i, hi, hzz⟩ := Option.map_eq_some_iff.1 hi; simp only [Prod.mk.injEq] at hzz; rw [hi]; simp [hzz.2.1]) (some ⟨g, 0, none⟩) A n cap n c hd hs g 0 cur t hg (u8s l) (by simp [hl])
    (fun hp => ?_) (by simp [hl, hcur]) (u8s_one l) g w (Below.refl _ _) (Nat.le_refl _) (fun w' hw' hb => ?_)
  · have h0 : 0 < n := by simpa [hl] using hp
    obtain ⟨b, o', rfl, _, hc⟩ := hB.at_ h0
    refine ⟨rfl, _, rfl, fun j v hj => ?_⟩
    obtain ⟨x, hx, rfl⟩ := u8s_get hj
    rw [Addr.add_lit]
    exact hc j x hx
  · have hh := hw'.out
    have hsp : splice cur 0 (u8s l) = u8s l := by
      unfold splice
      rw [List.drop_of_length_le (by simp [hl, hcur])]
      simp
    rw [hsp] at hh
    have := h w' hh hb
    simpa [hl, goInt] using this
end
section
variable {E : TypeId} {w w' : World} {base : Nat} {v : Value} {l : List UInt8}
theorem Own.form (h : Own E w base v l) (h0 : 0 < l.length) : ∃ g c, v = .slice (some ⟨g, 0, none⟩) l.length c ∧ base ≤ g ∧ g < w.heap.size := by
  rcases h.2 with ⟨_, h1⟩ | ⟨g, cap, cur, rfl, h1, h2, _⟩
  · omega
  · exact ⟨g, cap, rfl, h1, (Array.getElem?_eq_some_iff.1 h2).1⟩
theorem Own.cell {g c : Nat} (h : Own E w base (.slice (some ⟨g, 0, none⟩) l.length c) l) {j : Nat} {x : UInt8} (hx : l[j]? = some x) : w.cell? ⟨g, j, none⟩ = some (u8 x) := by
  have hj : j < l.length := (List.getElem?_eq_some_iff.1 hx).1
  have := World.ownsRow.cellAt h j (by omega)
  rw [this]
  simp [u8s, hx]
theorem Own.frozen {g c : Nat} (h : Own E w base (.slice (some ⟨g, 0, none⟩) l.length c) l) (j : Nat) : w.frozen? ⟨g, j, none⟩ = false := World.ownsRow.frozenAt h j
theorem Own.store {g c : Nat} (h : Own E w base (.slice (some ⟨g, 0, none⟩) l.length c) l) (j : Nat) (x : UInt8) : Own E (w.setCell ⟨g, j, none⟩ (u8 x)) base (.slice (some ⟨g, 0, none⟩) l.length c) (l.set j x) := by
  have := (World.ownsRow.stored h j (u8 x)).1
  unfold Own
  rw [List.length_set]
  rw [show u8s (l.set j x) = (u8s l).set j (u8 x) from by simp [u8s]]
  exact this
end
end Go.Proofs.YtncohbnlbjmadaaDoor
