/- Laid together: Base, Later, RowsG0, Maps, Maps2, Maps3. -/
import Derived.Test.YtodjilljcjkacaaGreatDoorRows
import Derived.WalkKit
import Derived.IntWalk
import Derived.ProofKit
import Derived.Outline
import Derived.Below
import Derived.Lib.Hide
import Derived.WalkLawsBesides
import Derived.WalkSpells
import Derived.BigQuiet
import Derived.Deep.QuietTactic
import Derived.Deep.Draws
import Derived.Maps.AppendAt
import Derived.Laws.CopyOwn
import Derived.Laws.MakeOwn
import Derived.Laws.BytesArg
import Derived.Shelf.Bytes.SlIndexAt
import Derived.Deep.RegionLaw
import Derived.RegionTactic
import Derived.BigRegion
import Derived.Laws.EntriesVeiled
import Derived.LoopTactic
import Derived.MapKept
import Derived.Maps.RangeRun
import Derived.Maps.OwnOps
import Derived.Maps.RangeWalk

/- Words of my own for bytes in memory, over this seat's translation: a slice of bytes that reads as a list, a row of the call's own, and what append, make, copy and string(..) do with them. No condition. -/
namespace Go.Proofs.YtodjilljcjkacaaGreatDoor
open Go.RowKit

theorem drawN_below {B : Nat} {a w : World} (h : Below B a w) (n : Nat) : Below B a (w.drewN n) := ⟨h.os, h.tape, h.output, h.size, h.block⟩

/-- the value of a byte -/
abbrev u8 (x : UInt8) : Value := .int .u8 (x.toNat : Int)
abbrev u8s (l : List UInt8) : List Value := l.map u8

/-- the numbers of bytes -/
def nums (l : List UInt8) : List Int := l.map fun x => (x.toNat : Int)
theorem nums_length (l : List UInt8) : (nums l).length = l.length := by simp [nums]
theorem bytesOf_nums (l : List UInt8) : Lib.bytesOf (nums l) = l := by
  unfold Lib.bytesOf nums
  rw [List.map_map]
  conv => rhs; rw [← List.map_id l]
  exact List.map_congr_left fun x _ => by simp

theorem u8s_one (l : List UInt8) : ∀ u ∈ u8s l, u.oneCell' = true := by
  intro u hu
  obtain ⟨x, _, rfl⟩ := List.mem_map.1 hu
  rfl
theorem u8s_get {l : List UInt8} {j : Nat} {u : Value} (h : (u8s l)[j]? = some u) : ∃ x, l[j]? = some x ∧ u = u8 x := by
  rw [List.getElem?_map] at h
  cases hx : l[j]? with
  | none => rw [hx] at h; cases h
  | some x => rw [hx] at h; exact ⟨x, rfl, (Option.some.inj h).symm⟩

/-- the slice '.slice A n c' reads as the bytes l in the world w -/
def Bs (w : World) (A : Option Addr) (n c : Nat) (l : List UInt8) : Prop :=
  l.length = n ∧ n ≤ c ∧ c ≤ maxLen ∧ (0 < n → ∃ b o, A = some ⟨b, o, none⟩ ∧ ∀ i x, l[i]? = some x → w.cell? ⟨b, o + i, none⟩ = some (u8 x))

section
variable {w w' : World} {A : Option Addr} {n c : Nat} {l : List UInt8}

theorem Bs.len (h : Bs w A n c l) : l.length = n := h.1
theorem Bs.le (h : Bs w A n c l) : n ≤ c := h.2.1
theorem Bs.max (h : Bs w A n c l) : c ≤ 9223372036854775807 := by have := h.2.2.1; simpa only [maxLen] using this
theorem Bs.nmax (h : Bs w A n c l) : n ≤ 9223372036854775807 := Nat.le_trans h.le h.max

/-- where there is a byte, the address and the cells -/
theorem Bs.at_ (h : Bs w A n c l) (hn : 0 < n) : ∃ b o, A = some ⟨b, o, none⟩ ∧ b < w.heap.size ∧ ∀ i x, l[i]? = some x → w.cell? ⟨b, o + i, none⟩ = some (u8 x) := by
  obtain ⟨b, o, e, hc⟩ := h.2.2.2 hn
  have hl : 0 < l.length := by rw [h.1]; exact hn
  exact ⟨b, o, e, World.block_lt_of_cell? w _ (hc 0 _ (List.getElem?_eq_getElem hl)), hc⟩

theorem Bs.below (h : Bs w A n c l) (hb : Below w.heap.size w w') : Bs w' A n c l :=
  ⟨h.1, h.2.1, h.2.2.1, fun hn => by
    obtain ⟨b, o, e, hlt, hc⟩ := h.at_ hn
    exact ⟨b, o, e, fun i x hx => (hb.cell (p := ⟨b, o + i, none⟩) hlt).trans (hc i x hx)⟩⟩
theorem Bs.alloc (h : Bs w A n c l) (o : Obj) : Bs (w.alloc o) A n c l := h.below ((Below.refl _ _).alloc (Nat.le_refl _) o)
theorem Bs.drew (h : Bs w A n c l) : Bs w.drew A n c l := h
theorem Bs.drewN (h : Bs w A n c l) (k : Nat) : Bs (w.drewN k) A n c l := by
  refine ⟨h.1, h.2.1, h.2.2.1, fun hn => ?_⟩
  obtain ⟨b, o, e, _, hc⟩ := h.at_ hn
  exact ⟨b, o, e, fun i x hx => by have := hc i x hx; simpa using this⟩

theorem Bs.nil (w : World) (c : Nat) (A : Option Addr) (hc : c ≤ maxLen) : Bs w A 0 c [] := ⟨rfl, Nat.zero_le _, hc, fun h => absurd h (by omega)⟩
theorem Bs.none_ (w : World) : Bs w none 0 0 [] := Bs.nil w 0 none (by simp [maxLen])
theorem Bs.empty (h : Bs w A 0 c l) : l = [] := List.eq_nil_of_length_eq_zero h.1

/-- a block that holds them -/
theorem Bs.of_block {g : Nat} {t : TypeId} {f : Nat × Nat} {cur : List Value} (hg : w.heap[g]? = some (.cells cur.toArray t f)) (hcur : cur.take l.length = u8s l) (hn : l.length = n) (hnc : n ≤ c) (hc : c ≤ maxLen) :
    Bs w (some ⟨g, 0, none⟩) n c l := by
  subst hn
  refine ⟨rfl, hnc, hc, fun _ => ⟨g, 0, rfl, fun i x hx => ?_⟩⟩
  rw [Nat.zero_add, cell_of_row w g i cur.toArray t f hg]
  have h1 : (u8s l)[i]? = some (u8 x) := by simp [u8s, hx]
  rw [← hcur, List.getElem?_take] at h1
  split at h1
  · simpa using h1
  · cases h1

/-- a new block, written out: the block's number and its cells as the walk spells them -/
theorem Bs.lit (w : World) (l : List UInt8) (t : TypeId) (C : Array Value) (g : Nat) (hg : g = w.heap.size) (hC : C = (u8s l).toArray) (hn : n = l.length) (hl : l.length ≤ maxLen) : Bs (w.alloc (.cells C t)) (some ⟨g, 0, none⟩) n n l := by
  subst hg hC hn
  exact Bs.of_block (heap_alloc_new w _) (by rw [List.take_of_length_le (by simp)]) rfl (Nat.le_refl _) hl

/-- a cut -/
theorem Bs.cut (h : Bs w A n c l) {i j : Nat} (hij : i ≤ j) (hj : j ≤ n) : Bs w (if c = i then A else A.map (·.add i)) (j - i) (c - i) ((l.take j).drop i) := by
  refine ⟨by rw [List.length_drop, List.length_take, h.1]; omega, by have := h.le; omega, Nat.le_trans (Nat.sub_le _ _) h.2.2.1, fun hn => ?_⟩
  obtain ⟨b, o, rfl, hc⟩ := h.2.2.2 (by omega)
  have := h.le
  rw [if_neg (by omega)]
  refine ⟨b, o + i, by simp [Addr.add_lit], fun k x hx => ?_⟩
  rw [Nat.add_assoc]
  refine hc _ x ?_
  rw [← hx, List.getElem?_drop, List.getElem?_take]
  split
  · rfl
  · rw [List.getElem?_drop, List.getElem?_take, if_neg (by assumption)] at hx; cases hx

/-- the numbers, as the library tells them -/
theorem Bs.cells (h : Bs w A n c l) (hn : 0 < n) : ∃ b o, A = some ⟨b, o, none⟩ ∧ ∀ i, i < n → w.cell? ⟨b, o + i, none⟩ = some (.int .u8 ((nums l).getD i 0)) := by
  obtain ⟨b, o, rfl, hc⟩ := h.2.2.2 hn
  refine ⟨b, o, rfl, fun i hi => ?_⟩
  have hl : i < l.length := by rw [h.1]; exact hi
  rw [hc i _ (List.getElem?_eq_getElem hl)]
  simp [nums, hl]
end

/-- the text of bytes -/
abbrev txt (l : List UInt8) : ByteArray := ⟨l.toArray⟩
theorem strOfNums_nums (l : List UInt8) : strOfNums (nums l) = txt l := by
  apply ByteArray.ext
  apply Array.toList_inj.1
  have := bytesOf_nums l
  unfold Lib.bytesOf at this
  simpa [strOfNums] using this

section
variable {P : Program} {w : World} {A : Option Addr} {n c : Nat} {l : List UInt8}

/-- 'string(b)' -/
theorem Bs.str (h : Bs w A n c l) (src e dst : TypeId) (hs : P.underlying src = some (.slice e)) (he : P.underlying e = some (.int .u8)) (hd : P.underlying dst = some .string) :
    (convert src dst (.slice A n c)).run P w = .ok (.string (txt l)) w := by
  rcases Nat.eq_zero_or_pos n with h0 | h0
  · subst h0
    obtain rfl := h.empty
    rcases A with _ | a
    · exact run_convert_bytes_nil (P := P) w src e hs he 0 c dst hd
    · rw [run_convert_bytes_string w src dst e _ 0 c hs he hd]
      simp [Conv.bytesToString, loadCells]
      rfl
  · obtain ⟨b, o, rfl, hc⟩ := h.cells h0
    rw [run_convert_bytes_arg w src e hs he b o n c (nums l) (by rw [nums_length, h.1]) hc dst hd, strOfNums_nums]
end
/-- a row of the call's own, from block 'base' on, that holds the bytes l -/
def Own (E : TypeId) (w : World) (base : Nat) (v : Value) (l : List UInt8) : Prop := w.ownsRow base E 1 v l.length (u8s l)

section
variable {E : TypeId} {w w' : World} {base : Nat} {v : Value} {l : List UInt8}
theorem Own.alloc (h : Own E w base v l) (o : Obj) : Own E (w.alloc o) base v l := World.ownsRow.alloc h o
theorem Own.nil (E : TypeId) (w : World) (base : Nat) : Own E w base (.slice none 0 0) [] := World.ownsRow_nil w base E 1
theorem Own.made (E : TypeId) (w : World) (cur : Array Value) (cap : Nat) (hb : base ≤ w.heap.size) (hm : cap ≤ maxLen) (hs : cur.size = cap) :
    Own E (w.alloc (.cells cur E)) base (.slice (some ⟨w.heap.size, 0, none⟩) 0 cap) [] := World.ownsRow_made w cur cap hb hm (by omega)
/-- a literal of bytes -/
theorem Own.lit (E : TypeId) (w : World) (l : List UInt8) (hb : base ≤ w.heap.size) (hm : l.length ≤ maxLen) :
    Own E (w.alloc (.cells (u8s l).toArray E)) base (.slice (some ⟨w.heap.size, 0, none⟩) l.length l.length) l :=
  ⟨by simp, .inr ⟨w.heap.size, l.length, (u8s l).toArray, rfl, hb, heap_alloc_new w _, Nat.le_refl _, hm, by simp, by rw [Nat.mul_one]; exact List.take_of_length_le (by simp)⟩⟩
theorem Own.below (h : Own E w base v l) (hb : Below w.heap.size w w') : Own E w' base v l := by
  refine ⟨h.1, ?_⟩
  rcases h.2 with hn | ⟨g, cap, cur, e, h1, h2, h3⟩
  · exact .inl hn
  · exact .inr ⟨g, cap, cur, e, h1, (hb.block g (Array.getElem?_eq_some_iff.1 h2).1).trans h2, h3⟩
theorem Own.bs (h : Own E w base v l) : ∃ A c, v = .slice A l.length c ∧ Bs w A l.length c l ∧ ∀ b, A = some b → base ≤ b.block := by
  rcases h.2 with ⟨rfl, h0⟩ | ⟨g, cap, cur, rfl, h1, h2, h3, h4, _, h6⟩
  · have : l = [] := List.eq_nil_of_length_eq_zero h0
    subst this
    exact ⟨none, 0, rfl, Bs.none_ w, fun _ hb => by cases hb⟩
  · refine ⟨_, cap, rfl, Bs.of_block (cur := cur.toList) (f := (0, 0)) (t := E) (by simpa using h2) (by simpa using h6) rfl h3 h4, fun b hb => ?_⟩
    injection hb with hb
    subst hb
    exact h1
end

section
variable {P : Program} {w : World}

/-- 'append(s, x...)' onto a row of the call's own, the source nil, empty or not -/
theorem run_app (base : Nat) (t ty e : TypeId) (ht : P.underlying t = some (.slice e)) (hi : (P.info? e).map (fun i => (i.zero, i.size, i.bytes)) = some (some (.int .u8 0), 1, 1))
    (v : Value) (xs : List UInt8) (hown : Own e w base v xs) (A : Option Addr) (m c : Nat) (l : List UInt8) (hl : Bs w A m c l) (hbytes : xs.length + m ≤ 140737488355328) (hbase : base ≤ w.heap.size) :
    ∃ v' w', (Builtin.append_ #[t, t] ty #[v, .slice A m c]).run P w = .ok v' w' ∧ Own e w' base v' (xs ++ l) ∧ Below base w w' ∧ w.grownBy w' v.ownBlock := by
  obtain ⟨i, hi, hzz⟩ := Option.map_eq_some_iff.1 hi
  simp only [Prod.mk.injEq] at hzz
  obtain ⟨hz, hsz, hby⟩ := hzz
  have hlen := hl.len
  rcases A with _ | a
  · have hm : m = 0 := by
      rcases Nat.eq_zero_or_pos m with h | h
      · exact h
      · obtain ⟨b, o, e, _⟩ := hl.2.2.2 h
        cases e
    subst hm
    obtain rfl := hl.empty
    refine ⟨v, w, ?_, by simpa using hown, Below.refl _ _, World.grownBy.refl w _⟩
    rcases hown.2 with ⟨rfl, _⟩ | ⟨g, cap, cur, rfl, _, _, hnc, _⟩
    · simp [Builtin.append_, run_underlying ht, sizeOf, typeInfo, hi, Builtin.lenOf, Builtin.firstCells]
    · simp [Builtin.append_, run_underlying ht, sizeOf, typeInfo, hi, Builtin.lenOf, Builtin.firstCells, hnc, storeCells]
  · obtain ⟨v', w', hrun, h2, h3, _, _⟩ := run_append_own_at (P := P) w base t ty e i (.int .u8 0) 1 1 ht hi hz hsz hby rfl (by omega) v xs.length (u8s xs) hown a m c (u8s l) (by simp [hlen])
      (fun j u hu => by
        obtain ⟨x, hx, rfl⟩ := u8s_get hu
        have hm : 0 < m := by have := (List.getElem?_eq_some_iff.1 hx).1; omega
        obtain ⟨b, o, e, _, hc⟩ := hl.at_ hm
        injection e with e
        subst e
        rw [Addr.add_lit]
        exact hc j x hx) (u8s_one l) (by simp only [maxLen]; omega) (by omega) hbase
    refine ⟨v', w', hrun, ?_, (Below.refl _ _).grown h3 hbase fun k hk => (World.ownsRow.lt hown k hk).1, h3⟩
    unfold Own
    rw [List.length_append, hlen]
    simpa using h2

theorem wpList_app {ops : Array Oper} {rest : List Oper} {o : Oper} {a : Act} {Q : Exit → Act → World → Prop} (hgd : o.guard = none) (s x : Operand) (t : TypeId)
    (ho : o.op = .call { callee := .builtin .append, args := #[s, x], argTypes := #[t, t] }) (base : Nat) (e : TypeId) (ht : P.underlying t = some (.slice e)) (hi : (P.info? e).map (fun i => (i.zero, i.size, i.bytes)) = some (some (.int .u8 0), 1, 1))
    (v : Value) (xs : List UInt8) (hs : a.eval s = v) (hown : Own e w base v xs) (A : Option Addr) (m c : Nat) (l : List UInt8) (hx : a.eval x = .slice A m c) (hl : Bs w A m c l) (hbytes : xs.length + m ≤ 140737488355328) (hbase : base ≤ w.heap.size)
    (h : ∀ v' w', Own e w' base v' (xs ++ l) → Below base w w' → w.grownBy w' v.ownBlock → wpList P ops Q rest (a.put o.dst v') w') : wpList P ops Q (o :: rest) a w :=
  wpList_plain hgd fun K hK => by
    obtain ⟨v', w', hrun, h2, h3, h4⟩ := run_app (P := P) base t o.type e ht hi v xs hown A m c l hl hbytes hbase
    unfold Oper.wp execOp
    simp only [ho, resolve, invoke, builtin, Sem.run_bind, Sem.run_pure, Result.andThen_ok, List.map_toArray, List.map_cons, List.map_nil, hs, hx, hrun]
    exact hK _ _ (h v' w' h2 h3 h4)
end
section
variable {P : Program}
/-- make([]byte, k, c) -/
theorem run_mk (t e : TypeId) (ht : P.underlying t = some (.slice e)) (hi : (P.info? e).map (fun i => (i.zero, i.size, i.bytes)) = some (some (.int .u8 0), 1, 1)) (k c : Nat) (hk : k ≤ c) (hc : c ≤ 140737488355328) (w : World) :
    (Instr.makeSlice t (.int .i64 (k : Int)) (.int .i64 (c : Int))).run P w = .ok (.slice (some ⟨w.heap.size, 0, none⟩) k c) (w.alloc (.cells (Array.replicate c (.int .u8 0)) e)) := by
  obtain ⟨i, hi, hzz⟩ := Option.map_eq_some_iff.1 hi
  simp only [Prod.mk.injEq] at hzz
  obtain ⟨hz, hsz, hby⟩ := hzz
  have hr := run_make (P := P) w t e i (.int .u8 0) ht hi hz .i64 .i64 (k : Int) (c : Int) (by omega) (by omega) (by rw [hby]; omega) (by omega)
  simp only [Int.toNat_natCast, hsz, Nat.mul_one] at hr
  rw [hr]
  congr 2
  congr 1
  apply Array.toList_inj.1
  simp only [madeCells, Array.toList_map, Array.toList_range, Array.toList_replicate]
  apply List.ext_getElem (by simp)
  intro j h1 h2
  simp [Value.cells, Nat.mod_one]
end

/-- what a call gives that answers bytes and a number, and leaves what was there -/
def RetBs (err : Int) (l : List UInt8) (w : World) (e : Ending) (w' : World) : Prop :=
  ∃ A c, e = .returned (.tuple #[.slice A l.length c, .int .i64 err]) ∧ Bs w' A l.length c l ∧ Below w.heap.size w w'
section
variable {P : Program} {w : World}
theorem heap_new_rep (w : World) (k : Nat) (v : Value) (t : TypeId) : (w.alloc (.cells (Array.replicate k v) t)).heap[w.heap.size]? = some (.cells (List.replicate k v).toArray t (0, 0)) := by
  rw [List.toArray_replicate]
  exact heap_alloc_new w _
/-- copy(dst, src): dst the whole of a block of the call's own, src of as many bytes -/
theorem wpList_cpy {ops : Array Oper} {rest : List Oper} {o : Oper} {a : Act} {Q : Exit → Act → World → Prop} (hgd : o.guard = none) (d s : Operand) (dT sT : TypeId)
    (ho : o.op = .call { callee := .builtin .copy, args := #[d, s], argTypes := #[dT, sT] }) (e : TypeId) (hu : P.underlying dT = some (.slice e)) (hi : (P.info? e).map (fun i => (i.zero, i.size, i.bytes)) = some (some (.int .u8 0), 1, 1))
    (g m cap : Nat) (hd : a.eval d = .slice (some ⟨g, 0, none⟩) m cap) (cur : List Value) (t : TypeId) (hg : w.heap[g]? = some (.cells cur.toArray t (0, 0))) (hcur : cur.length = m)
    (A : Option Addr) (n c : Nat) (l : List UInt8) (hs : a.eval s = .slice A n c) (hB : Bs w A n c l) (hn : n = m)
    (h : ∀ w', w'.heap[g]? = some (.cells (u8s l).toArray t (0, 0)) → Below g w w' → wpList P ops Q rest (a.put o.dst (.int .i64 (m : Int))) w') : wpList P ops Q (o :: rest) a w := by
  subst hn
  have hl := hB.len
  refine wpList_copy_splice hgd d s dT sT ho e hu (by obtain ⟨i, hi, hzz⟩ := Option.map_eq_some_iff.1 hi; simp only [Prod.mk.injEq] at hzz; rw [hi]; simp [hzz.2.1]) (some ⟨g, 0, none⟩) A n cap n c hd hs g 0 cur t hg (u8s l) (by simp [hl])
    (fun hp => ?_) (by simp [hl, hcur]) (u8s_one l) g w (Below.refl _ _) (Nat.le_refl _) (fun w' hw' hb => ?_)
  · have h0 : 0 < n := by simpa [hl] using hp
    obtain ⟨b, o', rfl, _, hc⟩ := hB.at_ h0
    refine ⟨rfl, _, rfl, fun j v hj => ?_⟩
    obtain ⟨x, hx, rfl⟩ := u8s_get hj
    rw [Addr.add_lit]
    exact hc j x hx
  · have hh := hw'.out
    have hsp : splice cur 0 (u8s l) = u8s l := by
      unfold splice
      rw [List.drop_of_length_le (by simp [hl, hcur])]
      simp
    rw [hsp] at hh
    have := h w' hh hb
    simpa [hl, goInt] using this
end
section
variable {E : TypeId} {w w' : World} {base : Nat} {v : Value} {l : List UInt8}
theorem Own.form (h : Own E w base v l) (h0 : 0 < l.length) : ∃ g c, v = .slice (some ⟨g, 0, none⟩) l.length c ∧ base ≤ g ∧ g < w.heap.size := by
  rcases h.2 with ⟨_, h1⟩ | ⟨g, cap, cur, rfl, h1, h2, _⟩
  · omega
  · exact ⟨g, cap, rfl, h1, (Array.getElem?_eq_some_iff.1 h2).1⟩
theorem Own.cell {g c : Nat} (h : Own E w base (.slice (some ⟨g, 0, none⟩) l.length c) l) {j : Nat} {x : UInt8} (hx : l[j]? = some x) : w.cell? ⟨g, j, none⟩ = some (u8 x) := by
  have hj : j < l.length := (List.getElem?_eq_some_iff.1 hx).1
  have := World.ownsRow.cellAt h j (by omega)
  rw [this]
  simp [u8s, hx]
theorem Own.frozen {g c : Nat} (h : Own E w base (.slice (some ⟨g, 0, none⟩) l.length c) l) (j : Nat) : w.frozen? ⟨g, j, none⟩ = false := World.ownsRow.frozenAt h j
theorem Own.store {g c : Nat} (h : Own E w base (.slice (some ⟨g, 0, none⟩) l.length c) l) (j : Nat) (x : UInt8) : Own E (w.setCell ⟨g, j, none⟩ (u8 x)) base (.slice (some ⟨g, 0, none⟩) l.length c) (l.set j x) := by
  have := (World.ownsRow.stored h j (u8 x)).1
  unfold Own
  rw [List.length_set]
  rw [show u8s (l.set j x) = (u8s l).set j (u8 x) from by simp [u8s]]
  exact this
end
end Go.Proofs.YtodjilljcjkacaaGreatDoor
/- A region that draws its order, whose operations only read, and whose callees hand back one value and leave all that was there: one walk, in the order of the text. -/
namespace Go.Proofs.YtodjilljcjkacaaGreatDoor
open Go.RowKit

theorem byteInfo : (Tryz.prog.info? 5).map (fun i => (i.zero, i.size, i.bytes)) = some (some (.int .u8 0), 1, 1) := by kernel_rfl

/-- a world that comes behind w: all that was there is as it was -/
structure Later (w : World) where
  u : World
  h : Below w.heap.size w u
instance (w : World) : Nonempty (Later w) := ⟨⟨w, Below.refl _ _⟩⟩

theorem region_later {P : Program} {id : Nat} {Q : Exit → Act → World → Prop} {a : Act} {w : World} {l : List Oper} (hm : P.follows .mixedOrders = true) (hB : Region.lexB .any l.toArray = true)
    (h : wpQuiet P l.toArray (fun w' => ∃ n : Later w, w' = n.u) (fun a' => ∀ n : Later w, Q .normal a' n.u) l a) : (Code.region id l.toArray true).wp P Q a w :=
  wp_region_quiet (C := fun w' => ∃ n : Later w, w' = n.u) hm hB ⟨⟨{ w with drawn := w.drawn + 1 }, ⟨rfl, rfl, rfl, Nat.le_refl _, fun _ _ => rfl⟩⟩, rfl⟩ (by
    have e : (fun a' => ∀ w', (∃ n : Later w, w' = n.u) → Q .normal a' w') = fun a' => ∀ n : Later w, Q .normal a' n.u :=
      funext fun a' => propext ⟨fun h n => h _ ⟨n, rfl⟩, fun h w' ⟨n, e⟩ => e ▸ h n⟩
    rw [e]
    simpa using h)

theorem Calls.later {P : Program} {f : FuncId} {args : Array Value} {w : World} {n : Later w} {v : Value}
    (h : Calls P f args n.u fun e w' => e = .returned v ∧ Below n.u.heap.size n.u w') : Calls P f args n.u fun e w'' => e = .returned v ∧ ∃ m : Later w, w'' = m.u :=
  h.mono fun _ w' ⟨he, hb⟩ => ⟨he, ⟨w', n.h.trans (hb.mono n.h.size)⟩, rfl⟩
theorem Later.bs {w : World} (n : Later w) {A : Option Addr} {k c : Nat} {l : List UInt8} (h : Bs w A k c l) : Bs n.u A k c l := h.below n.h
theorem Bs.take {w : World} {A : Option Addr} {n c : Nat} {l : List UInt8} (h : Bs w A n c l) {j : Nat} (hj : j ≤ n) : Bs w A j c (l.take j) :=
  ⟨by rw [List.length_take, h.1]; omega, Nat.le_trans hj h.le, h.2.2.1, fun h0 => by
    obtain ⟨b, o, e, hc⟩ := h.2.2.2 (by omega)
    refine ⟨b, o, e, fun i x hx => hc i x ?_⟩
    rw [List.getElem?_take] at hx
    split at hx
    · exact hx
    · cases hx⟩
/-- the whole of a block -/
theorem Bs.block {w : World} {g n : Nat} {t : TypeId} {f : Nat × Nat} {l : List UInt8} (h : w.heap[g]? = some (.cells (u8s l).toArray t f)) (hn : l.length = n) (hm : n ≤ maxLen) : Bs w (some ⟨g, 0, none⟩) n n l :=
  Bs.of_block h (by rw [List.take_of_length_le (by simp)]) hn (Nat.le_refl _) hm
/-- copy(dst, src): dst a block of the call's own from place 'off' on, src of no more bytes than there is place for -/
theorem wpList_cpyTo {P : Program} {w : World} {ops : Array Oper} {rest : List Oper} {o : Oper} {a : Act} {Q : Exit → Act → World → Prop} (hgd : o.guard = none) (d s : Operand) (dT sT : TypeId)
    (ho : o.op = .call { callee := .builtin .copy, args := #[d, s], argTypes := #[dT, sT] }) (e : TypeId) (hu : P.underlying dT = some (.slice e)) (hi : (P.info? e).map (fun i => (i.zero, i.size, i.bytes)) = some (some (.int .u8 0), 1, 1))
    (g off m cap : Nat) (D : Option Addr) (hd : a.eval d = .slice D m cap) (cur : List UInt8) (t : TypeId) (hg : w.heap[g]? = some (.cells (u8s cur).toArray t (0, 0)))
    (A : Option Addr) (n' n c : Nat) (l : List UInt8) (hs : a.eval s = .slice A n' c) (hB : Bs w A n c l) (hD : 0 < n → D = some ⟨g, off, none⟩) (hn : n = min n' m) (hcur : off + n ≤ cur.length)
    (h : ∀ w', Hid (w'.heap[g]? = some (.cells (u8s (cur.take off ++ (l ++ cur.drop (off + n)))).toArray t (0, 0))) → Below g w w' → wpList P ops Q rest (a.put o.dst (.int .i64 (n : Int))) w') : wpList P ops Q (o :: rest) a w := by
  have hl := hB.len
  refine wpList_copy_splice hgd d s dT sT ho e hu (by obtain ⟨i, hi, hzz⟩ := Option.map_eq_some_iff.1 hi; simp only [Prod.mk.injEq] at hzz; rw [hi]; simp [hzz.2.1]) D A m cap n' c hd hs g off (u8s cur) t hg (u8s l) (by simp only [List.length_map, hl]; exact hn)
    (fun hp => ?_) (by simp [hl]; exact hcur) (u8s_one l) g w (Below.refl _ _) (Nat.le_refl _) (fun w' hw' hb => ?_)
  · have h0 : 0 < n := by simpa [hl] using hp
    obtain ⟨b, o', rfl, _, hc⟩ := hB.at_ h0
    refine ⟨hD h0, _, rfl, fun j v hj => ?_⟩
    obtain ⟨x, hx, rfl⟩ := u8s_get hj
    rw [Addr.add_lit]
    exact hc j x hx
  · have hsp : splice (u8s cur) off (u8s l) = u8s (cur.take off ++ (l ++ cur.drop (off + n))) := by
      unfold splice
      simp [u8s, hl]
    have hh := hw'.out
    rw [hsp] at hh
    have := h w' (Lib.hid hh) hb
    simpa [hl, goInt] using this
/-- noughts, as make lays them -/
theorem zero_cells (r : Nat) : Array.replicate r (Value.int .u8 0) = (u8s (List.replicate r 0)).toArray := by simp [u8s]
/-- make([]byte, k) -/
theorem mk_zeros (x : Int) (k : Nat) (hx : x = (k : Int)) (hk : k ≤ 140737488355328) : ∃ Z : List UInt8, Hid (Z = List.replicate k 0) ∧ Z.length = k ∧ ∀ w : World, (Instr.makeSlice 40 (.int .i64 x) (.int .i64 x)).run Tryz.prog w = .ok (.slice (some ⟨w.heap.size, 0, none⟩) k k) (w.alloc (.cells (u8s Z).toArray 5)) := by
  subst hx
  refine ⟨List.replicate k 0, Lib.hid rfl, by simp, fun w => ?_⟩
  rw [← zero_cells]
  exact run_mk 40 5 Tryz.underlying40 byteInfo k k (Nat.le_refl _) (by omega) w
theorem Bs.drop {w : World} {A : Option Addr} {n c : Nat} {l : List UInt8} (h : Bs w A n c l) {i : Nat} (hi : i ≤ n) : Bs w (if c = i then A else A.map (·.add i)) (n - i) (c - i) (l.drop i) := by
  have := h.cut (i := i) (j := n) hi (Nat.le_refl _)
  rwa [List.take_of_length_le (by rw [h.len]; exact Nat.le_refl _)] at this
/-- what a law comes to -/
def True_ (w : World) (e : Ending) (w' : World) : Prop := e = .returned (.bool true) ∧ Below w.heap.size w w'
end Go.Proofs.YtodjilljcjkacaaGreatDoor
/- Rows of bytes in memory: what may change. No condition. -/
namespace Go.Proofs.YtodjilljcjkacaaGreatDoor
open Go.RowKit

/-- only blocks of S may have been written; the others that were there are as they were -/
structure Ch (S : Nat → Prop) (w w' : World) : Prop where
  os : w'.os = w.os
  tape : w'.tape = w.tape
  output : w'.output = w.output
  size : w.heap.size ≤ w'.heap.size
  block : ∀ k, k < w.heap.size → ¬ S k → w'.heap[k]? = w.heap[k]?
theorem Ch.refl (S : Nat → Prop) (w : World) : Ch S w w := ⟨rfl, rfl, rfl, Nat.le_refl _, fun _ _ _ => rfl⟩
theorem Ch.trans {S S' : Nat → Prop} {a b c : World} (h : Ch S a b) (k : Ch S' b c) (hS : ∀ x, x < a.heap.size → S' x → S x) : Ch S a c :=
  ⟨k.os.trans h.os, k.tape.trans h.tape, k.output.trans h.output, Nat.le_trans h.size k.size, fun i hi hn => (k.block i (Nat.lt_of_lt_of_le hi h.size) (fun hs => hn (hS i hi hs))).trans (h.block i hi hn)⟩
theorem Ch.of_below {S : Nat → Prop} {w w' : World} (h : Below w.heap.size w w') : Ch S w w' := ⟨h.os, h.tape, h.output, h.size, fun k hk _ => h.block k hk⟩
theorem Ch.of_grown {S : Nat → Prop} {w w' : World} {row : Option Nat} (h : w.grownBy w' row) (hr : ∀ k, row = some k → S k) : Ch S w w' :=
  ⟨h.os, h.tape, h.output, h.size, fun k hk hn => h.block k hk (fun e => hn (hr k e.symm))⟩
theorem Ch.set {S : Nat → Prop} {w w' : World} (h : Ch S w w') {a : Addr} (ha : S a.block) (u : Value) : Ch S w (w'.setCell a u) :=
  ⟨h.os, h.tape, h.output, Nat.le_trans h.size (by simp [World.setCell]), fun k hk hn => (Below.heap_setCell _ _ _ _ (fun e => hn (by rw [e]; exact ha))).trans (h.block k hk hn)⟩
/-- block D alone -/
abbrev At1 (D : Nat) : Nat → Prop := fun x => x = D
theorem Ch.set1 {D : Nat} {w w' : World} (h : Ch (At1 D) w w') (j : Nat) (u : Value) : Ch (At1 D) w (w'.setCell ⟨D, j, none⟩ u) := h.set (a := ⟨D, j, none⟩) rfl u
theorem Ch.drew {S : Nat → Prop} {w w' : World} (h : Ch S w w') : Ch S w w'.drew := ⟨h.os, h.tape, h.output, h.size, h.block⟩
theorem Ch.below {S : Nat → Prop} {B : Nat} {w w' : World} (h : Ch S w w') (hS : ∀ k, S k → B ≤ k) (hB : B ≤ w.heap.size) : Below B w w' :=
  ⟨h.os, h.tape, h.output, h.size, fun k hk => h.block k (by omega) (fun hs => by have := hS k hs; omega)⟩
theorem Ch.row {S : Nat → Prop} {w w' : World} (h : Ch S w w') {k : Nat} {o : Obj} (hk : w.heap[k]? = some o) (hn : ¬ S k) : w'.heap[k]? = some o :=
  (h.block k (Array.getElem?_eq_some_iff.1 hk).1 hn).trans hk
theorem own_form {w : World} {base n : Nat} {e : TypeId} {v : Value} {xs : List Value} (h : w.ownsRow base e 1 v n xs) : ∃ A c, v = .slice A n c := by
  rcases h.2 with ⟨rfl, rfl⟩ | ⟨g, cap, cur, rfl, _⟩
  · exact ⟨_, _, rfl⟩
  · exact ⟨_, _, rfl⟩
theorem Own.ch {S : Nat → Prop} {w w' : World} {B : Nat} {v : Value} {l : List UInt8} (h : Own 5 w B v l) (c : Ch S w w') (hn : ∀ k, v.ownBlock = some k → ¬ S k) : Own 5 w' B v l := by
  refine ⟨h.1, ?_⟩
  rcases h.2 with hnil | ⟨g, cap, cur, e, h1, h2, h3⟩
  · exact .inl hnil
  · exact .inr ⟨g, cap, cur, e, h1, c.row h2 (hn g (by rw [e]; rfl)), h3⟩
theorem Own.lt {w : World} {B : Nat} {v : Value} {l : List UInt8} (h : Own 5 w B v l) (k : Nat) (hk : v.ownBlock = some k) : B ≤ k ∧ k < w.heap.size := World.ownsRow.lt h k hk
/-- 'append(s, x...)' onto a row of the call's own; where the new row lies -/
theorem wpList_appAt {ops : Array Oper} {rest : List Oper} {o : Oper} {a : Act} {Q : Exit → Act → World → Prop} {w : World} (hgd : o.guard = none) (s x : Operand) (t : TypeId)
    (ho : o.op = .call { callee := .builtin .append, args := #[s, x], argTypes := #[t, t] }) (base : Nat) (e : TypeId) (z : Value) (bytes : Nat) (ht : Tryz.prog.underlying t = some (.slice e)) (hi : (Tryz.prog.info? e).map (fun i => (i.zero, i.size, i.bytes)) = some (some z, 1, bytes))
    (hz : z.cells.size = 1) (hby : bytes ≤ 64) (v : Value) (n : Nat) (xs : List Value) (hs : a.eval s = v) (hown : w.ownsRow base e 1 v n xs) (ad : Addr) (m c : Nat) (news : List Value) (hx : a.eval x = .slice (some ad) m c) (hl : news.length = m)
    (hnews : ∀ (j : Nat) (u : Value), news[j]? = some u → w.cell? (ad.add j) = some u) (h1 : ∀ u ∈ news, u.oneCell' = true) (hn : n + m ≤ 1099511627776) (hbase : base ≤ w.heap.size)
    (h : ∀ v' w', w'.ownsRow base e 1 v' (n + m) (xs ++ news) → w.grownBy w' v.ownBlock → (v'.ownBlock = v.ownBlock ∨ v'.ownBlock = some w.heap.size) → wpList Tryz.prog ops Q rest (a.put o.dst v') w') : wpList Tryz.prog ops Q (o :: rest) a w :=
  wpList_plain hgd fun K hK => by
    obtain ⟨i, hi, hzz⟩ := Option.map_eq_some_iff.1 hi
    simp only [Prod.mk.injEq] at hzz
    obtain ⟨v', w', hrun, h2, h3, _, h5⟩ := run_append_own_at (P := Tryz.prog) w base t o.type e i z 1 bytes ht hi hzz.1 hzz.2.1 hzz.2.2 hz (by decide) v n xs hown ad m c news (by rw [hl, Nat.mul_one]) hnews h1 (by simp only [maxLen]; omega)
      (Nat.le_trans (Nat.mul_le_mul hn hby) (by decide)) hbase
    unfold Oper.wp execOp
    simp only [ho, resolve, invoke, builtin, Sem.run_bind, Sem.run_pure, Result.andThen_ok, List.map_toArray, List.map_cons, List.map_nil, hs, hx, hrun]
    exact hK _ _ (h v' w' h2 h3 h5)
theorem own_ne {w : World} {base n g : Nat} {e t : TypeId} {v : Value} {xs : List Value} {cs : Array Value} {fr : Nat × Nat} (h : w.ownsRow base e 1 v n xs) (hg : w.heap[g]? = some (.cells cs t fr)) (ht : t ≠ e) : some g ≠ v.ownBlock := by
  rcases h.2 with ⟨rfl, _⟩ | ⟨g', cap, cur, rfl, _, hgg, _⟩
  · simp [Value.ownBlock]
  · intro e
    simp [Value.ownBlock] at e
    subst e
    rw [hg] at hgg
    injection hgg with hgg
    injection hgg with _ h2
    exact ht h2
theorem Bs.ch {S : Nat → Prop} {w w' : World} {A : Option Addr} {n c : Nat} {l : List UInt8} (h : Bs w A n c l) (hc : Ch S w w') (hn : 0 < n → ∀ b, A = some b → ¬ S b.block) : Bs w' A n c l :=
  ⟨h.1, h.2.1, h.2.2.1, fun h0 => by
    obtain ⟨b, o, rfl, hlt, hcell⟩ := h.at_ h0
    refine ⟨b, o, rfl, fun i x hx => ?_⟩
    have hb := hc.block b hlt (hn h0 _ rfl)
    exact (World.cell?_of_block (w := w) (a := ⟨b, o + i, none⟩) hb).trans (hcell i x hx)⟩
theorem own_ty {w : World} {B n : Nat} {e : TypeId} {v : Value} {xs : List Value} (h : w.ownsRow B e 1 v n xs) (k : Nat) (hk : v.ownBlock = some k) : ∃ cur, w.heap[k]? = some (.cells cur e (0, 0)) := by
  rcases h.2 with ⟨rfl, _⟩ | ⟨g, cap, cur, rfl, _, h2, _⟩
  · cases hk
  · simp only [Value.ownBlock, Option.some.injEq] at hk
    subst hk
    exact ⟨cur, h2⟩
theorem own_below {w w' : World} {B n : Nat} {e : TypeId} {v : Value} {xs : List Value} (h : w.ownsRow B e 1 v n xs) (hb : Below w.heap.size w w') : w'.ownsRow B e 1 v n xs := by
  refine ⟨h.1, ?_⟩
  rcases h.2 with hn | ⟨g, cap, cur, q, q1, q2, q3⟩
  · exact .inl hn
  · exact .inr ⟨g, cap, cur, q, q1, (hb.block g (Array.getElem?_eq_some_iff.1 q2).1).trans q2, q3⟩
theorem own_ch {w w' : World} {S : Nat → Prop} {B n : Nat} {e : TypeId} {v : Value} {xs : List Value} (h : w.ownsRow B e 1 v n xs) (c : Ch S w w') (hS : ∀ k, v.ownBlock = some k → ¬ S k) : w'.ownsRow B e 1 v n xs := by
  refine ⟨h.1, ?_⟩
  rcases h.2 with hn | ⟨g, cap, cur, q, q1, q2, q3⟩
  · exact .inl hn
  · exact .inr ⟨g, cap, cur, q, q1, c.row q2 (hS g (by rw [q]; rfl)), q3⟩
theorem newRow (wa : World) (y : UInt8) : ∀ (j : Nat) (u : Value), [u8 y][j]? = some u → (wa.alloc (.cells #[u8 y] 5)).cell? ((⟨wa.heap.size, 0, none⟩ : Addr).add j) = some u := fun j u hu => by
  have hj : j = 0 := by
    rcases Nat.lt_or_ge j 1 with h | h
    · omega
    · rw [List.getElem?_eq_none (by simpa using h)] at hu; cases hu
  subst hj
  rw [Addr.add_lit, Nat.zero_add, cell_of_row _ wa.heap.size 0 _ _ _ (heap_alloc_new wa _)]
  exact hu
theorem oneRow (y : UInt8) : ∀ u ∈ [u8 y], u.oneCell' = true := fun u hu => by simp at hu; subst hu; rfl
/-- 'append(s, x...)' of bytes, which tells where the new row lies -/
theorem wpList_appL {ops : Array Oper} {rest : List Oper} {o : Oper} {a : Act} {Q : Exit → Act → World → Prop} {w : World} (hgd : o.guard = none) (s x : Operand)
    (ho : o.op = .call { callee := .builtin .append, args := #[s, x], argTypes := #[40, 40] }) (base : Nat) (v : Value) (xs : List UInt8) (hs : a.eval s = v) (hown : Own 5 w base v xs) (A : Option Addr) (m c : Nat) (l : List UInt8) (hx : a.eval x = .slice A m c) (hl : Bs w A m c l)
    (hn : xs.length + m ≤ 1099511627776) (hbase : base ≤ w.heap.size)
    (h : ∀ v' w', Own 5 w' base v' (xs ++ l) → w.grownBy w' v.ownBlock → (v'.ownBlock = v.ownBlock ∨ v'.ownBlock = some w.heap.size) → wpList Tryz.prog ops Q rest (a.put o.dst v') w') : wpList Tryz.prog ops Q (o :: rest) a w := by
  have hlen := hl.len
  rcases A with _ | ad
  · have hm : m = 0 := by
      rcases Nat.eq_zero_or_pos m with h | h
      · exact h
      · obtain ⟨b, o, e, _⟩ := hl.2.2.2 h
        cases e
    subst hm
    obtain rfl := hl.empty
    refine wpList_plain hgd fun K hK => ?_
    obtain ⟨i, hi, hzz⟩ := Option.map_eq_some_iff.1 (byteInfo : (Tryz.prog.info? 5).map (fun i => (i.zero, i.size, i.bytes)) = some (some (.int .u8 0), 1, 1))
    simp only [Prod.mk.injEq] at hzz
    have hrun : (Builtin.append_ #[40, 40] o.type #[v, .slice none 0 c]).run Tryz.prog w = .ok v w := by
      rcases hown.2 with ⟨rfl, _⟩ | ⟨g, cap, cur, rfl, _, _, hnc, _⟩
      · simp [Builtin.append_, run_underlying Tryz.underlying40, sizeOf, typeInfo, hi, Builtin.lenOf, Builtin.firstCells]
      · simp [Builtin.append_, run_underlying Tryz.underlying40, sizeOf, typeInfo, hi, Builtin.lenOf, Builtin.firstCells, hnc, storeCells]
    unfold Oper.wp execOp
    simp only [ho, resolve, invoke, builtin, Sem.run_bind, Sem.run_pure, Result.andThen_ok, List.map_toArray, List.map_cons, List.map_nil, hs, hx, hrun]
    exact hK _ _ (h v w (by simpa using hown) (World.grownBy.refl w _) (.inl rfl))
  · refine wpList_appAt hgd s x 40 ho base 5 (.int .u8 0) 1 Tryz.underlying40 byteInfo rfl (by decide) v xs.length (u8s xs) hs hown ad m c (u8s l) hx (by simp [hlen]) (fun j u hu => ?_) (fun u hu => ?_) hn hbase (fun v' w' q1 q2 q3 => h v' w' ?_ q2 q3)
    · obtain ⟨y, hy, rfl⟩ := u8s_get hu
      have hm : 0 < m := by have := (List.getElem?_eq_some_iff.1 hy).1; omega
      obtain ⟨b, o', e, hc⟩ := hl.2.2.2 hm
      injection e with e
      subst e
      rw [Addr.add_lit]
      exact hc j y hy
    · obtain ⟨j, hj⟩ := List.getElem?_of_mem hu
      obtain ⟨y, hy, rfl⟩ := u8s_get hj
      rfl
    · unfold Own
      rw [List.length_append, hlen]
      simpa using q1
end Go.Proofs.YtodjilljcjkacaaGreatDoor
/- Maps in memory, as lists of keys and values: look-up, store, delete, range. No condition. -/
namespace Go.Proofs.YtodjilljcjkacaaGreatDoor
open Go.RowKit Go.MapKept

/-- keys of one kind -/
structure KeyK (P : Program) (k : TypeId) (κ : Type) [DecidableEq κ] (kv : κ → Value) where
  d : TypeDesc
  und : P.underlying k = some d
  key : ∀ a, IsKey d (kv a)
  same : ∀ a b, Instr.sameNow d (kv a) (kv b) = some (decide (a = b))
  bits : ∀ a, Instr.sameBits 10000 (kv a) (kv a) = true
noncomputable def keyString {P : Program} {k : TypeId} (h : P.underlying k = some .string) : KeyK P k ByteArray .string :=
  ⟨.string, h, fun _ => trivial, fun a b => by simp only [Instr.sameNow, Option.some.injEq]; rw [Bool.eq_iff_iff, bytes_beq, decide_eq_true_iff], fun a => by simp only [Instr.sameBits]; exact (bytes_beq a a).2 rfl⟩
theorem modify_at {α : Type} (f : α → α) : ∀ (l : List α) (j : Nat) (h : j < l.length), l.modify j f = l.set j (f l[j])
  | _ :: _, 0, _ => rfl
  | a :: l, j + 1, h => by
    have := modify_at f l j (by simpa using h)
    simp [this]
/-- the list's words -/
def aget {κ : Type} [DecidableEq κ] : List (κ × Value) → κ → Option Value
  | [], _ => none
  | (a, v) :: r, k => if k = a then some v else aget r k
def aidx {κ : Type} [DecidableEq κ] : List (κ × Value) → κ → Option Nat
  | [], _ => none
  | (a, _) :: r, k => if k = a then some 0 else (aidx r k).map (· + 1)
def aset {κ : Type} [DecidableEq κ] : List (κ × Value) → κ → Value → List (κ × Value)
  | [], k, v => [(k, v)]
  | (a, u) :: r, k, v => if k = a then (k, v) :: r else (a, u) :: aset r k v
/-- block M is a map that reads as L -/
def MapIs {κ : Type} (kv : κ → Value) (w : World) (M : Nat) (L : List (κ × Value)) : Prop :=
  ∃ es clock, w.heap[M]? = some (.map es clock) ∧ es.toList.map (fun e => (e.key, e.val)) = L.map (fun p => (kv p.1, p.2)) ∧ (∀ x ∈ es.toList, x.born < clock) ∧ (es.toList.map (·.born)).Nodup

section
variable {P : Program} {k : TypeId} {κ : Type} [DecidableEq κ] {kv : κ → Value}
theorem findNow_list (K : KeyK P k κ kv) (x : κ) : ∀ (es : List MapEntry) (L : List (κ × Value)) (i : Nat), es.map (fun e => (e.key, e.val)) = L.map (fun p => (kv p.1, p.2)) →
    Instr.findNow K.d (kv x) es i = some (match aidx L x, aget L x with | some j, some v => some (i + j, v) | _, _ => none)
  | [], [], _, _ => rfl
  | [], _ :: _, _, h => by cases h
  | _ :: _, [], _, h => by cases h
  | e :: es, (a, v) :: L, i, h => by
    simp only [List.map_cons, List.cons.injEq, Prod.mk.injEq] at h
    obtain ⟨⟨h1, h2⟩, h3⟩ := h
    rw [Instr.findNow, h1, K.same]
    by_cases hx : x = a
    · simp [hx, aidx, aget, h2]
    · have ih := findNow_list K x es L (i + 1) h3
      simp only [hx, decide_false, aidx, aget, if_false, ih]
      cases aidx L x <;> cases aget L x <;> simp
      omega
theorem aidx_aget (L : List (κ × Value)) (x : κ) : (aidx L x = none ↔ aget L x = none) := by
  induction L with
  | nil => simp [aidx, aget]
  | cons p r ih =>
    obtain ⟨a, v⟩ := p
    by_cases h : x = a
    · simp [aidx, aget, h]
    · simp [aidx, aget, h, ih]
theorem run_find (K : KeyK P k κ kv) (w : World) (x : κ) (es : List MapEntry) (L : List (κ × Value)) (h : es.map (fun e => (e.key, e.val)) = L.map (fun p => (kv p.1, p.2))) :
    (Instr.findKey k (kv x) es).run P w = .ok (match aidx L x, aget L x with | some j, some v => some (j, v) | _, _ => none) w := by
  have := findNow_list K x es L 0 h
  simp only [Nat.zero_add] at this
  exact run_findKey K.und this
/-- 'm[x]' -/
theorem run_lookupL (K : KeyK P k κ kv) (T e : TypeId) (ht : P.underlying T = some (.map k e)) (w : World) (M : Nat) (L : List (κ × Value)) (h : MapIs kv w M L) (x : κ) (z : Value) (hz : (zeroValue e).run P w = .ok z w) (ok : Bool) :
    (Instr.lookup T (.map (some M)) (kv x) ok).run P w = .ok (if ok then .tuple #[(aget L x).getD z, .bool (aget L x).isSome] else (aget L x).getD z) w := by
  obtain ⟨es, clock, hb, hL, _, _⟩ := h
  have hf := run_find K w x es.toList L hL
  have hc : (Instr.checkKey es.isEmpty 10000 k (kv x)).run P w = .ok () w := run_checkKey (w := w) (e := es.isEmpty) (n := 9999) K.und (K.key x)
  unfold Instr.lookup
  simp only [Sem.run_bind, run_underlying ht, Result.andThen_ok, Go.MapKept.run_getObj_map hb, Sem.run_pure, hc, hf]
  have ha := aidx_aget L x
  cases h1 : aidx L x with
  | none =>
    have h2 := ha.1 h1
    simp [h2, hz, Result.andThen]
  | some j =>
    cases h2 : aget L x with
    | none => rw [ha.2 h2] at h1; cases h1
    | some v => simp
/-- block M anew -/
abbrev reblock (w : World) (M : Nat) (o : Obj) : World := { w with heap := w.heap.setIfInBounds M o }
theorem reblock_row {w : World} {M : Nat} {o o' : Obj} (h : w.heap[M]? = some o) : (reblock w M o').heap[M]? = some o' := (heap_set h).1
theorem reblock_ch {w : World} {M : Nat} {o o' : Obj} (h : w.heap[M]? = some o) : Ch (fun j => j = M) w (reblock w M o') :=
  ⟨rfl, rfl, rfl, by simp, fun j _ hj => (heap_set h).2 j hj⟩
theorem reblock_size (w : World) (M : Nat) (o : Obj) : (reblock w M o).heap.size = w.heap.size := by simp

theorem aidx_set (L : List (κ × Value)) (x : κ) (v : Value) : (∀ j, aidx L x = some j → j < L.length ∧ (L.map (fun p => (kv p.1, p.2))).set j (kv x, v) = (aset L x v).map (fun p => (kv p.1, p.2))) ∧ (aidx L x = none → aset L x v = L ++ [(x, v)]) := by
  induction L with
  | nil => exact ⟨fun j h => by simp [aidx] at h, fun _ => rfl⟩
  | cons p r ih =>
    obtain ⟨a, u⟩ := p
    by_cases h : x = a
    · refine ⟨fun j hj => ?_, fun hj => by simp [aidx, h] at hj⟩
      simp only [aidx, h, if_true, Option.some.injEq] at hj
      subst hj
      simp [aset, h]
    · refine ⟨fun j hj => ?_, fun hj => ?_⟩
      · simp only [aidx, h, if_false, Option.map_eq_some_iff] at hj
        obtain ⟨i, hi, rfl⟩ := hj
        obtain ⟨h1, h2⟩ := ih.1 i hi
        exact ⟨by simp; omega, by simp [aset, h, h2]⟩
      · simp only [aidx, h, if_false, Option.map_eq_none_iff] at hj
        simp [aset, h, ih.2 hj]
/-- 'm[x] = v' -/
theorem run_updateL (K : KeyK P k κ kv) (T e : TypeId) (ht : P.underlying T = some (.map k e)) (w : World) (M : Nat) (L : List (κ × Value)) (h : MapIs kv w M L) (x : κ) (v : Value) :
    ∃ w', (Instr.mapUpdate T (.map (some M)) (kv x) v).run P w = .ok () w' ∧ MapIs kv w' M (aset L x v) ∧ Ch (fun j => j = M) w w' ∧ w'.heap.size = w.heap.size := by
  obtain ⟨es, clock, hb, hL, hbo, hnd⟩ := h
  have hf := run_find K w x es.toList L hL
  have hc : (Instr.checkKey false 10000 k (kv x)).run P w = .ok () w := run_checkKey (w := w) (e := false) (n := 9999) K.und (K.key x)
  have hs := aidx_set (kv := kv) L x v
  have hlen : es.toList.length = L.length := by have := congrArg List.length hL; simpa using this
  have ha := aidx_aget L x
  cases h1 : aidx L x with
  | none =>
    have h2 := ha.1 h1
    rw [h1] at hf
    refine ⟨reblock w M (.map (es.push { key := kv x, val := v, born := clock }) (clock + 1)), ?_, ⟨_, _, reblock_row hb, ?_, ?_, ?_⟩, reblock_ch hb, reblock_size _ _ _⟩
    · unfold Instr.mapUpdate
      simp only [Sem.run_bind, run_underlying ht, Result.andThen_ok, Go.MapKept.run_getObj_map hb, hc, hf]
      exact Go.MapKept.run_setObj_map _ hb
    · rw [hs.2 h1]
      simp [hL]
    · intro y hy
      simp only [Array.toList_push, List.mem_append, List.mem_singleton] at hy
      rcases hy with hy | rfl
      · have := hbo y hy; omega
      · exact Nat.lt_succ_self _
    · simp only [Array.toList_push, List.map_append, List.map_cons, List.map_nil]
      rw [List.nodup_append]
      refine ⟨hnd, by simp, fun a hm b hb' => ?_⟩
      obtain ⟨y, hy, rfl⟩ := List.mem_map.1 hm
      simp only [List.mem_singleton] at hb'
      have := hbo y hy
      omega
  | some j =>
    cases h2 : aget L x with
    | none => rw [ha.2 h2] at h1; cases h1
    | some u =>
      rw [h1, h2] at hf
      obtain ⟨hj, hset⟩ := hs.1 j h1
      have hjs : j < es.size := by have : es.size = es.toList.length := by simp
                                   omega
      have hkey : ((es[j]?).map (·.key)).getD (kv x) = kv x := by
        have e1 : (es.toList.map (fun e => (e.key, e.val)))[j]? = (L.map (fun p => (kv p.1, p.2)))[j]? := by rw [hL]
        rw [List.getElem?_map, List.getElem?_map] at e1
        have e2 : es.toList[j]? = es[j]? := by simp
        rw [e2, Array.getElem?_eq_getElem hjs] at e1
        have e3 : ∀ (L : List (κ × Value)) (j : Nat), aidx L x = some j → ∃ u, L[j]? = some (x, u) := by
          intro L
          induction L with
          | nil => intro j h; simp [aidx] at h
          | cons p r ih =>
            intro j h
            obtain ⟨a, u⟩ := p
            by_cases hx : x = a
            · simp only [aidx, hx, if_true, Option.some.injEq] at h
              subst h
              exact ⟨u, by simp [hx]⟩
            · simp only [aidx, hx, if_false, Option.map_eq_some_iff] at h
              obtain ⟨i, hi, rfl⟩ := h
              obtain ⟨u', hu⟩ := ih i hi
              exact ⟨u', by simpa using hu⟩
        obtain ⟨u', hu⟩ := e3 L j h1
        rw [hu] at e1
        simp only [Option.map_some, Option.some.injEq, Prod.mk.injEq] at e1
        rw [Array.getElem?_eq_getElem hjs]
        simp [e1.1]
      have hks : (Instr.keyThatStays (kv x) (kv x)).run P w = .ok (kv x) w := by unfold Instr.keyThatStays; rw [if_pos (K.bits x)]; rfl
      refine ⟨reblock w M (.map (es.modify j fun e => { e with key := kv x, val := v }) clock), ?_, ⟨_, _, reblock_row hb, ?_, ?_, ?_⟩, reblock_ch hb, reblock_size _ _ _⟩
      · unfold Instr.mapUpdate
        simp only [Sem.run_bind, run_underlying ht, Result.andThen_ok, Go.MapKept.run_getObj_map hb, hc, hf, hkey, hks]
        exact Go.MapKept.run_setObj_map _ hb
      · rw [← hset, ← hL]
        rw [Array.toList_modify, modify_at _ _ _ (by simpa using hjs)]
        simp [List.map_set]
      · intro y hy
        rw [Array.toList_modify, modify_at _ _ _ (by simpa using hjs)] at hy
        rcases List.mem_or_eq_of_mem_set hy with hy | rfl
        · exact hbo y hy
        · exact hbo es.toList[j] (List.getElem_mem _)
      · rw [Array.toList_modify, modify_at _ _ _ (by simpa using hjs)]
        simp only [List.map_set]
        have e3 : (es.toList.map (·.born)).set j es.toList[j].born = es.toList.map (·.born) := by
          apply List.ext_getElem (by simp)
          intro i h3 h4
          rw [List.getElem_set]
          split
          · subst j; simp
          · rfl
        rw [e3]
        exact hnd
end
end Go.Proofs.YtodjilljcjkacaaGreatDoor
/- Maps in memory: the laws at the operations. No condition. -/
namespace Go.Proofs.YtodjilljcjkacaaGreatDoor
open Go.RowKit Go.MapKept

theorem MapIs.new {κ : Type} (kv : κ → Value) (w : World) : MapIs kv (w.alloc (.map #[] 0)) w.heap.size [] := ⟨#[], 0, heap_alloc_new w _, rfl, (fun x hx => by cases hx), List.nodup_nil⟩
theorem MapIs.lt {κ : Type} {kv : κ → Value} {w : World} {M : Nat} {L : List (κ × Value)} (h : MapIs kv w M L) : M < w.heap.size := by
  obtain ⟨es, clock, hb, _⟩ := h
  exact (Array.getElem?_eq_some_iff.1 hb).1
theorem MapIs.row {κ : Type} {kv : κ → Value} {w w' : World} {M : Nat} {L : List (κ × Value)} (h : MapIs kv w M L) (hr : w'.heap[M]? = w.heap[M]?) : MapIs kv w' M L := by
  obtain ⟨es, clock, hb, h1⟩ := h
  exact ⟨es, clock, hr.trans hb, h1⟩
theorem MapIs.ch {κ : Type} {kv : κ → Value} {S : Nat → Prop} {w w' : World} {M : Nat} {L : List (κ × Value)} (h : MapIs kv w M L) (c : Ch S w w') (hn : ¬ S M) : MapIs kv w' M L := h.row (c.block M h.lt hn)
theorem MapIs.below {κ : Type} {kv : κ → Value} {w w' : World} {M : Nat} {L : List (κ × Value)} (h : MapIs kv w M L) (hb : Below w.heap.size w w') : MapIs kv w' M L := h.row (hb.block M h.lt)
/-- a map is no cells -/
theorem MapIs.ne {κ : Type} {kv : κ → Value} {w : World} {M g : Nat} {L : List (κ × Value)} {c : Array Value} {t : TypeId} {f : Nat × Nat} (h : MapIs kv w M L) (hg : w.heap[g]? = some (.cells c t f)) : M ≠ g := fun e => by
  obtain ⟨es, clock, hb, _⟩ := h
  rw [e, hg] at hb
  cases hb

section
variable {P : Program} {k : TypeId} {κ : Type} [DecidableEq κ] {kv : κ → Value} {w : World} {ops : Array Oper} {rest : List Oper} {o : Oper} {a : Act} {Q : Exit → Act → World → Prop}
theorem wpList_lookupL (hg : o.guard = none) (K : KeyK P k κ kv) (m x : Operand) (T e : TypeId) (ok : Bool) (hop : o.op = Op.lookup T m x ok) (ht : P.underlying T = some (.map k e)) (M : Nat) (L : List (κ × Value)) (hm : a.eval m = .map (some M)) (h : MapIs kv w M L) (key : κ) (hx : a.eval x = kv key) (z : Value) (hz : (zeroValue e).run P w = .ok z w)
    (hK : wpList P ops Q rest (a.put o.dst (if ok then .tuple #[(aget L key).getD z, .bool (aget L key).isSome] else (aget L key).getD z)) w) : wpList P ops Q (o :: rest) a w := by
  refine wpList_plain hg fun K' hK' => ?_
  have hrun := run_lookupL K T e ht w M L h key z hz ok
  unfold Oper.wp
  simp only [execOp, hop, hm, hx, Sem.run_bind, hrun, Result.andThen_ok, Sem.run_pure]
  exact hK' _ _ hK
theorem wpList_updateL (hg : o.guard = none) (K : KeyK P k κ kv) (m x v : Operand) (T e : TypeId) (hop : o.op = Op.mapUpdate T m x v ∨ o.op = Op.insert T m x v) (ht : P.underlying T = some (.map k e)) (M : Nat) (L : List (κ × Value)) (hm : a.eval m = .map (some M)) (h : MapIs kv w M L) (key : κ) (hx : a.eval x = kv key) (u : Value) (hv : a.eval v = u)
    (hK : ∀ w', MapIs kv w' M (aset L key u) → Ch (fun j => j = M) w w' → w'.heap.size = w.heap.size → wpList P ops Q rest (a.put o.dst undef) w') : wpList P ops Q (o :: rest) a w := by
  refine wpList_plain hg fun K' hK' => ?_
  obtain ⟨w', hrun, h1, h2, h3⟩ := run_updateL K T e ht w M L h key u
  unfold Oper.wp
  rcases hop with hop | hop
  · simp only [execOp, hop, hm, hx, hv, Sem.run_bind, hrun, Result.andThen_ok, Sem.run_pure]
    exact hK' _ _ (hK w' h1 h2 h3)
  · simp only [execOp, hop, hm, hx, hv, Sem.run_bind, hrun, Result.andThen_ok, Sem.run_pure]
    exact hK' _ _ (hK w' h1 h2 h3)
end
end Go.Proofs.YtodjilljcjkacaaGreatDoor
/- Maps in memory: ranges, in whatever order. No condition. -/
namespace Go.Proofs.YtodjilljcjkacaaGreatDoor
open Go.RowKit Go.MapKept Go.ChangeMaps

/-- iterator I ranges over map M, which reads as L; those of left are still to come -/
def Rng {κ : Type} (kv : κ → Value) (w : World) (M I : Nat) (L left : List (κ × Value)) : Prop :=
  ∃ es clock since seen c0, w.heap[M]? = some (.map es clock) ∧ es.toList.map (fun e => (e.key, e.val)) = L.map (fun p => (kv p.1, p.2)) ∧ (∀ x ∈ es.toList, x.born < clock) ∧ (es.toList.map (·.born)).Nodup ∧
    w.heap[I]? = some (.mapIter (some M) since seen c0) ∧ (∀ x ∈ es.toList, x.born < since) ∧ since ≤ c0 ∧ since ≤ clock ∧ (leftOf es seen).toList.map (fun e => (e.key, e.val)) = left.map (fun p => (kv p.1, p.2))
section
variable {κ : Type} {kv : κ → Value} {w w' : World} {M I : Nat} {L left : List (κ × Value)}
theorem Rng.map (h : Rng kv w M I L left) : MapIs kv w M L := by
  obtain ⟨es, clock, since, seen, c0, h1, h2, h3, h4, _⟩ := h
  exact ⟨es, clock, h1, h2, h3, h4⟩
theorem Rng.lt (h : Rng kv w M I L left) : I < w.heap.size := by
  obtain ⟨es, clock, since, seen, c0, _, _, _, _, h5, _⟩ := h
  exact (Array.getElem?_eq_some_iff.1 h5).1
theorem Rng.ch {S : Nat → Prop} (h : Rng kv w M I L left) (c : Ch S w w') (h1 : ¬ S M) (h2 : ¬ S I) : Rng kv w' M I L left := by
  obtain ⟨es, clock, since, seen, c0, a1, a2, a3, a4, a5, a6⟩ := h
  exact ⟨es, clock, since, seen, c0, c.row a1 h1, a2, a3, a4, c.row a5 h2, a6⟩
theorem Rng.below (h : Rng kv w M I L left) (hb : Below w.heap.size w w') : Rng kv w' M I L left := h.ch (Ch.of_below (S := fun _ => False) hb) (fun h => h) (fun h => h)
/-- an iterator is no cells -/
theorem Rng.ne {g : Nat} {c : Array Value} {t : TypeId} {f : Nat × Nat} (h : Rng kv w M I L left) (hg : w.heap[g]? = some (.cells c t f)) : I ≠ g := fun e => by
  obtain ⟨es, clock, since, seen, c0, _, _, _, _, a5, _⟩ := h
  rw [e, hg] at a5
  cases a5
theorem Rng.neM {M2 : Nat} {κ2 : Type} {kv2 : κ2 → Value} {L2 : List (κ2 × Value)} (h : Rng kv w M I L left) (hm : MapIs kv2 w M2 L2) : I ≠ M2 := fun e => by
  obtain ⟨es, clock, since, seen, c0, _, _, _, _, a5, _⟩ := h
  obtain ⟨es2, clock2, hb, _⟩ := hm
  rw [e, hb] at a5
  cases a5
end
end Go.Proofs.YtodjilljcjkacaaGreatDoor
