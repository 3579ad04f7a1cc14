/- Laid together: Base, Later, HeldMore, Plan, CrcMath, Crc, CrcAlive, CrcSeal, EntryMath, Entry, EntryPut, EntryGet, BytesEqual, EntryAlive, CrcOpen, CrcBursts, CrcTurns, EntryTurnsMath, CrcRef, RowsG0, RowsG, Ref13, Maps, Maps2, Maps3, Dk0, Dk1, Dk2, Dk3, Dk4. -/
import Derived.Test.YthblbmbefhlbjaaRows
import Derived.WalkKit
import Derived.IntWalk
import Derived.ProofKit
import Derived.Outline
import Derived.Below
import Derived.Lib.Hide
import Derived.WalkLawsBesides
import Derived.WalkSpells
import Derived.BigQuiet
import Derived.Deep.QuietTactic
import Derived.Deep.Draws
import Derived.Maps.AppendAt
import Derived.Laws.CopyOwn
import Derived.Laws.MakeOwn
import Derived.Laws.BytesArg
import Derived.Shelf.Bytes.SlIndexAt
import Derived.Deep.RegionLaw
import Derived.Deep.RegionHeld3
import Derived.Laws.BitsAllLaws
import Derived.Lib.SlBytesConst
import Derived.RegionTactic
import Derived.BigRegion
import Derived.Deep.RegionWith
import Derived.Laws.EntriesVeiled
import Derived.LoopTactic
import Derived.MapKept
import Derived.Maps.RangeRun
import Derived.Maps.OwnOps
import Derived.Maps.RangeWalk
import Derived.Tactics
import Derived.Tactics2
import Derived.Defers
import Derived.Recover
import Derived.Laws.Pointers
import Derived.Conc.MuLone

/- Words of my own for bytes in memory, over this seat's translation: a slice of bytes that reads as a list, a row of the call's own, and what append, make, copy and string(..) do with them. No condition. -/
namespace Go.Proofs.Ythblbmbefhlbjaa
open Go.RowKit

theorem drawN_below {B : Nat} {a w : World} (h : Below B a w) (n : Nat) : Below B a (w.drewN n) := ⟨h.os, h.tape, h.output, h.size, h.block⟩

/-- the value of a byte -/
abbrev u8 (x : UInt8) : Value := .int .u8 (x.toNat : Int)
abbrev u8s (l : List UInt8) : List Value := l.map u8

/-- the numbers of bytes -/
def nums (l : List UInt8) : List Int := l.map fun x => (x.toNat : Int)
theorem nums_length (l : List UInt8) : (nums l).length = l.length := by simp [nums]
theorem bytesOf_nums (l : List UInt8) : Lib.bytesOf (nums l) = l := by
  unfold Lib.bytesOf nums
  rw [List.map_map]
  conv => rhs; rw [← List.map_id l]
  exact List.map_congr_left fun x _ => by simp

theorem u8s_one (l : List UInt8) : ∀ u ∈ u8s l, u.oneCell' = true := by
  intro u hu
  obtain ⟨x, _, rfl⟩ := List.mem_map.1 hu
  rfl
theorem u8s_get {l : List UInt8} {j : Nat} {u : Value} (h : (u8s l)[j]? = some u) : ∃ x, l[j]? = some x ∧ u = u8 x := by
  rw [List.getElem?_map] at h
  cases hx : l[j]? with
  | none => rw [hx] at h; cases h
  | some x => rw [hx] at h; exact ⟨x, rfl, (Option.some.inj h).symm⟩

/-- the slice '.slice A n c' reads as the bytes l in the world w -/
def Bs (w : World) (A : Option Addr) (n c : Nat) (l : List UInt8) : Prop :=
  l.length = n ∧ n ≤ c ∧ c ≤ maxLen ∧ (0 < n → ∃ b o, A = some ⟨b, o, none⟩ ∧ ∀ i x, l[i]? = some x → w.cell? ⟨b, o + i, none⟩ = some (u8 x))

section
variable {w w' : World} {A : Option Addr} {n c : Nat} {l : List UInt8}

theorem Bs.len (h : Bs w A n c l) : l.length = n := h.1
theorem Bs.le (h : Bs w A n c l) : n ≤ c := h.2.1
theorem Bs.max (h : Bs w A n c l) : c ≤ 9223372036854775807 := by have := h.2.2.1; simpa only [maxLen] using this
theorem Bs.nmax (h : Bs w A n c l) : n ≤ 9223372036854775807 := Nat.le_trans h.le h.max

/-- where there is a byte, the address and the cells -/
theorem Bs.at_ (h : Bs w A n c l) (hn : 0 < n) : ∃ b o, A = some ⟨b, o, none⟩ ∧ b < w.heap.size ∧ ∀ i x, l[i]? = some x → w.cell? ⟨b, o + i, none⟩ = some (u8 x) := by
  obtain ⟨b, o, e, hc⟩ := h.2.2.2 hn
  have hl : 0 < l.length := by rw [h.1]; exact hn
  exact ⟨b, o, e, World.block_lt_of_cell? w _ (hc 0 _ (List.getElem?_eq_getElem hl)), hc⟩

theorem Bs.below (h : Bs w A n c l) (hb : Below w.heap.size w w') : Bs w' A n c l :=
  ⟨h.1, h.2.1, h.2.2.1, fun hn => by
    obtain ⟨b, o, e, hlt, hc⟩ := h.at_ hn
    exact ⟨b, o, e, fun i x hx => (hb.cell (p := ⟨b, o + i, none⟩) hlt).trans (hc i x hx)⟩⟩
theorem Bs.alloc (h : Bs w A n c l) (o : Obj) : Bs (w.alloc o) A n c l := h.below ((Below.refl _ _).alloc (Nat.le_refl _) o)
theorem Bs.drew (h : Bs w A n c l) : Bs w.drew A n c l := h
theorem Bs.drewN (h : Bs w A n c l) (k : Nat) : Bs (w.drewN k) A n c l := by
  refine ⟨h.1, h.2.1, h.2.2.1, fun hn => ?_⟩
  obtain ⟨b, o, e, _, hc⟩ := h.at_ hn
  exact ⟨b, o, e, fun i x hx => by have := hc i x hx; simpa using this⟩

theorem Bs.nil (w : World) (c : Nat) (A : Option Addr) (hc : c ≤ maxLen) : Bs w A 0 c [] := ⟨rfl, Nat.zero_le _, hc, fun h => absurd h (by omega)⟩
theorem Bs.none_ (w : World) : Bs w none 0 0 [] := Bs.nil w 0 none (by simp [maxLen])
theorem Bs.empty (h : Bs w A 0 c l) : l = [] := List.eq_nil_of_length_eq_zero h.1

/-- a block that holds them -/
theorem Bs.of_block {g : Nat} {t : TypeId} {f : Nat × Nat} {cur : List Value} (hg : w.heap[g]? = some (.cells cur.toArray t f)) (hcur : cur.take l.length = u8s l) (hn : l.length = n) (hnc : n ≤ c) (hc : c ≤ maxLen) :
    Bs w (some ⟨g, 0, none⟩) n c l := by
  subst hn
  refine ⟨rfl, hnc, hc, fun _ => ⟨g, 0, rfl, fun i x hx => ?_⟩⟩
  rw [Nat.zero_add, cell_of_row w g i cur.toArray t f hg]
  have h1 : (u8s l)[i]? = some (u8 x) := by simp [u8s, hx]
  rw [← hcur, List.getElem?_take] at h1
  split at h1
  · simpa using h1
  · cases h1

/-- a new block, written out: the block's number and its cells as the walk spells them -/
theorem Bs.lit (w : World) (l : List UInt8) (t : TypeId) (C : Array Value) (g : Nat) (hg : g = w.heap.size) (hC : C = (u8s l).toArray) (hn : n = l.length) (hl : l.length ≤ maxLen) : Bs (w.alloc (.cells C t)) (some ⟨g, 0, none⟩) n n l := by
  subst hg hC hn
  exact Bs.of_block (heap_alloc_new w _) (by rw [List.take_of_length_le (by simp)]) rfl (Nat.le_refl _) hl

/-- a cut -/
theorem Bs.cut (h : Bs w A n c l) {i j : Nat} (hij : i ≤ j) (hj : j ≤ n) : Bs w (if c = i then A else A.map (·.add i)) (j - i) (c - i) ((l.take j).drop i) := by
  refine ⟨by rw [List.length_drop, List.length_take, h.1]; omega, by have := h.le; omega, Nat.le_trans (Nat.sub_le _ _) h.2.2.1, fun hn => ?_⟩
  obtain ⟨b, o, rfl, hc⟩ := h.2.2.2 (by omega)
  have := h.le
  rw [if_neg (by omega)]
  refine ⟨b, o + i, by simp [Addr.add_lit], fun k x hx => ?_⟩
  rw [Nat.add_assoc]
  refine hc _ x ?_
  rw [← hx, List.getElem?_drop, List.getElem?_take]
  split
  · rfl
  · rw [List.getElem?_drop, List.getElem?_take, if_neg (by assumption)] at hx; cases hx

/-- the numbers, as the library tells them -/
theorem Bs.cells (h : Bs w A n c l) (hn : 0 < n) : ∃ b o, A = some ⟨b, o, none⟩ ∧ ∀ i, i < n → w.cell? ⟨b, o + i, none⟩ = some (.int .u8 ((nums l).getD i 0)) := by
  obtain ⟨b, o, rfl, hc⟩ := h.2.2.2 hn
  refine ⟨b, o, rfl, fun i hi => ?_⟩
  have hl : i < l.length := by rw [h.1]; exact hi
  rw [hc i _ (List.getElem?_eq_getElem hl)]
  simp [nums, hl]
end

/-- the text of bytes -/
abbrev txt (l : List UInt8) : ByteArray := ⟨l.toArray⟩
theorem strOfNums_nums (l : List UInt8) : strOfNums (nums l) = txt l := by
  apply ByteArray.ext
  apply Array.toList_inj.1
  have := bytesOf_nums l
  unfold Lib.bytesOf at this
  simpa [strOfNums] using this

section
variable {P : Program} {w : World} {A : Option Addr} {n c : Nat} {l : List UInt8}

/-- 'string(b)' -/
theorem Bs.str (h : Bs w A n c l) (src e dst : TypeId) (hs : P.underlying src = some (.slice e)) (he : P.underlying e = some (.int .u8)) (hd : P.underlying dst = some .string) :
    (convert src dst (.slice A n c)).run P w = .ok (.string (txt l)) w := by
  rcases Nat.eq_zero_or_pos n with h0 | h0
  · subst h0
    obtain rfl := h.empty
    rcases A with _ | a
    · exact run_convert_bytes_nil (P := P) w src e hs he 0 c dst hd
    · rw [run_convert_bytes_string w src dst e _ 0 c hs he hd]
      simp [Conv.bytesToString, loadCells]
      rfl
  · obtain ⟨b, o, rfl, hc⟩ := h.cells h0
    rw [run_convert_bytes_arg w src e hs he b o n c (nums l) (by rw [nums_length, h.1]) hc dst hd, strOfNums_nums]
end
/-- a row of the call's own, from block 'base' on, that holds the bytes l -/
def Own (E : TypeId) (w : World) (base : Nat) (v : Value) (l : List UInt8) : Prop := w.ownsRow base E 1 v l.length (u8s l)

section
variable {E : TypeId} {w w' : World} {base : Nat} {v : Value} {l : List UInt8}
theorem Own.alloc (h : Own E w base v l) (o : Obj) : Own E (w.alloc o) base v l := World.ownsRow.alloc h o
theorem Own.nil (E : TypeId) (w : World) (base : Nat) : Own E w base (.slice none 0 0) [] := World.ownsRow_nil w base E 1
theorem Own.made (E : TypeId) (w : World) (cur : Array Value) (cap : Nat) (hb : base ≤ w.heap.size) (hm : cap ≤ maxLen) (hs : cur.size = cap) :
    Own E (w.alloc (.cells cur E)) base (.slice (some ⟨w.heap.size, 0, none⟩) 0 cap) [] := World.ownsRow_made w cur cap hb hm (by omega)
/-- a literal of bytes -/
theorem Own.lit (E : TypeId) (w : World) (l : List UInt8) (hb : base ≤ w.heap.size) (hm : l.length ≤ maxLen) :
    Own E (w.alloc (.cells (u8s l).toArray E)) base (.slice (some ⟨w.heap.size, 0, none⟩) l.length l.length) l :=
  ⟨by simp, .inr ⟨w.heap.size, l.length, (u8s l).toArray, rfl, hb, heap_alloc_new w _, Nat.le_refl _, hm, by simp, by rw [Nat.mul_one]; exact List.take_of_length_le (by simp)⟩⟩
theorem Own.below (h : Own E w base v l) (hb : Below w.heap.size w w') : Own E w' base v l := by
  refine ⟨h.1, ?_⟩
  rcases h.2 with hn | ⟨g, cap, cur, e, h1, h2, h3⟩
  · exact .inl hn
  · exact .inr ⟨g, cap, cur, e, h1, (hb.block g (Array.getElem?_eq_some_iff.1 h2).1).trans h2, h3⟩
theorem Own.bs (h : Own E w base v l) : ∃ A c, v = .slice A l.length c ∧ Bs w A l.length c l ∧ ∀ b, A = some b → base ≤ b.block := by
  rcases h.2 with ⟨rfl, h0⟩ | ⟨g, cap, cur, rfl, h1, h2, h3, h4, _, h6⟩
  · have : l = [] := List.eq_nil_of_length_eq_zero h0
    subst this
    exact ⟨none, 0, rfl, Bs.none_ w, fun _ hb => by cases hb⟩
  · refine ⟨_, cap, rfl, Bs.of_block (cur := cur.toList) (f := (0, 0)) (t := E) (by simpa using h2) (by simpa using h6) rfl h3 h4, fun b hb => ?_⟩
    injection hb with hb
    subst hb
    exact h1
end

section
variable {P : Program} {w : World}

/-- 'append(s, x...)' onto a row of the call's own, the source nil, empty or not -/
theorem run_app (base : Nat) (t ty e : TypeId) (ht : P.underlying t = some (.slice e)) (hi : (P.info? e).map (fun i => (i.zero, i.size, i.bytes)) = some (some (.int .u8 0), 1, 1))
    (v : Value) (xs : List UInt8) (hown : Own e w base v xs) (A : Option Addr) (m c : Nat) (l : List UInt8) (hl : Bs w A m c l) (hbytes : xs.length + m ≤ 140737488355328) (hbase : base ≤ w.heap.size) :
    ∃ v' w', (Builtin.append_ #[t, t] ty #[v, .slice A m c]).run P w = .ok v' w' ∧ Own e w' base v' (xs ++ l) ∧ Below base w w' ∧ w.grownBy w' v.ownBlock := by
  obtain ⟨i, hi, hzz⟩ := Option.map_eq_some_iff.1 hi
  simp only [Prod.mk.injEq] at hzz
  obtain ⟨hz, hsz, hby⟩ := hzz
  have hlen := hl.len
  rcases A with _ | a
  · have hm : m = 0 := by
      rcases Nat.eq_zero_or_pos m with h | h
      · exact h
      · obtain ⟨b, o, e, _⟩ := hl.2.2.2 h
        cases e
    subst hm
    obtain rfl := hl.empty
    refine ⟨v, w, ?_, by simpa using hown, Below.refl _ _, World.grownBy.refl w _⟩
    rcases hown.2 with ⟨rfl, _⟩ | ⟨g, cap, cur, rfl, _, _, hnc, _⟩
    · simp [Builtin.append_, run_underlying ht, sizeOf, typeInfo, hi, Builtin.lenOf, Builtin.firstCells]
    · simp [Builtin.append_, run_underlying ht, sizeOf, typeInfo, hi, Builtin.lenOf, Builtin.firstCells, hnc, storeCells]
  · obtain ⟨v', w', hrun, h2, h3, _, _⟩ := run_append_own_at (P := P) w base t ty e i (.int .u8 0) 1 1 ht hi hz hsz hby rfl (by omega) v xs.length (u8s xs) hown a m c (u8s l) (by simp [hlen])
      (fun j u hu => by
        obtain ⟨x, hx, rfl⟩ := u8s_get hu
        have hm : 0 < m := by have := (List.getElem?_eq_some_iff.1 hx).1; omega
        obtain ⟨b, o, e, _, hc⟩ := hl.at_ hm
        injection e with e
        subst e
        rw [Addr.add_lit]
        exact hc j x hx) (u8s_one l) (by simp only [maxLen]; omega) (by omega) hbase
    refine ⟨v', w', hrun, ?_, (Below.refl _ _).grown h3 hbase fun k hk => (World.ownsRow.lt hown k hk).1, h3⟩
    unfold Own
    rw [List.length_append, hlen]
    simpa using h2

theorem wpList_app {ops : Array Oper} {rest : List Oper} {o : Oper} {a : Act} {Q : Exit → Act → World → Prop} (hgd : o.guard = none) (s x : Operand) (t : TypeId)
    (ho : o.op = .call { callee := .builtin .append, args := #[s, x], argTypes := #[t, t] }) (base : Nat) (e : TypeId) (ht : P.underlying t = some (.slice e)) (hi : (P.info? e).map (fun i => (i.zero, i.size, i.bytes)) = some (some (.int .u8 0), 1, 1))
    (v : Value) (xs : List UInt8) (hs : a.eval s = v) (hown : Own e w base v xs) (A : Option Addr) (m c : Nat) (l : List UInt8) (hx : a.eval x = .slice A m c) (hl : Bs w A m c l) (hbytes : xs.length + m ≤ 140737488355328) (hbase : base ≤ w.heap.size)
    (h : ∀ v' w', Own e w' base v' (xs ++ l) → Below base w w' → w.grownBy w' v.ownBlock → wpList P ops Q rest (a.put o.dst v') w') : wpList P ops Q (o :: rest) a w :=
  wpList_plain hgd fun K hK => by
    obtain ⟨v', w', hrun, h2, h3, h4⟩ := run_app (P := P) base t o.type e ht hi v xs hown A m c l hl hbytes hbase
    unfold Oper.wp execOp
    simp only [ho, resolve, invoke, builtin, Sem.run_bind, Sem.run_pure, Result.andThen_ok, List.map_toArray, List.map_cons, List.map_nil, hs, hx, hrun]
    exact hK _ _ (h v' w' h2 h3 h4)
end
section
variable {P : Program}
/-- make([]byte, k, c) -/
theorem run_mk (t e : TypeId) (ht : P.underlying t = some (.slice e)) (hi : (P.info? e).map (fun i => (i.zero, i.size, i.bytes)) = some (some (.int .u8 0), 1, 1)) (k c : Nat) (hk : k ≤ c) (hc : c ≤ 140737488355328) (w : World) :
    (Instr.makeSlice t (.int .i64 (k : Int)) (.int .i64 (c : Int))).run P w = .ok (.slice (some ⟨w.heap.size, 0, none⟩) k c) (w.alloc (.cells (Array.replicate c (.int .u8 0)) e)) := by
  obtain ⟨i, hi, hzz⟩ := Option.map_eq_some_iff.1 hi
  simp only [Prod.mk.injEq] at hzz
  obtain ⟨hz, hsz, hby⟩ := hzz
  have hr := run_make (P := P) w t e i (.int .u8 0) ht hi hz .i64 .i64 (k : Int) (c : Int) (by omega) (by omega) (by rw [hby]; omega) (by omega)
  simp only [Int.toNat_natCast, hsz, Nat.mul_one] at hr
  rw [hr]
  congr 2
  congr 1
  apply Array.toList_inj.1
  simp only [madeCells, Array.toList_map, Array.toList_range, Array.toList_replicate]
  apply List.ext_getElem (by simp)
  intro j h1 h2
  simp [Value.cells, Nat.mod_one]
end

section
variable {P : Program} {w : World}
end
section
variable {E : TypeId} {w w' : World} {base : Nat} {v : Value} {l : List UInt8}
theorem Own.form (h : Own E w base v l) (h0 : 0 < l.length) : ∃ g c, v = .slice (some ⟨g, 0, none⟩) l.length c ∧ base ≤ g ∧ g < w.heap.size := by
  rcases h.2 with ⟨_, h1⟩ | ⟨g, cap, cur, rfl, h1, h2, _⟩
  · omega
  · exact ⟨g, cap, rfl, h1, (Array.getElem?_eq_some_iff.1 h2).1⟩
theorem Own.cell {g c : Nat} (h : Own E w base (.slice (some ⟨g, 0, none⟩) l.length c) l) {j : Nat} {x : UInt8} (hx : l[j]? = some x) : w.cell? ⟨g, j, none⟩ = some (u8 x) := by
  have hj : j < l.length := (List.getElem?_eq_some_iff.1 hx).1
  have := World.ownsRow.cellAt h j (by omega)
  rw [this]
  simp [u8s, hx]
theorem Own.frozen {g c : Nat} (h : Own E w base (.slice (some ⟨g, 0, none⟩) l.length c) l) (j : Nat) : w.frozen? ⟨g, j, none⟩ = false := World.ownsRow.frozenAt h j
theorem Own.store {g c : Nat} (h : Own E w base (.slice (some ⟨g, 0, none⟩) l.length c) l) (j : Nat) (x : UInt8) : Own E (w.setCell ⟨g, j, none⟩ (u8 x)) base (.slice (some ⟨g, 0, none⟩) l.length c) (l.set j x) := by
  have := (World.ownsRow.stored h j (u8 x)).1
  unfold Own
  rw [List.length_set]
  rw [show u8s (l.set j x) = (u8s l).set j (u8 x) from by simp [u8s]]
  exact this
end
end Go.Proofs.Ythblbmbefhlbjaa
/- A region that draws its order, whose operations only read, and whose callees hand back one value and leave all that was there: one walk, in the order of the text. -/
namespace Go.Proofs.Ythblbmbefhlbjaa
open Go.RowKit

theorem byteInfo : (Try.prog.info? 5).map (fun i => (i.zero, i.size, i.bytes)) = some (some (.int .u8 0), 1, 1) := by kernel_rfl

/-- a world that comes behind w: all that was there is as it was -/
structure Later (w : World) where
  u : World
  h : Below w.heap.size w u
instance (w : World) : Nonempty (Later w) := ⟨⟨w, Below.refl _ _⟩⟩

theorem region_later {P : Program} {id : Nat} {Q : Exit → Act → World → Prop} {a : Act} {w : World} {l : List Oper} (hm : P.follows .mixedOrders = true) (hB : Region.lexB .any l.toArray = true)
    (h : wpQuiet P l.toArray (fun w' => ∃ n : Later w, w' = n.u) (fun a' => ∀ n : Later w, Q .normal a' n.u) l a) : (Code.region id l.toArray true).wp P Q a w :=
  wp_region_quiet (C := fun w' => ∃ n : Later w, w' = n.u) hm hB ⟨⟨{ w with drawn := w.drawn + 1 }, ⟨rfl, rfl, rfl, Nat.le_refl _, fun _ _ => rfl⟩⟩, rfl⟩ (by
    have e : (fun a' => ∀ w', (∃ n : Later w, w' = n.u) → Q .normal a' w') = fun a' => ∀ n : Later w, Q .normal a' n.u :=
      funext fun a' => propext ⟨fun h n => h _ ⟨n, rfl⟩, fun h w' ⟨n, e⟩ => e ▸ h n⟩
    rw [e]
    simpa using h)

theorem Calls.later {P : Program} {f : FuncId} {args : Array Value} {w : World} {n : Later w} {v : Value}
    (h : Calls P f args n.u fun e w' => e = .returned v ∧ Below n.u.heap.size n.u w') : Calls P f args n.u fun e w'' => e = .returned v ∧ ∃ m : Later w, w'' = m.u :=
  h.mono fun _ w' ⟨he, hb⟩ => ⟨he, ⟨w', n.h.trans (hb.mono n.h.size)⟩, rfl⟩
theorem Calls.later_same {P : Program} {f : FuncId} {args : Array Value} {w : World} {n : Later w} {v : Value}
    (h : Calls P f args n.u fun e w' => e = .returned v ∧ n.u = w') : Calls P f args n.u fun e w'' => e = .returned v ∧ ∃ m : Later w, w'' = m.u :=
  h.mono fun _ _ ⟨he, hb⟩ => ⟨he, n, hb.symm⟩
theorem Later.bs {w : World} (n : Later w) {A : Option Addr} {k c : Nat} {l : List UInt8} (h : Bs w A k c l) : Bs n.u A k c l := h.below n.h
theorem Bs.take {w : World} {A : Option Addr} {n c : Nat} {l : List UInt8} (h : Bs w A n c l) {j : Nat} (hj : j ≤ n) : Bs w A j c (l.take j) :=
  ⟨by rw [List.length_take, h.1]; omega, Nat.le_trans hj h.le, h.2.2.1, fun h0 => by
    obtain ⟨b, o, e, hc⟩ := h.2.2.2 (by omega)
    refine ⟨b, o, e, fun i x hx => hc i x ?_⟩
    rw [List.getElem?_take] at hx
    split at hx
    · exact hx
    · cases hx⟩
/-- the whole of a block -/
theorem Bs.block {w : World} {g n : Nat} {t : TypeId} {f : Nat × Nat} {l : List UInt8} (h : w.heap[g]? = some (.cells (u8s l).toArray t f)) (hn : l.length = n) (hm : n ≤ maxLen) : Bs w (some ⟨g, 0, none⟩) n n l :=
  Bs.of_block h (by rw [List.take_of_length_le (by simp)]) hn (Nat.le_refl _) hm
/-- copy(dst, src): dst a block of the call's own from place 'off' on, src of no more bytes than there is place for -/
theorem wpList_cpyTo {P : Program} {w : World} {ops : Array Oper} {rest : List Oper} {o : Oper} {a : Act} {Q : Exit → Act → World → Prop} (hgd : o.guard = none) (d s : Operand) (dT sT : TypeId)
    (ho : o.op = .call { callee := .builtin .copy, args := #[d, s], argTypes := #[dT, sT] }) (e : TypeId) (hu : P.underlying dT = some (.slice e)) (hi : (P.info? e).map (fun i => (i.zero, i.size, i.bytes)) = some (some (.int .u8 0), 1, 1))
    (g off m cap : Nat) (D : Option Addr) (hd : a.eval d = .slice D m cap) (cur : List UInt8) (t : TypeId) (hg : w.heap[g]? = some (.cells (u8s cur).toArray t (0, 0)))
    (A : Option Addr) (n' n c : Nat) (l : List UInt8) (hs : a.eval s = .slice A n' c) (hB : Bs w A n c l) (hD : 0 < n → D = some ⟨g, off, none⟩) (hn : n = min n' m) (hcur : off + n ≤ cur.length)
    (h : ∀ w', Hid (w'.heap[g]? = some (.cells (u8s (cur.take off ++ (l ++ cur.drop (off + n)))).toArray t (0, 0))) → Below g w w' → wpList P ops Q rest (a.put o.dst (.int .i64 (n : Int))) w') : wpList P ops Q (o :: rest) a w := by
  have hl := hB.len
  refine wpList_copy_splice hgd d s dT sT ho e hu (by obtain ⟨i, hi, hzz⟩ := Option.map_eq_some_iff.1 hi; simp only [Prod.mk.injEq] at hzz; rw [hi]; simp [hzz.2.1]) D A m cap n' c hd hs g off (u8s cur) t hg (u8s l) (by simp only [List.length_map, hl]; exact hn)
    (fun hp => ?_) (by simp [hl]; exact hcur) (u8s_one l) g w (Below.refl _ _) (Nat.le_refl _) (fun w' hw' hb => ?_)
  · have h0 : 0 < n := by simpa [hl] using hp
    obtain ⟨b, o', rfl, _, hc⟩ := hB.at_ h0
    refine ⟨hD h0, _, rfl, fun j v hj => ?_⟩
    obtain ⟨x, hx, rfl⟩ := u8s_get hj
    rw [Addr.add_lit]
    exact hc j x hx
  · have hsp : splice (u8s cur) off (u8s l) = u8s (cur.take off ++ (l ++ cur.drop (off + n))) := by
      unfold splice
      simp [u8s, hl]
    have hh := hw'.out
    rw [hsp] at hh
    have := h w' (Lib.hid hh) hb
    simpa [hl, goInt] using this
/-- noughts, as make lays them -/
theorem zero_cells (r : Nat) : Array.replicate r (Value.int .u8 0) = (u8s (List.replicate r 0)).toArray := by simp [u8s]
/-- make([]byte, k) -/
theorem mk_zeros (x : Int) (k : Nat) (hx : x = (k : Int)) (hk : k ≤ 140737488355328) : ∃ Z : List UInt8, Hid (Z = List.replicate k 0) ∧ Z.length = k ∧ ∀ w : World, (Instr.makeSlice 27 (.int .i64 x) (.int .i64 x)).run Try.prog w = .ok (.slice (some ⟨w.heap.size, 0, none⟩) k k) (w.alloc (.cells (u8s Z).toArray 5)) := by
  subst hx
  refine ⟨List.replicate k 0, Lib.hid rfl, by simp, fun w => ?_⟩
  rw [← zero_cells]
  exact run_mk 27 5 Try.underlying27 byteInfo k k (Nat.le_refl _) (by omega) w
theorem Calls.quiet_sym {P : Program} {f : FuncId} {args : Array Value} {w : World} {n : Nat} {v : Value}
    (h : Calls P f args (w.drewN n) fun e w' => e = .returned v ∧ w.drewN n = w') : Calls P f args (w.drewN n) fun e w'' => e = .returned v ∧ ∃ m, w'' = w.drewN m :=
  h.mono fun _ _ ⟨he, hm⟩ => ⟨he, n, hm.symm⟩
theorem Bs.drop {w : World} {A : Option Addr} {n c : Nat} {l : List UInt8} (h : Bs w A n c l) {i : Nat} (hi : i ≤ n) : Bs w (if c = i then A else A.map (·.add i)) (n - i) (c - i) (l.drop i) := by
  have := h.cut (i := i) (j := n) hi (Nat.le_refl _)
  rwa [List.take_of_length_le (by rw [h.len]; exact Nat.le_refl _)] at this
/-- what a law comes to -/
def True_ (w : World) (e : Ending) (w' : World) : Prop := e = .returned (.bool true) ∧ Below w.heap.size w w'
end Go.Proofs.Ythblbmbefhlbjaa
/- A region that draws its order: what holds behind each operation may be said anew. No condition. -/
namespace Go.Proofs.Ythblbmbefhlbjaa
open Go.RowKit

theorem wpAnyH_imp {P : Program} {md : Region.Mode} {ops : Array Oper} {Q : Exit → Act → World → Prop} {S S' : World → Prop} (h : ∀ w, S' w → S w) : ∀ (fuel : Nat) (listed : Array Bool) (a : Act) (w : World), wpAnyH P md ops Q S' fuel listed a w → wpAnyH P md ops Q S fuel listed a w
  | 0, _, _, _, hh => hh
  | fuel + 1, _, _, _, hh => ⟨hh.1, fun i hi => wpOp_mono (fun a' w' h' => ⟨h _ h'.1, wpAnyH_imp h fuel _ a' w' h'.2⟩) (hh.2 i hi)⟩
end Go.Proofs.Ythblbmbefhlbjaa
/- A region that draws its order: operations that only read are taken first, by the cheap step; the others come up one at a time. No condition. -/
namespace Go.Proofs.Ythblbmbefhlbjaa
open Go.RowKit

/-- worlds that meet S -/
structure Meets (S : World → Prop) where
  u : World
  h : S u
/-- an operation that yields a value, and enters no function -/
def isV : Op → Bool
  | .move _ | .assign _ | .pick .. | .load .. | .nilCheck _ | .binOp .. | .unOp .. | .convert .. | .fieldAddr .. | .indexAddr .. | .index .. | .field .. | .extract .. | .slice .. | .makeInterface .. => true
  | .call c => match c.callee with
    | .builtin .len => true
    | .builtin .max => true
    | .builtin .min => true
    | _ => false
  | _ => false
def IsVal (s : Sem Next) : Prop := ∀ P w n w', s.run P w = .ok n w' → ∃ u, n = .value u
theorem IsVal.pure (v : Value) : IsVal (pure (.value v)) := fun P w n w' h => by simp at h; exact ⟨_, h.1.symm⟩
theorem IsVal.bind {α : Type} {s : Sem α} {k : α → Sem Next} (hk : ∀ x, IsVal (k x)) : IsVal (s >>= k) := fun P w n w' h => by
  simp only [Sem.run_bind] at h
  cases hs : s.run P w with
  | ok u w1 => rw [hs] at h; exact hk u P w1 n w' h
  | halt x w1 => rw [hs] at h; simp [Result.andThen] at h
theorem IsVal.nil : IsVal (runtimePanic .nilDeref) := fun P w n w' h => by simp [runtimePanic, goPanic] at h
theorem isV_value {o : Oper} {f : Operand → Value} (h : isV o.op = true) : IsVal (execOp f o) := by
  unfold execOp
  cases ho : o.op <;> rw [ho] at h <;> simp only [isV] at h <;> try cases h
  all_goals first
    | exact IsVal.pure _
    | exact IsVal.bind (fun _ => IsVal.pure _)
    | skip
  · dsimp only
    split
    all_goals first
      | exact IsVal.pure _
      | exact IsVal.nil
      | skip
    split
    · exact IsVal.nil
    · refine IsVal.bind (fun _ => IsVal.bind (fun _ => ?_))
      split
      · exact IsVal.bind (fun _ => IsVal.pure _)
      · exact IsVal.pure _
    · exact IsVal.pure _
  · rename_i c
    dsimp only
    have hr : ∀ b, c.callee = .builtin b → resolve f c o.type = pure { target := .builtin b c.argTypes o.type (c.args.map fun | .const _ => true | _ => false), args := c.args.map f } := fun b hb => by
      unfold resolve
      rw [hb]
      rfl
    split at h
    · rename_i hb
      rw [hr _ hb]
      simp only [pure_bind, invoke, builtin]
      exact IsVal.bind (fun _ => IsVal.pure _)
    · rename_i hb
      rw [hr _ hb]
      simp only [pure_bind, invoke, builtin]
      exact IsVal.bind (fun _ => IsVal.pure _)
    · rename_i hb
      rw [hr _ hb]
      simp only [pure_bind, invoke, builtin]
      exact IsVal.bind (fun _ => IsVal.pure _)
    · cases h

/-- the operations of these numbers -/
def pick (l : List Oper) : List Nat → List Oper
  | [] => []
  | i :: r => match l[i]? with
    | some o => o :: pick l r
    | none => pick l r
def setAll (listed : Array Bool) : List Nat → Array Bool
  | [] => listed
  | i :: r => setAll (listed.setIfInBounds i true) r
/-- may these be taken one after another? -/
def takesB (ops : Array Oper) (listed : Array Bool) : List Nat → Bool
  | [] => true
  | i :: r => ((ops[i]?).map (fun o => isV o.op)).getD false && Region.free .any ops listed i && (Region.ready .any ops listed).contains i && takesB ops (listed.setIfInBounds i true) r
/-- a plan: groups that are taken, each with one that comes up behind it; at last a group -/
def planB (ops : Array Oper) (listed : Array Bool) : List (List Nat × Nat) → List Nat → Bool
  | [], last => takesB ops listed last && (Region.ready .any ops (setAll listed last) == [])
  | (qs, i) :: r, last => takesB ops listed qs && (Region.ready .any ops (setAll listed qs) == [i]) && planB ops ((setAll listed qs).setIfInBounds i true) r last
def planN : List (List Nat × Nat) → List Nat → Nat
  | [], last => last.length
  | (qs, _) :: r, last => (planN r last + 1) + qs.length
section
variable {P : Program} {l : List Oper} {Q : Exit → Act → World → Prop} {S : World → Prop}
abbrev InS (S : World → Prop) : World → Prop := fun w => ∃ m : Meets S, w = m.u
theorem takes (hs : Region.noSelect l.toArray = true) (hQ : ∀ c a d v w, Q (.panic c) (a.put (some d) v) w → Q (.panic c) a w) :
    ∀ (qs : List Nat) (fuel : Nat) (listed : Array Bool) (a : Act) (w : World), takesB l.toArray listed qs = true → S w →
      wpQuiet P l.toArray (InS S) (fun a' => wpAnyH P .any l.toArray Q S fuel (setAll listed qs) a' w) (pick l qs) a → wpAnyH P .any l.toArray Q S (fuel + qs.length) listed a w
  | [], fuel, listed, a, w, _, _, h => h
  | i :: r, fuel, listed, a, w, hB, hS, h => by
    simp only [takesB, Bool.and_eq_true, List.getElem?_toArray] at hB
    obtain ⟨⟨⟨h1, h2⟩, h3⟩, h4⟩ := hB
    cases ho : l[i]? with
    | none => rw [ho] at h1; cases h1
    | some o =>
      rw [ho] at h1
      have hv : isV o.op = true := h1
      have hp : pick l (i :: r) = o :: pick l r := by simp only [pick, ho]
      rw [hp] at h
      unfold wpQuiet at h
      have hq : ∀ v c a w, Q (.panic c) (a.put o.dst v) w → Q (.panic c) a w := fun v c a w => by
        cases o.dst with
        | none => exact id
        | some d => exact hQ c a d v w
      have hi : l.toArray[i]? = some o := by rw [List.getElem?_toArray]; exact ho
      have ih := takes hs hQ r fuel (listed.setIfInBounds i true)
      by_cases hw : Region.wanted o (yielded l.toArray a.tmps) = true
      · rw [if_pos hw] at h
        obtain ⟨v, hy, hk⟩ := h
        refine wpAnyH_take (v := v) hi hs h2 h3 (hq v) (.inl ⟨hw, fun W hW => ?_⟩) hS (ih _ w h4 hS hk)
        have := hy W ⟨⟨W, hW⟩, rfl⟩
        unfold Oper.quietAt at this
        cases hr : (execOp a.eval o).run P W with
        | ok n w' =>
          obtain ⟨u, rfl⟩ := isV_value hv P W n w' hr
          rw [hr] at this
          obtain ⟨rfl, rfl⟩ := this
          rfl
        | halt x w' => rw [hr] at this; cases this
      · rw [if_neg hw] at h
        exact wpAnyH_take (v := undef) hi hs h2 h3 (hq undef) (.inr ⟨by simpa using hw, rfl⟩) hS (ih _ w h4 hS h)
/-- what is to be shown of a plan -/
def wpPlan (P : Program) (l : List Oper) (Q : Exit → Act → World → Prop) (S : World → Prop) : List (List Nat × Nat) → List Nat → Act → World → Prop
  | [], last, a, w => wpQuiet P l.toArray (InS S) (fun a' => Q .normal a' w) (pick l last) a
  | (qs, i) :: r, last, a, w => wpQuiet P l.toArray (InS S) (fun a' => ∀ K : Act → World → Prop, Shut (∀ a w, S w → (S w → wpPlan P l Q S r last a w) → K a w) →
      (l[i]?).elim False fun o => if Region.wanted o (yielded l.toArray a'.tmps) = true then Oper.wp P o a' w K Q else K (a'.put o.dst undef) w) (pick l qs) a
theorem wpQuiet_mono {ops : Array Oper} {C : World → Prop} {A B : Act → Prop} (h : ∀ a, A a → B a) : ∀ (os : List Oper) (a : Act), wpQuiet P ops C A os a → wpQuiet P ops C B os a
  | [], a, k => h a k
  | o :: r, a, k => by
    unfold wpQuiet at k ⊢
    split
    · rename_i hw
      rw [if_pos hw] at k
      obtain ⟨v, h1, h2⟩ := k
      exact ⟨v, h1, wpQuiet_mono h r _ h2⟩
    · rename_i hw
      rw [if_neg hw] at k
      exact wpQuiet_mono h r _ k
theorem plan_any (hs : Region.noSelect l.toArray = true) (hQ : ∀ c a d v w, Q (.panic c) (a.put (some d) v) w → Q (.panic c) a w) :
    ∀ (r : List (List Nat × Nat)) (last : List Nat) (listed : Array Bool) (a : Act) (w : World), planB l.toArray listed r last = true → S w → wpPlan P l Q S r last a w → wpAnyH P .any l.toArray Q S (planN r last) listed a w
  | [], last, listed, a, w, hB, hS, h => by
    simp only [planB, Bool.and_eq_true, beq_iff_eq] at hB
    have := takes (P := P) hs hQ last 0 listed a w hB.1 hS (wpQuiet_mono (fun a' ha => wpAnyH_done hB.2 ha 0) _ _ h)
    simpa [planN] using this
  | (qs, i) :: r, last, listed, a, w, hB, hS, h => by
    simp only [planB, Bool.and_eq_true, beq_iff_eq] at hB
    refine takes (P := P) hs hQ qs (planN r last + 1) listed a w hB.1.1 hS (wpQuiet_mono (fun a' ha => ?_) _ _ h)
    refine wpAnyH_ready hB.1.2 (by simp) (fun j hj => ?_)
    rw [List.mem_singleton.1 hj]
    have h1 := fun K hK => ha K hK
    cases ho : l[i]? with
    | none =>
      rw [ho] at h1
      exact (h1 (fun _ _ => True) (fun _ _ _ _ => trivial)).elim
    | some o =>
      rw [ho] at h1
      exact wpOp_step (by rw [List.getElem?_toArray]; exact ho) (fun K hK => h1 K (fun a w hS hW => hK a w ⟨hS, plan_any hs hQ r last _ a w hB.2 hS (hW hS)⟩))
/-- A region by a plan. -/
theorem region_plan {id : Nat} {a : Act} {w : World} (S : World → Prop) (r : List (List Nat × Nat)) (last : List Nat) (hm : P.follows .mixedOrders = true)
    (hB : (Region.noSelect l.toArray && planB l.toArray (Array.replicate l.length false) r last && (planN r last == l.length)) = true) (hQ : ∀ c a d v w, Q (.panic c) (a.put (some d) v) w → Q (.panic c) a w) (hS : S w.drew)
    (h : Nonempty (Meets S) → wpPlan P l Q S r last a w.drew) : (Code.region id l.toArray true).wp P Q a w := by
  simp only [Bool.and_eq_true, beq_iff_eq] at hB
  refine wp_region_held_drew (S := S) hm hS (fun _ => ?_)
  have := plan_any (P := P) hB.1.1 hQ r last (Array.replicate l.length false) a w.drew hB.1.2 hS (h ⟨⟨_, hS⟩⟩)
  rw [hB.2] at this
  simpa using this
end
end Go.Proofs.Ythblbmbefhlbjaa
/- Layer 1: the sum as plain arithmetic on numbers, without the program. -/
namespace Go.Proofs.Ythblbmbefhlbjaa.Crc

def step (x : Nat) : Nat := if x % 2 = 1 then 3988292384 ^^^ (x / 2) else x / 2
def it : Nat → Nat → Nat
  | 0, x => x
  | n + 1, x => it n (step x)
def row (i : Nat) : Nat := it 8 i
def upd (x : Nat) (l : List UInt8) : Nat := l.foldl (fun x c => row ((x % 256) ^^^ c.toNat) ^^^ (x / 256)) x
/-- the sum of some bytes, of which s is the sum, and of l behind them -/
def sum (s : Nat) (l : List UInt8) : Nat := 4294967295 ^^^ upd (4294967295 ^^^ s) l

theorem it_add (n m : Nat) : ∀ x, it (n + m) x = it m (it n x) := by
  induction n with
  | zero => intro x; rw [Nat.zero_add]; rfl
  | succ n ih => intro x; rw [Nat.succ_add]; exact ih (step x)
theorem step_lt {x : Nat} (h : x < 4294967296) : step x < 4294967296 := by
  unfold step
  split
  · exact Nat.xor_lt_two_pow (n := 32) (by omega) (by omega)
  · omega
theorem it_lt (n : Nat) : ∀ {x : Nat}, x < 4294967296 → it n x < 4294967296 := by
  induction n with
  | zero => intro x h; exact h
  | succ n ih => intro x h; exact ih (step_lt h)
theorem upd_append (x : Nat) (a b : List UInt8) : upd x (a ++ b) = upd (upd x a) b := List.foldl_append ..
theorem upd_snoc (x : Nat) (a : List UInt8) (c : UInt8) : upd x (a ++ [c]) = row (((upd x a) % 256) ^^^ c.toNat) ^^^ ((upd x a) / 256) := by rw [upd_append]; rfl
theorem row_lt {x : Nat} (h : x < 4294967296) : row x < 4294967296 := it_lt 8 h
theorem upd_lt (l : List UInt8) : ∀ {x : Nat}, x < 4294967296 → upd x l < 4294967296 := by
  induction l with
  | nil => intro x h; exact h
  | cons c l ih =>
    intro x h
    have := c.toNat_lt
    refine ih (Nat.xor_lt_two_pow (n := 32) (row_lt (Nat.xor_lt_two_pow (n := 32) (by omega) (by omega))) (by omega))
theorem sum_lt {s : Nat} (l : List UInt8) (h : s < 4294967296) : sum s l < 4294967296 :=
  Nat.xor_lt_two_pow (n := 32) (by omega) (upd_lt l (Nat.xor_lt_two_pow (n := 32) (by omega) (by omega)))
theorem xor_cancel (a b : Nat) : a ^^^ (a ^^^ b) = b := by rw [← Nat.xor_assoc, Nat.xor_self, Nat.zero_xor]
theorem sum_append (s : Nat) (a b : List UInt8) : sum s (a ++ b) = sum (sum s a) b := by
  unfold sum
  rw [upd_append, xor_cancel]

end Go.Proofs.Ythblbmbefhlbjaa.Crc
/- Layer 1: crc's sums, walked. -/
namespace Go.Proofs.Ythblbmbefhlbjaa
open Go.RowKit

theorem it_snoc (n : Nat) (x : Nat) : Crc.it (n + 1) x = Crc.step (Crc.it n x) := Crc.it_add n 1 x

set_option maxRecDepth 100000 in
theorem crcRow (i : Nat) (w : World) (hi : i < 256) : Calls Try.prog 86 #[.int .u8 (i : Int)] w fun e w' => e = .returned (.int .u32 (Crc.row i : Nat)) ∧ w = w' := by
  go_enter Try.func86, Try.ntmps86
  go_wp2
  go_loop [3, 6] (fun x k => ∃ n : Nat, n ≤ 8 ∧ k = .int .i64 n ∧ x = .int .u32 (Crc.it n i : Nat)) (fun _ k => 8 - (intOf k).toNat)
  case atStart => exact ⟨0, Nat.zero_le _, rfl, rfl⟩
  case round =>
    obtain ⟨n, hn, rfl, rfl⟩ := hrel
    have hl : Crc.it n i < 4294967296 := Crc.it_lt n (by omega)
    have HS := Lib.hid (it_snoc n i)
    generalize hxx : Crc.it n i = x at *
    have HX := Lib.hid hxx; clear hxx
    by_cases hlt : n < 8
    · go_wp2
      all_goals
        go_round
        case rel =>
          refine ⟨n + 1, by omega, by go_num, ?_⟩
          rw [HS.out]
          unfold Crc.step
          have hx := Lib.hid trivial
          first
          | (rw [if_pos (by have : (((x : Int) % 2) == 1) = true := by assumption
                            have := beq_iff_eq.1 this; omega)]
             rw [show (3988292384 : Int) = ((3988292384 : Nat) : Int) from rfl, show (x : Int) / 2 = ((x / 2 : Nat) : Int) from by omega, u32_xor_nat _ _ (by omega) (by omega)])
          | (rw [if_neg (by have : (((x : Int) % 2) == 1) = false := by assumption
                            have := beq_eq_false_iff_ne.1 this; omega)]
             rw [show (x : Int) / 2 = ((x / 2 : Nat) : Int) from by omega])
        case measure => simp [intOf]; omega
    · obtain rfl : n = 8 := by omega
      go_wp2
      go_ret
      rw [← HX.out]
      exact ⟨rfl, rfl⟩

theorem u32_not (s : Nat) (hs : s < 4294967296) : bits BinOp.xor IntKind.u32 IntKind.u32.max (s : Int) = ((4294967295 ^^^ s : Nat) : Int) := by
  rw [show IntKind.u32.max = ((4294967295 : Nat) : Int) from by decide]
  exact u32_xor_nat _ _ (by omega) hs

set_option maxRecDepth 100000 in
theorem crcUpdate (s : Nat) (A : Option Addr) (n c : Nat) (l : List UInt8) (w : World) (hs : s < 4294967296) (hB : Bs w A n c l) :
    Calls Try.prog 81 #[.int .u32 (s : Int), .slice A n c] w fun e w' => e = .returned (.int .u32 (Crc.sum s l : Nat)) ∧ w = w' := by
  have hn := hB.nmax
  have HB := Lib.hid hB; clear hB
  have h1 := u32_not s hs
  go_enter Try.func81, Try.ntmps81
  go_wp2_with (fail)
  clear h1
  go_loop [5, 7, 12] (fun x _ k => ∃ m : Nat, m ≤ n ∧ k = .int .i64 m ∧ x = .int .u32 (Crc.upd (4294967295 ^^^ s) (l.take m) : Nat)) (fun _ _ k => n - (intOf k).toNat)
  case atStart => exact ⟨0, Nat.zero_le _, rfl, rfl⟩
  case round =>
    obtain ⟨m, hm, rfl, rfl⟩ := hrel
    have hl : Crc.upd (4294967295 ^^^ s) (l.take m) < 4294967296 := Crc.upd_lt _ (Nat.xor_lt_two_pow (n := 32) (by omega) (by omega))
    by_cases hlt : m < n
    · obtain ⟨b, o, rfl, hb, hc⟩ := HB.out.at_ (by omega)
      have hml : m < l.length := by have := HB.out.len; omega
      have hcell := hc m _ (List.getElem?_eq_getElem hml)
      have HC := Lib.hid (Crc.upd_snoc (4294967295 ^^^ s) (l.take m) l[m])
      have HT := Lib.hid (List.take_succ_eq_append_getElem hml)
      generalize l[m] = d at *
      generalize Crc.upd (4294967295 ^^^ s) (l.take m) = x at *
      have hd := d.toNat_lt
      have hxd : (x % 256) ^^^ d.toNat < 256 := Nat.xor_lt_two_pow (n := 8) (by omega) (by omega)
      have hr : Crc.row ((x % 256) ^^^ d.toNat) < 4294967296 := Crc.row_lt (by omega)
      have h2 : bits BinOp.xor IntKind.u8 ((x : Int) % 256) (d.toNat : Int) = (((x % 256) ^^^ d.toNat : Nat) : Int) := by
        rw [show ((x : Int) % 256) = ((x % 256 : Nat) : Int) from by omega]
        exact u8_xor_nat _ _ (by omega) hd
      have HR := Lib.hid (crcRow _ w hxd)
      have h3 : bits BinOp.xor IntKind.u32 ((Crc.row ((x % 256) ^^^ d.toNat) : Nat) : Int) ((x : Int) / 256) = ((Crc.row ((x % 256) ^^^ d.toNat) ^^^ (x / 256) : Nat) : Int) := by
        rw [show ((x : Int) / 256) = ((x / 256 : Nat) : Int) from by omega]
        exact u32_xor_nat _ _ hr (by omega)
      generalize Crc.row ((x % 256) ^^^ d.toNat) = r at *
      generalize (x % 256) ^^^ d.toNat = y at *
      clear hc hxd hr hd hl
      go_wp2_with (go_at_call 86; refine (HR.out).mono ?_; rintro e w' ⟨rfl, rfl⟩)
      go_round
      case rel =>
        refine ⟨m + 1, by omega, by go_num, ?_⟩
        rw [HT.out, HC.out]
      case measure => simp [intOf]; omega
    · obtain rfl : m = n := by omega
      have hl2 : l.take m = l := List.take_of_length_le (by have := HB.out.len; omega)
      rw [hl2] at hl ⊢
      clear hl2
      have h4 := u32_not _ hl
      go_wp2
      go_ret
      exact ⟨rfl, rfl⟩

theorem crcSum (A : Option Addr) (n c : Nat) (l : List UInt8) (w : World) (hB : Bs w A n c l) :
    Calls Try.prog 82 #[.slice A n c] w fun e w' => e = .returned (.int .u32 (Crc.sum 0 l : Nat)) ∧ w = w' := by
  have HB := Lib.hid hB; clear hB
  go_enter Try.func82, Try.ntmps82
  go_wp2_with (fail)
  refine (crcUpdate 0 A n c l w (by omega) HB.out).mono ?_
  rintro e w' ⟨rfl, rfl⟩
  go_wp2
  go_ret
  exact ⟨rfl, rfl⟩
end Go.Proofs.Ythblbmbefhlbjaa
/- Layer 1: the examples. -/
namespace Go.Proofs.Ythblbmbefhlbjaa
open Go.RowKit

/-- a literal's bytes, made out of a text -/
theorem Bs.litText (w : World) (l : List UInt8) (t : TypeId) (C : Array Value) (g n : Nat) (f : Nat × Nat) (hg : g = w.heap.size) (hC : C = (u8s l).toArray) (hn : n = l.length) (hl : l.length ≤ maxLen) : Bs (w.alloc (.cells C t f)) (some ⟨g, 0, none⟩) n n l := by
  subst hg hC hn
  exact Bs.of_block (f := f) (t := t) (cur := u8s l) (by show (w.heap.push _)[w.heap.size]? = _; simp) (by rw [List.take_of_length_le (by simp)]) rfl (Nat.le_refl _) hl

end Go.Proofs.Ythblbmbefhlbjaa
/- Layer 1: Seal and Open, walked. -/
namespace Go.Proofs.Ythblbmbefhlbjaa
open Go.RowKit

/-- a number's bytes, the highest first -/
def be4 (x : Nat) : List UInt8 := [UInt8.ofNat (x / 16777216), UInt8.ofNat (x / 65536), UInt8.ofNat (x / 256), UInt8.ofNat x]
theorem be4_length (x : Nat) : (be4 x).length = 4 := rfl
theorem be4_cells (x : Nat) (hx : x < 4294967296) : #[Value.int .u8 ((x : Int) / 16777216), .int .u8 ((x : Int) / 65536 % 256), .int .u8 ((x : Int) / 256 % 256), .int .u8 ((x : Int) % 256)] = (u8s (be4 x)).toArray := by
  simp [be4, u8s]
  omega

theorem four {l : List UInt8} (h : l.length = 4) : ∃ p q r s, l = [p, q, r, s] := by
  match l, h with
  | [p, q, r, s], _ => exact ⟨p, q, r, s, rfl⟩

end Go.Proofs.Ythblbmbefhlbjaa
/- Layer 13: records, as plain lists. -/
namespace Go.Proofs.Ythblbmbefhlbjaa
open Go.RowKit

/-- a number of bytes that a record may have -/
def okLen (n : Nat) : Bool := decide (1 ≤ n) && decide (n ≤ 65536)
/-- the record of l -/
def record (l : List UInt8) : List UInt8 := be4 l.length ++ be4 (Crc.sum 0 (be4 l.length ++ l)) ++ l
/-- a number, the highest byte first -/
def beNum (l : List UInt8) : Nat := l.foldl (fun x c => x * 256 + c.toNat) 0
theorem beNum_snoc (l : List UInt8) (c : UInt8) : beNum (l ++ [c]) = beNum l * 256 + c.toNat := by simp [beNum]
theorem beNum_go (l : List UInt8) : ∀ x N : Nat, x < N → l.foldl (fun x c => x * 256 + c.toNat) x < N * 256 ^ l.length := by
  induction l with
  | nil => intro x N h; simpa using h
  | cons c l ih =>
    intro x N h
    have hc := c.toNat_lt
    have h2 := ih (x * 256 + c.toNat) (N * 256) (by omega)
    simp only [List.foldl_cons, List.length_cons, Nat.pow_succ]
    rw [Nat.mul_assoc, Nat.mul_comm 256] at h2
    exact h2
theorem beNum_lt (l : List UInt8) : beNum l < 256 ^ l.length := by
  have := beNum_go l 0 1 (by omega)
  simpa [beNum] using this
theorem beNum_be4 {x : Nat} (hx : x < 4294967296) : beNum (be4 x) = x := by
  simp [beNum, be4]
  omega
theorem be4_beNum {l : List UInt8} (h : l.length = 4) : be4 (beNum l) = l := by
  obtain ⟨p, q, r, s, rfl⟩ := four h
  have b0 := p.toNat_lt
  have b1 := q.toNat_lt
  have b2 := r.toNat_lt
  have b3 := s.toNat_lt
  simp only [beNum, List.foldl, be4, List.cons.injEq, and_true]
  refine ⟨?_, ?_, ?_, ?_⟩ <;> (apply UInt8.toNat_inj.1; simp only [UInt8.toNat_ofNat']; omega)

/-- why there is no record at the head of l; 0: there is one -/
def getErr (l : List UInt8) : Int :=
  if l.length < 8 then 7 else if okLen (beNum (l.take 4)) = false then 9 else if l.length - 8 < beNum (l.take 4) then 7
  else if Crc.sum 0 (l.take 4 ++ (l.drop 8).take (beNum (l.take 4))) = beNum ((l.drop 4).take 4) then 0 else 8
/-- its bytes -/
def getGet (l : List UInt8) : List UInt8 := if getErr l = 0 then (l.drop 8).take (beNum (l.take 4)) else []
/-- how many bytes it has -/
def getLen (l : List UInt8) : Nat := if getErr l = 0 then 8 + beNum (l.take 4) else 0
end Go.Proofs.Ythblbmbefhlbjaa
/- Layer 13: entry's small functions, walked. -/
namespace Go.Proofs.Ythblbmbefhlbjaa
open Go.RowKit

theorem rightLength_yes (n : Int) (w : World) (h1 : 1 ≤ n) (h2 : n ≤ 65536) : Calls Try.prog 61 #[.int .i64 n] w fun e w' => e = .returned (.bool true) ∧ w = w' := by
  have d1 : decide ((1 : Int) ≤ n) = true := by simpa using h1
  have d2 : decide (n ≤ (65536 : Int)) = true := by simpa using h2
  go_enter Try.func61, Try.ntmps61
  go_wp2
  go_ret
  exact ⟨rfl, rfl⟩
theorem rightLength_no (n : Int) (w : World) (h : n < 1 ∨ 65536 < n) : Calls Try.prog 61 #[.int .i64 n] w fun e w' => e = .returned (.bool false) ∧ w = w' := by
  by_cases h1 : n < 1
  · have d1 : decide ((1 : Int) ≤ n) = false := by simp; omega
    clear h
    go_enter Try.func61, Try.ntmps61
    go_wp2
    go_ret
    exact ⟨rfl, rfl⟩
  · have d1 : decide ((1 : Int) ≤ n) = true := by simp; omega
    have d2 : decide (n ≤ (65536 : Int)) = false := by simp; omega
    clear h h1
    go_enter Try.func61, Try.ntmps61
    go_wp2
    go_ret
    exact ⟨rfl, rfl⟩
theorem okLen_yes {n : Nat} (h : okLen n = true) : 1 ≤ n ∧ n ≤ 65536 := by simpa [okLen] using h
theorem okLen_no {n : Nat} (h : okLen n = false) : n < 1 ∨ 65536 < n := by
  simp [okLen] at h
  omega
theorem entrySize_yes (n : Nat) (w : World) (h : okLen n = true) : Calls Try.prog 64 #[.int .i64 (n : Int)] w fun e w' => e = .returned (.int .i64 (8 + (n : Int))) ∧ w = w' := by
  have h1 := okLen_yes h
  have HH := Lib.hid h1
  have b : n ≤ 65536 := h1.2
  clear h1 h
  go_enter Try.func64, Try.ntmps64
  go_wp2_with (fail)
  refine (rightLength_yes n w (by have := HH.out; omega) (by have := HH.out; omega)).mono ?_
  rintro e w' ⟨rfl, rfl⟩
  go_wp2
  go_ret
  exact ⟨rfl, rfl⟩
theorem entrySumOf (A : Option Addr) (n c : Nat) (l : List UInt8) (B : Option Addr) (m d : Nat) (k : List UInt8) (w : World) (hA : Bs w A n c l) (hB : Bs w B m d k) :
    Calls Try.prog 63 #[.slice A n c, .slice B m d] w fun e w' => e = .returned (.int .u32 (Crc.sum 0 (l ++ k) : Nat)) ∧ w = w' := by
  have HA := Lib.hid hA
  have HB := Lib.hid hB
  have HS := Lib.hid (Crc.sum_append 0 l k)
  clear hA hB
  go_enter Try.func63, Try.ntmps63
  go_wp2_with (fail)
  refine (crcSum A n c l w HA.out).mono ?_
  rintro e w' ⟨rfl, rfl⟩
  go_wp2_with (fail)
  refine (crcUpdate _ B m d k w (Crc.sum_lt _ (by omega)) HB.out).mono ?_
  rintro e w' ⟨rfl, rfl⟩
  go_wp2
  go_ret
  rw [HS.out]
  exact ⟨rfl, rfl⟩

set_option maxRecDepth 100000 in
theorem entryHighest (x : Nat) (w : World) (hx : x < 4294967296) : Calls Try.prog 62 #[.int .u32 (x : Int)] w fun e w' => ∃ p q r s, be4 x = [p, q, r, s] ∧ e = .returned (.agg #[.int .u8 (p.toNat : Int), .int .u8 (q.toNat : Int), .int .u8 (r.toNat : Int), .int .u8 (s.toNat : Int)]) ∧ Below w.heap.size w w' := by
  have HE := Lib.hid (be4_cells x hx)
  go_enter Try.func62, Try.ntmps62
  go_wp2
  refine bodyPost_ret (v := .agg #[Value.int .u8 ((x : Int) / 16777216), .int .u8 ((x : Int) / 65536 % 256), .int .u8 ((x : Int) / 256 % 256), .int .u8 ((x : Int) % 256)]) (by simp [results, Try.results62, go_sem]) rfl ⟨_, _, _, _, rfl, ?_, (Below.refl _ _).alloc (Nat.le_refl _) _⟩
  rw [HE.out]
  rfl

theorem or_byte (x c : Nat) (hx : x < 16777216) (hc : c < 256) : bits BinOp.or IntKind.u32 ((x : Int) * 256) (c : Int) = ((x * 256 + c : Nat) : Int) := by
  rw [show ((x : Int) * 256) = ((x * 256 : Nat) : Int) from by omega, u32_or_nat _ _ (by omega) (by omega)]
  congr 1
  apply Nat.eq_of_testBit_eq
  intro i
  rw [show x * 256 + c = 2 ^ 8 * x + c from by omega, Nat.testBit_two_pow_mul_add _ (by omega), Nat.testBit_or, show x * 256 = 2 ^ 8 * x from by omega, Nat.testBit_two_pow_mul]
  by_cases h : i < 8
  · simp [h, show ¬ 8 ≤ i from by omega]
  · have : Nat.testBit c i = false := Nat.testBit_lt_two_pow (Nat.lt_of_lt_of_le hc (by
      have : 2 ^ 8 ≤ 2 ^ i := Nat.pow_le_pow_right (by omega) (by omega)
      simpa using this))
    simp [h, this, show 8 ≤ i from by omega]

set_option maxRecDepth 100000 in
theorem entryNumber (A : Option Addr) (c : Nat) (l : List UInt8) (w : World) (hB : Bs w A 4 c l) :
    Calls Try.prog 72 #[.slice A 4 c] w fun e w' => e = .returned (.int .u32 (beNum l : Nat)) ∧ w = w' := by
  have HB := Lib.hid hB; clear hB
  go_enter Try.func72, Try.ntmps72
  go_wp2_with (fail)
  go_loop [3, 5, 8] (fun x _ k => ∃ m : Nat, m ≤ 4 ∧ k = .int .i64 m ∧ x = .int .u32 (beNum (l.take m) : Nat)) (fun _ _ k => 4 - (intOf k).toNat)
  case atStart => exact ⟨0, Nat.zero_le _, rfl, rfl⟩
  case round =>
    obtain ⟨m, hm, rfl, rfl⟩ := hrel
    by_cases hlt : m < 4
    · obtain ⟨b, o, rfl, hb, hc⟩ := HB.out.at_ (by omega)
      have hml : m < l.length := by have := HB.out.len; omega
      have hcell := hc m _ (List.getElem?_eq_getElem hml)
      have hlt3 : beNum (l.take m) < 16777216 := Nat.lt_of_lt_of_le (beNum_lt _) (by
        have : (l.take m).length ≤ 3 := by rw [List.length_take]; omega
        have h := Nat.pow_le_pow_right (n := 256) (by omega) this
        simpa using h)
      have HC := Lib.hid (beNum_snoc (l.take m) l[m])
      have HT := Lib.hid (List.take_succ_eq_append_getElem hml)
      generalize l[m] = d at *
      generalize beNum (l.take m) = x at *
      have hd := d.toNat_lt
      have h2 := or_byte x d.toNat hlt3 hd
      clear hc
      go_wp2_with (fail)
      go_round
      case rel =>
        refine ⟨m + 1, by omega, by go_num, ?_⟩
        rw [HT.out, HC.out]
        congr 1
      case measure => simp [intOf]; omega
    · obtain rfl : m = 4 := by omega
      have hl2 : l.take 4 = l := List.take_of_length_le (by have := HB.out.len; omega)
      rw [hl2]
      clear hl2
      go_wp2
      go_ret
      exact ⟨rfl, rfl⟩
end Go.Proofs.Ythblbmbefhlbjaa
/- Layer 13: Put, walked. -/
namespace Go.Proofs.Ythblbmbefhlbjaa
open Go.RowKit

/-- what a call gives that answers bytes and an error, and leaves what was there -/
def RetE (err : Int) (l : List UInt8) (w : World) (e : Ending) (w' : World) : Prop :=
  ∃ A c, e = .returned (.tuple #[.slice A l.length c, .int .i64 err]) ∧ Bs w' A l.length c l ∧ Below w.heap.size w w'

set_option maxRecDepth 100000 in
set_option maxHeartbeats 1000000 in
theorem entryPut_no (A : Option Addr) (n c : Nat) (w : World) (hn : okLen n = false) :
    Calls Try.prog 39 #[.slice A n c] w (RetE 9 [] w) := by
  have H := Lib.hid (okLen_no hn)
  clear hn
  go_enter Try.func39, Try.ntmps39
  go_wp2_with (fail)
  refine (rightLength_no n w (by have := H.out; omega)).mono ?_
  rintro e w' ⟨rfl, rfl⟩
  go_wp2
  go_ret2
  exact ⟨none, 0, rfl, Bs.none_ _, Below.refl _ _⟩

set_option maxRecDepth 100000 in
set_option maxHeartbeats 2000000 in
theorem entryPut_yes (A : Option Addr) (n c : Nat) (l : List UInt8) (w : World) (hB : Bs w A n c l) (hn : okLen n = true) :
    Calls Try.prog 39 #[.slice A n c] w (RetE 0 (record l) w) := by
  have HN := Lib.hid hn
  have HB := Lib.hid hB
  have HL := Lib.hid hB.len
  have h1 := (okLen_yes hn).1
  have h2 := (okLen_yes hn).2
  have tok1 : True := trivial
  have tok2 : True := trivial
  have tok3 : True := trivial
  have hmk : ∀ w : World, (Instr.makeSlice 27 (.int .i64 0) (.int .i64 (8 + (n : Int)))).run Try.prog w = .ok (.slice (some ⟨w.heap.size, 0, none⟩) 0 (8 + n)) (w.alloc (.cells (Array.replicate (8 + n) (.int .u8 0)) 5)) := by
    intro w
    have := run_mk (P := Try.prog) 27 5 Try.underlying27 byteInfo 0 (8 + n) (Nat.zero_le _) (by omega) w
    rwa [show ((8 + n : Nat) : Int) = 8 + (n : Int) from by omega] at this
  clear hn hB
  go_enter Try.func39, Try.ntmps39
  go_wp2_with (fail)
  refine (rightLength_yes n w (by omega) (by omega)).mono ?_
  rintro e w' ⟨rfl, rfl⟩
  go_wp2_with (fail)
  refine (entryHighest n w (by omega)).mono ?_
  rintro e w1 ⟨p, q, r, s, hbe, rfl, hb1⟩
  have HBE := Lib.hid hbe
  have HB1 := Lib.hid hb1
  have hz1 := hb1.size
  clear hbe hb1
  go_wp2_with (fail)
  have X2 := Lib.hid (Bs.lit w1 [p, q, r, s] 106 #[.int .u8 (p.toNat : Int), .int .u8 (q.toNat : Int), .int .u8 (r.toNat : Int), .int .u8 (s.toNat : Int)] w1.heap.size rfl rfl rfl (by simp [maxLen]))
  have B2 := Lib.hid (HB1.out.alloc hz1 (.cells #[.int .u8 (p.toNat : Int), .int .u8 (q.toNat : Int), .int .u8 (r.toNat : Int), .int .u8 (s.toNat : Int)] 106))
  generalize w1.alloc (.cells #[.int .u8 (p.toNat : Int), .int .u8 (q.toNat : Int), .int .u8 (r.toNat : Int), .int .u8 (s.toNat : Int)] 106) = w2 at *
  have hz2 := B2.out.size
  refine (entrySumOf _ _ _ _ _ _ _ l w2 X2.out (HB.out.below B2.out)).mono ?_
  rintro e w' ⟨rfl, rfl⟩
  have hs := Crc.sum_lt (s := 0) ([p, q, r, s] ++ l) (by omega)
  obtain ⟨x, hx⟩ : ∃ x, x = Crc.sum 0 ([p, q, r, s] ++ l) := ⟨_, rfl⟩
  rw [← hx] at hs ⊢
  have HX := Lib.hid hx
  clear hx
  go_wp2_with (fail)
  refine (entryHighest x w2 hs).mono ?_
  rintro e w3 ⟨p', q', r', s', hbe, rfl, hb3⟩
  have HBE2 := Lib.hid hbe
  have X3 := Lib.hid (X2.out.below hb3)
  have B3 := Lib.hid (B2.out.trans (hb3.mono hz2))
  have hz3 := B3.out.size
  clear hbe hb3
  go_wp2_with (fail)
  have X4 := Lib.hid (X3.out.alloc (.cells #[.int .u8 (p'.toNat : Int), .int .u8 (q'.toNat : Int), .int .u8 (r'.toNat : Int), .int .u8 (s'.toNat : Int)] 106))
  have Y4 := Lib.hid (Bs.lit w3 [p', q', r', s'] 106 #[.int .u8 (p'.toNat : Int), .int .u8 (q'.toNat : Int), .int .u8 (r'.toNat : Int), .int .u8 (s'.toNat : Int)] w3.heap.size rfl rfl rfl (by simp [maxLen]))
  have B4 := Lib.hid (B3.out.alloc hz3 (.cells #[.int .u8 (p'.toNat : Int), .int .u8 (q'.toNat : Int), .int .u8 (r'.toNat : Int), .int .u8 (s'.toNat : Int)] 106))
  have hz34 : w3.heap.size < (w3.alloc (.cells #[.int .u8 (p'.toNat : Int), .int .u8 (q'.toNat : Int), .int .u8 (r'.toNat : Int), .int .u8 (s'.toNat : Int)] 106)).heap.size := by simp
  generalize w3.alloc (.cells #[.int .u8 (p'.toNat : Int), .int .u8 (q'.toNat : Int), .int .u8 (r'.toNat : Int), .int .u8 (s'.toNat : Int)] 106) = w4 at *
  have hz4 := B4.out.size
  refine (entrySize_yes n w4 HN.out).mono ?_
  rintro e w' ⟨rfl, rfl⟩
  go_wp2_with (first
    | (at_builtin; have _t := tok1; go_loud ((refine wpList_app rfl (.tmp 23) (.tmp 24) 27 rfl w4.heap.size 5 Try.underlying27 byteInfo _ [] rfl (Own.made 5 w4 _ (8 + n) (Nat.le_refl _) (by simp only [maxLen]; omega) (by simp)) _ 4 4 [p, q, r, s] rfl (X4.out.alloc _) (by simp) (by simp) ?_; intro v5 w5 hown5 hb5 hg5; have b5 : Below w4.heap.size w4 w5 := ((Below.refl _ _).alloc (Nat.le_refl _) _).trans hb5; clear tok1 hb5 hg5 _t)))
    | (at_builtin; have _t := tok2; go_loud ((refine wpList_app rfl (.tmp 26) (.tmp 27) 27 rfl w4.heap.size 5 Try.underlying27 byteInfo _ ([] ++ [p, q, r, s]) rfl hown5 _ 4 4 [p', q', r', s'] rfl (Y4.out.below b5) (by simp) b5.size ?_; intro v6 w6 hown6 hb6 hg6; have b6 : Below w4.heap.size w4 w6 := b5.trans hb6; clear tok2 hb6 hg6 _t)))
    | (at_builtin; have _t := tok3; go_loud ((refine wpList_app rfl (.tmp 29) (.tmp 30) 27 rfl w4.heap.size 5 Try.underlying27 byteInfo _ ([] ++ [p, q, r, s] ++ [p', q', r', s']) rfl hown6 _ n c l rfl ((HB.out.below B4.out).below b6) (by simp; omega) b6.size ?_; intro v7 w7 hown7 hb7 hg7; have b7 : Below w4.heap.size w4 w7 := b6.trans hb7; clear tok3 hb7 hg7 _t))))
  go_ret2
  have e : [] ++ [p, q, r, s] ++ [p', q', r', s'] ++ l = record l := by
    unfold record
    rw [HL.out, HBE.out, ← HX.out, HBE2.out]
    rfl
  rw [e] at hown7
  obtain ⟨A8, c8, rfl, hB8, _⟩ := hown7.bs
  exact ⟨A8, c8, rfl, hB8, B4.out.trans (b7.mono hz4)⟩

theorem entryPut (A : Option Addr) (n c : Nat) (l : List UInt8) (w : World) (hB : Bs w A n c l) :
    Calls Try.prog 39 #[.slice A n c] w (RetE (if okLen l.length then 0 else 9) (if okLen l.length then record l else []) w) := by
  rw [hB.len]
  cases h : okLen n with
  | true => exact entryPut_yes A n c l w hB h
  | false => exact entryPut_no A n c w h
end Go.Proofs.Ythblbmbefhlbjaa
/- Layer 13: Get, walked. -/
namespace Go.Proofs.Ythblbmbefhlbjaa
open Go.RowKit

/-- the same, where the bytes lie in memory of their own -/
def RetGN (l : List UInt8) (n : Int) (err : Int) (w : World) (e : Ending) (w' : World) : Prop :=
  ∃ A c, e = .returned (.tuple #[.slice A l.length c, .int .i64 n, .int .i64 err]) ∧ Bs w' A l.length c l ∧ (∀ b, A = some b → w.heap.size ≤ b.block) ∧ Below w.heap.size w w'
theorem RetGN.none {n err : Int} {w w' : World} (hb : Below w.heap.size w w') : RetGN [] n err w (.returned (.tuple #[.slice none 0 0, .int .i64 n, .int .i64 err])) w' :=
  ⟨Option.none, 0, rfl, Bs.none_ _, (fun _ h => by cases h), hb⟩
theorem get_err {l : List UInt8} {err : Int} (h : getErr l = err) (h0 : err ≠ 0) : getGet l = [] ∧ getLen l = 0 := by
  have : ¬ getErr l = 0 := by omega
  exact ⟨by unfold getGet; rw [if_neg this], by unfold getLen; rw [if_neg this]⟩

set_option maxRecDepth 100000 in
set_option maxHeartbeats 1000000 in
theorem entryGetN (A : Option Addr) (n c : Nat) (l : List UInt8) (w : World) (hB : Bs w A n c l) (hN : n ≤ 140737488351232) :
    Calls Try.prog 52 #[.slice A n c] w (RetGN (getGet l) (getLen l) (getErr l) w) := by
  have hlen := hB.len
  have hcm := hB.max
  have hle := hB.le
  by_cases h8 : n < 8
  · have e : getErr l = 7 := by unfold getErr; rw [if_pos (by omega)]
    rw [(get_err e (by omega)).1, (get_err e (by omega)).2, e]
    clear e hlen hB
    go_enter Try.func52, Try.ntmps52
    go_wp2
    go_ret3
    exact RetGN.none (Below.refl _ _)
  · obtain ⟨b, o, rfl, hb, _⟩ := hB.at_ (by omega)
    have H4 := Lib.hid (hB.take (j := 4) (by omega))
    have h5 := (hB.drop (i := 4) (by omega)).take (j := 4) (by omega)
    rw [if_neg (by omega), Option.map_some, Addr.add_lit] at h5
    have H5 := Lib.hid h5
    have h6 := hB.drop (i := 8) (by omega)
    rw [Option.map_some, Addr.add_lit] at h6
    obtain ⟨k, hk⟩ : ∃ k, n = k + 8 := ⟨n - 8, by omega⟩
    subst hk
    rw [show k + 8 - 8 = k from by omega] at h6
    obtain ⟨R, hR⟩ : ∃ R, (if c = 8 then some (⟨b, o, none⟩ : Addr) else some ⟨b, o + 8, none⟩) = R := ⟨_, rfl⟩
    rw [hR] at h6
    have H6 := Lib.hid h6
    have e0 : (k : Int) ≤ (k : Int) + 8 := by omega
    have e9 : ¬ c = 4 := by omega
    have hxlt : beNum (l.take 4) < 4294967296 := by
      have := beNum_lt (l.take 4)
      rw [show (l.take 4).length = 4 from H4.out.len] at this
      simpa using this
    have HE : Hid (getErr l = if okLen (beNum (l.take 4)) = false then 9 else if k < beNum (l.take 4) then 7 else if Crc.sum 0 (l.take 4 ++ (l.drop 8).take (beNum (l.take 4))) = beNum ((l.drop 4).take 4) then 0 else 8) := by
      show getErr l = _
      unfold getErr
      rw [if_neg (by omega), hlen, show k + 8 - 8 = k from by omega]
    have CN := fun W h => entryNumber (some ⟨b, o, none⟩) c (l.take 4) W h
    have HG : Hid (getErr l = 0 → getGet l = (l.drop 8).take (beNum (l.take 4)) ∧ getLen l = 8 + beNum (l.take 4)) := fun h => ⟨by unfold getGet; rw [if_pos h], by unfold getLen; rw [if_pos h]⟩
    have CN2 := fun W h => entryNumber (some ⟨b, o + 4, none⟩) (c - 4) ((l.drop 4).take 4) W h
    generalize beNum (l.take 4) = x at *
    generalize beNum ((l.drop 4).take 4) = y at *
    have HCN := Lib.hid CN
    have HCN2 := Lib.hid CN2
    have HBB := Lib.hid hB
    clear hB h5 h6 CN CN2 hlen
    by_cases hx : okLen x = false
    · have e := HE.out
      rw [if_pos hx] at e
      rw [(get_err e (by omega)).1, (get_err e (by omega)).2, e]
      have HX := Lib.hid (okLen_no hx)
      clear e hx
      go_enter Try.func52, Try.ntmps52
      go_wp2_with (fail)
      go_quiet (fail)
      go_wp2_with (fail)
      refine (HCN.out _ (H4.out.drewN _)).mono ?_
      rintro e w' ⟨rfl, rfl⟩
      go_wp2_with (fail)
      refine (rightLength_no x _ (by have := HX.out; omega)).mono ?_
      rintro e w' ⟨rfl, rfl⟩
      go_wp2
      go_ret3
      exact RetGN.none (drawN_below (Below.refl _ _) _)
    · have hx1 : okLen x = true := by
        cases h : okLen x with
        | true => rfl
        | false => exact absurd h hx
      have hx2 := okLen_yes hx1
      have e := HE.out
      rw [if_neg hx] at e
      have HX := Lib.hid hx2
      have HX1 := Lib.hid hx1
      clear hx hx2 hx1
      by_cases hk : k < x
      · rw [if_pos hk] at e
        rw [(get_err e (by omega)).1, (get_err e (by omega)).2, e]
        clear e
        go_enter Try.func52, Try.ntmps52
        go_wp2_with (fail)
        go_quiet (fail)
        go_wp2_with (fail)
        refine (HCN.out _ (H4.out.drewN _)).mono ?_
        rintro e w' ⟨rfl, rfl⟩
        go_wp2_with (fail)
        refine (rightLength_yes x _ (by have := HX.out; omega) (by have := HX.out; omega)).mono ?_
        rintro e w' ⟨rfl, rfl⟩
        go_wp2
        go_ret3
        exact RetGN.none (drawN_below (Below.refl _ _) _)
      · rw [if_neg hk] at e
        have HX6 := Lib.hid (H6.out.take (j := x) (by omega))
        have e1 : (x : Int) ≤ (k : Int) := by omega
        have e2 : x ≤ c - 8 := by omega
        have CS := fun W h1 h2 => entrySumOf (some ⟨b, o, none⟩) 4 c (l.take 4) R x (c - 8) ((l.drop 8).take x) W h1 h2
        have hslt := Crc.sum_lt (s := 0) (l.take 4 ++ (l.drop 8).take x) (by omega)
        generalize Crc.sum 0 (l.take 4 ++ (l.drop 8).take x) = s at *
        have HCS := Lib.hid CS
        clear CS
        by_cases hs : s = y
        · rw [if_pos hs] at e
          have HEE := Lib.hid e
          have hne : ((s : Int) != (y : Int)) = false := by simp [hs]
          have hx65 : x ≤ 65536 := HX.out.2
          obtain ⟨Z, HZ, hzl, hmk⟩ := mk_zeros (x : Int) x rfl (by omega)
          have HZL := Lib.hid hzl
          have HMK := Lib.hid hmk
          clear e hs hzl hmk
          go_enter Try.func52, Try.ntmps52
          go_wp2_with (fail)
          go_quiet (fail)
          go_wp2_with (fail)
          refine (HCN.out _ (H4.out.drewN _)).mono ?_
          rintro e w' ⟨rfl, rfl⟩
          go_wp2_with (fail)
          refine (rightLength_yes x _ (by have := HX.out; omega) (by have := HX.out; omega)).mono ?_
          rintro e w' ⟨rfl, rfl⟩
          go_wp2_with (fail)
          refine (HCS.out _ (H4.out.drewN _) (HX6.out.drewN _)).mono ?_
          rintro e w' ⟨rfl, rfl⟩
          go_wp2_with (fail)
          refine (HCN2.out _ (H5.out.drewN _)).mono ?_
          rintro e w' ⟨rfl, rfl⟩
          have hw3 : Hid (Below w.heap.size w (w.drewN nq)) := Lib.hid (drawN_below (Below.refl _ _) nq)
          have HXX := Lib.hid (HX6.out.drewN nq)
          generalize w.drewN nq = w3 at *
          have hmk := HMK.out
          have hsz3 := hw3.out.size
          go_wp2_with (with_reducible show wpList _ _ _ _ _ _; refine wpList_cpyTo rfl (.tmp 39) (.tmp 40) 27 27 rfl 5 Try.underlying27 byteInfo w3.heap.size 0 _ _ _ rfl Z 5 (heap_alloc_new w3 _) R k x (c - 8) ((l.drop 8).take x) rfl (HXX.out.alloc _) (fun _ => rfl) (by omega) (by rw [HZL.out]; omega) ?_; intro w1 hw1 hb1)
          refine (entrySize_yes x _ HX1.out).mono ?_
          rintro e w' ⟨rfl, rfl⟩
          go_wp2
          go_ret3
          rw [(HG.out HEE.out).1, (HG.out HEE.out).2, HEE.out]
          have e : List.take 0 Z ++ ((l.drop 8).take x ++ List.drop (0 + x) Z) = (l.drop 8).take x := by
            have hz : List.drop (0 + x) Z = [] := List.drop_of_length_le (by rw [HZL.out]; omega)
            rw [List.take_zero, List.nil_append, hz, List.append_nil]
          have hw := hw1.out
          rw [e] at hw
          have hlk : ((l.drop 8).take x).length = x := HX6.out.len
          refine ⟨some ⟨w3.heap.size, 0, none⟩, x, ?_, ?_, (fun b hb => by injection hb with hb; subst hb; exact hsz3), hw3.out.trans ((((Below.refl _ w3).alloc (Nat.le_refl _) _).trans hb1).mono hsz3)⟩
          · rw [hlk, show ((8 + x : Nat) : Int) = 8 + (x : Int) from by omega]
            rfl
          · have := Bs.block hw hlk (by unfold maxLen; omega)
            rwa [hlk]
        · rw [if_neg hs] at e
          rw [(get_err e (by omega)).1, (get_err e (by omega)).2, e]
          have hne : ((s : Int) != (y : Int)) = true := by rw [bne_iff_ne]; omega
          clear e hs
          go_enter Try.func52, Try.ntmps52
          go_wp2_with (fail)
          go_quiet (fail)
          go_wp2_with (fail)
          refine (HCN.out _ (H4.out.drewN _)).mono ?_
          rintro e w' ⟨rfl, rfl⟩
          go_wp2_with (fail)
          refine (rightLength_yes x _ (by have := HX.out; omega) (by have := HX.out; omega)).mono ?_
          rintro e w' ⟨rfl, rfl⟩
          go_wp2_with (fail)
          refine (HCS.out _ (H4.out.drewN _) (HX6.out.drewN _)).mono ?_
          rintro e w' ⟨rfl, rfl⟩
          go_wp2_with (fail)
          refine (HCN2.out _ (H5.out.drewN _)).mono ?_
          rintro e w' ⟨rfl, rfl⟩
          go_wp2
          go_ret3
          exact RetGN.none (drawN_below (Below.refl _ _) _)
end Go.Proofs.Ythblbmbefhlbjaa
/- bytes.Equal, walked. -/
namespace Go.Proofs.Ythblbmbefhlbjaa
open Go.RowKit

end Go.Proofs.Ythblbmbefhlbjaa
/- Layer 13: the example. -/
namespace Go.Proofs.Ythblbmbefhlbjaa
open Go.RowKit

end Go.Proofs.Ythblbmbefhlbjaa
/- Layer 1: Open, walked. -/
namespace Go.Proofs.Ythblbmbefhlbjaa
open Go.RowKit

end Go.Proofs.Ythblbmbefhlbjaa
/- The law CrcBursts, walked. -/
namespace Go.Proofs.Ythblbmbefhlbjaa
open Go.RowKit

end Go.Proofs.Ythblbmbefhlbjaa
/- The law CrcTurns, walked. -/
namespace Go.Proofs.Ythblbmbefhlbjaa
open Go.RowKit

end Go.Proofs.Ythblbmbefhlbjaa
/- Layer 13: what a record tells, and one with a bit turned. -/
namespace Go.Proofs.Ythblbmbefhlbjaa
open Go.RowKit

theorem get_parts (P S L b : List UInt8) (hP : P.length = 4) (hS : S.length = 4) (hn : beNum P = L.length) (hok : okLen L.length = true) :
    getErr (P ++ (S ++ (L ++ b))) = if Crc.sum 0 (P ++ L) = beNum S then 0 else 8 := by
  unfold getErr
  have h1 : (P ++ (S ++ (L ++ b))).length = 8 + L.length + b.length := by simp; omega
  have h2 : (P ++ (S ++ (L ++ b))).take 4 = P := by rw [← hP, List.take_left]
  have h3 : (P ++ (S ++ (L ++ b))).drop 4 = S ++ (L ++ b) := by rw [← hP, List.drop_left]
  have h4 : (P ++ (S ++ (L ++ b))).drop 8 = L ++ b := by
    rw [show (8 : Nat) = 4 + 4 from rfl, ← List.drop_drop, h3, ← hS, List.drop_left]
  have h5 : (S ++ (L ++ b)).take 4 = S := by rw [← hS, List.take_left]
  rw [h1, h2, h3, h4, h5, hn, List.take_left, if_neg (by omega), if_neg (by rw [hok]; decide), if_neg (by omega)]
theorem get_parts_get (P S L b : List UInt8) (hP : P.length = 4) (hS : S.length = 4) (hn : beNum P = L.length) (hok : okLen L.length = true) (h : Crc.sum 0 (P ++ L) = beNum S) :
    getErr (P ++ (S ++ (L ++ b))) = 0 ∧ getGet (P ++ (S ++ (L ++ b))) = L ∧ getLen (P ++ (S ++ (L ++ b))) = 8 + L.length := by
  have he := get_parts P S L b hP hS hn hok
  rw [if_pos h] at he
  have h2 : (P ++ (S ++ (L ++ b))).take 4 = P := by rw [← hP, List.take_left]
  have h3 : (P ++ (S ++ (L ++ b))).drop 4 = S ++ (L ++ b) := by rw [← hP, List.drop_left]
  have h4 : (P ++ (S ++ (L ++ b))).drop 8 = L ++ b := by
    rw [show (8 : Nat) = 4 + 4 from rfl, ← List.drop_drop, h3, ← hS, List.drop_left]
  refine ⟨he, ?_, ?_⟩
  · unfold getGet; rw [if_pos he, h2, h4, hn, List.take_left]
  · unfold getLen; rw [if_pos he, h2, hn]
theorem record_parts (l b : List UInt8) : record l ++ b = be4 l.length ++ (be4 (Crc.sum 0 (be4 l.length ++ l)) ++ (l ++ b)) := by
  unfold record
  simp only [List.append_assoc]
theorem record_length (l : List UInt8) : (record l).length = 8 + l.length := by
  unfold record
  simp only [List.length_append, be4_length]
theorem get_record (l b : List UInt8) (hok : okLen l.length = true) : getErr (record l ++ b) = 0 ∧ getGet (record l ++ b) = l ∧ getLen (record l ++ b) = 8 + l.length := by
  have h2 := okLen_yes hok
  rw [record_parts]
  exact get_parts_get _ _ l b (be4_length _) (be4_length _) (beNum_be4 (by omega)) hok (beNum_be4 (Crc.sum_lt _ (by omega))).symm
end Go.Proofs.Ythblbmbefhlbjaa
/- Layer 1: the document's answers, walked. -/
namespace Go.Proofs.Ythblbmbefhlbjaa
open Go.RowKit

set_option maxRecDepth 100000 in
theorem refTable (i : Nat) (w : World) (hi : i < 256) : Calls Try.prog 88 #[.int .u8 (i : Int)] w fun e w' => e = .returned (.int .u32 (Crc.row i : Nat)) ∧ w = w' := by
  go_enter Try.func88, Try.ntmps88
  go_wp2
  go_loop [3, 4] (fun x k => ∃ n : Nat, n ≤ 8 ∧ k = .int .i64 n ∧ x = .int .u32 (Crc.it n i : Nat)) (fun _ k => 8 - (intOf k).toNat)
  case atStart => exact ⟨0, Nat.zero_le _, rfl, rfl⟩
  case round =>
    obtain ⟨n, hn, rfl, rfl⟩ := hrel
    have hl : Crc.it n i < 4294967296 := Crc.it_lt n (by omega)
    have HS := Lib.hid (it_snoc n i)
    generalize hxx : Crc.it n i = x at *
    have HX := Lib.hid hxx; clear hxx
    by_cases hlt : n < 8
    · go_wp2
      all_goals
        go_round
        case rel =>
          refine ⟨n + 1, by omega, by go_num, ?_⟩
          rw [HS.out]
          unfold Crc.step
          have hx := Lib.hid trivial
          first
          | (rw [if_pos (by have : (((x : Int) % 2) == 1) = true := by assumption
                            have := beq_iff_eq.1 this; omega)]
             rw [show (3988292384 : Int) = ((3988292384 : Nat) : Int) from rfl, show (x : Int) / 2 = ((x / 2 : Nat) : Int) from by omega, u32_xor_nat _ _ (by omega) (by omega)])
          | (rw [if_neg (by have : (((x : Int) % 2) == 1) = false := by assumption
                            have := beq_eq_false_iff_ne.1 this; omega)]
             rw [show (x : Int) / 2 = ((x / 2 : Nat) : Int) from by omega])
        case measure => simp [intOf]; omega
    · obtain rfl : n = 8 := by omega
      go_wp2
      go_ret
      rw [← HX.out]
      exact ⟨rfl, rfl⟩

theorem u32_not' (s : Nat) (hs : s < 4294967296) : bits BinOp.xor IntKind.u32 4294967295 (s : Int) = ((4294967295 ^^^ s : Nat) : Int) := u32_xor_nat 4294967295 _ (by omega) hs

set_option maxRecDepth 100000 in
theorem refUpdate (s : Nat) (A : Option Addr) (n c : Nat) (l : List UInt8) (w : World) (hs : s < 4294967296) (hB : Bs w A n c l) :
    Calls Try.prog 85 #[.int .u32 (s : Int), .slice A n c] w fun e w' => e = .returned (.int .u32 (Crc.sum s l : Nat)) ∧ w = w' := by
  have hn := hB.nmax
  have HB := Lib.hid hB; clear hB
  have h1 := u32_not' s hs
  go_enter Try.func85, Try.ntmps85
  go_wp2_with (fail)
  clear h1
  go_loop [5, 6] (fun x k => ∃ m : Nat, m ≤ n ∧ k = .int .i64 m ∧ x = .int .u32 (Crc.upd (4294967295 ^^^ s) (l.take m) : Nat)) (fun _ k => n - (intOf k).toNat)
  case atStart => exact ⟨0, Nat.zero_le _, rfl, rfl⟩
  case round =>
    obtain ⟨m, hm, rfl, rfl⟩ := hrel
    have hl : Crc.upd (4294967295 ^^^ s) (l.take m) < 4294967296 := Crc.upd_lt _ (Nat.xor_lt_two_pow (n := 32) (by omega) (by omega))
    by_cases hlt : m < n
    · obtain ⟨b, o, rfl, hb, hc⟩ := HB.out.at_ (by omega)
      have hml : m < l.length := by have := HB.out.len; omega
      have hcell := hc m _ (List.getElem?_eq_getElem hml)
      have HC := Lib.hid (Crc.upd_snoc (4294967295 ^^^ s) (l.take m) l[m])
      have HT := Lib.hid (List.take_succ_eq_append_getElem hml)
      generalize l[m] = d at *
      generalize Crc.upd (4294967295 ^^^ s) (l.take m) = x at *
      have hd := d.toNat_lt
      have hxd : (x % 256) ^^^ d.toNat < 256 := Nat.xor_lt_two_pow (n := 8) (by omega) (by omega)
      have hr : Crc.row ((x % 256) ^^^ d.toNat) < 4294967296 := Crc.row_lt (by omega)
      have h2 : bits BinOp.xor IntKind.u8 ((x : Int) % 256) (d.toNat : Int) = (((x % 256) ^^^ d.toNat : Nat) : Int) := by
        rw [show ((x : Int) % 256) = ((x % 256 : Nat) : Int) from by omega]
        exact u8_xor_nat _ _ (by omega) hd
      have HR := Lib.hid (refTable _ w hxd)
      have h3 : bits BinOp.xor IntKind.u32 ((Crc.row ((x % 256) ^^^ d.toNat) : Nat) : Int) ((x : Int) / 256) = ((Crc.row ((x % 256) ^^^ d.toNat) ^^^ (x / 256) : Nat) : Int) := by
        rw [show ((x : Int) / 256) = ((x / 256 : Nat) : Int) from by omega]
        exact u32_xor_nat _ _ hr (by omega)
      generalize Crc.row ((x % 256) ^^^ d.toNat) = r at *
      generalize (x % 256) ^^^ d.toNat = y at *
      clear hc hxd hr hd
      go_wp2_with (go_at_call 88; refine (HR.out).mono ?_; rintro e w' ⟨rfl, rfl⟩)
      go_round
      case rel =>
        refine ⟨m + 1, by omega, by go_num, ?_⟩
        rw [HT.out, HC.out]
      case measure => simp [intOf]; omega
    · obtain rfl : m = n := by omega
      have hl2 : l.take m = l := List.take_of_length_le (by have := HB.out.len; omega)
      rw [hl2] at hl ⊢
      clear hl2
      have h4 := u32_not' _ hl
      go_wp2
      go_ret
      exact ⟨rfl, rfl⟩

theorem refSum (A : Option Addr) (n c : Nat) (l : List UInt8) (w : World) (hB : Bs w A n c l) :
    Calls Try.prog 76 #[.slice A n c] w fun e w' => e = .returned (.int .u32 (Crc.sum 0 l : Nat)) ∧ w = w' := by
  have HB := Lib.hid hB; clear hB
  go_enter Try.func76, Try.ntmps76
  go_wp2_with (fail)
  refine (refUpdate 0 A n c l w (by omega) HB.out).mono ?_
  rintro e w' ⟨rfl, rfl⟩
  go_wp2
  go_ret
  exact ⟨rfl, rfl⟩

/-- what a call gives that answers bytes, and leaves what was there -/
def RetS (l : List UInt8) (w : World) (e : Ending) (w' : World) : Prop :=
  ∃ A c, e = .returned (.slice A l.length c) ∧ Bs w' A l.length c l ∧ Below w.heap.size w w'

set_option maxRecDepth 100000 in
theorem refFour (x : Nat) (w : World) (hx : x < 4294967296) : Calls Try.prog 75 #[.int .u32 (x : Int)] w fun e w' => ∃ p q r s, be4 x = [p, q, r, s] ∧ e = .returned (.slice (some ⟨w.heap.size, 0, none⟩) 4 4) ∧ w' = w.alloc (.cells #[.int .u8 (p.toNat : Int), .int .u8 (q.toNat : Int), .int .u8 (r.toNat : Int), .int .u8 (s.toNat : Int)] 5) := by
  have HE := Lib.hid (be4_cells x hx)
  go_enter Try.func75, Try.ntmps75
  go_wp2
  go_ret
  refine ⟨_, _, _, _, rfl, rfl, ?_⟩
  rw [HE.out]
  rfl

set_option maxRecDepth 100000 in
theorem refNumber (A : Option Addr) (c : Nat) (p q r s : UInt8) (w : World) (hB : Bs w A 4 c [p, q, r, s]) : Calls Try.prog 87 #[.slice A 4 c] w fun e w' => e = .returned (.int .i64 ((p.toNat : Int) * 16777216 + q.toNat * 65536 + r.toNat * 256 + s.toNat)) ∧ ∃ m, w' = w.drewN m := by
  obtain ⟨b, o, rfl, hb, hc⟩ := hB.at_ (by omega)
  have c0 := hc 0 p rfl
  rw [Nat.add_zero] at c0
  have c1 := hc 1 q rfl
  have c2 := hc 2 r rfl
  have c3 := hc 3 s rfl
  have b0 := p.toNat_lt
  have b1 := q.toNat_lt
  have b2 := r.toNat_lt
  have b3 := s.toNat_lt
  have e0 : IntKind.i64.wrap ((p.toNat : Int) * 16777216) = (p.toNat : Int) * 16777216 := IntWalk.i64_in _ (by omega)
  have e1 : IntKind.i64.wrap ((q.toNat : Int) * 65536) = (q.toNat : Int) * 65536 := IntWalk.i64_in _ (by omega)
  have e2 : IntKind.i64.wrap ((r.toNat : Int) * 256) = (r.toNat : Int) * 256 := IntWalk.i64_in _ (by omega)
  have e3 : IntKind.i64.wrap ((p.toNat : Int) * 16777216 + q.toNat * 65536) = (p.toNat : Int) * 16777216 + q.toNat * 65536 := IntWalk.i64_in _ (by omega)
  have e4 : IntKind.i64.wrap ((p.toNat : Int) * 16777216 + q.toNat * 65536 + r.toNat * 256) = (p.toNat : Int) * 16777216 + q.toNat * 65536 + r.toNat * 256 := IntWalk.i64_in _ (by omega)
  have e5 : IntKind.i64.wrap ((p.toNat : Int) * 16777216 + q.toNat * 65536 + r.toNat * 256 + s.toNat) = (p.toNat : Int) * 16777216 + q.toNat * 65536 + r.toNat * 256 + s.toNat := IntWalk.i64_in _ (by omega)
  have e6 : ∀ x : UInt8, IntKind.i64.wrap (x.toNat : Int) = (x.toNat : Int) := fun x => IntWalk.i64_in _ (by have := x.toNat_lt; omega)
  clear hc hB
  go_enter Try.func87, Try.ntmps87
  go_wp2_with (fail)
  go_quiet (fail)
  go_wp2
  go_ret
  exact ⟨rfl, _, rfl⟩
end Go.Proofs.Ythblbmbefhlbjaa
/- Rows of bytes in memory: what may change. No condition. -/
namespace Go.Proofs.Ythblbmbefhlbjaa
open Go.RowKit

/-- only blocks of S may have been written; the others that were there are as they were -/
structure Ch (S : Nat → Prop) (w w' : World) : Prop where
  os : w'.os = w.os
  tape : w'.tape = w.tape
  output : w'.output = w.output
  size : w.heap.size ≤ w'.heap.size
  block : ∀ k, k < w.heap.size → ¬ S k → w'.heap[k]? = w.heap[k]?
theorem Ch.refl (S : Nat → Prop) (w : World) : Ch S w w := ⟨rfl, rfl, rfl, Nat.le_refl _, fun _ _ _ => rfl⟩
theorem Ch.trans {S S' : Nat → Prop} {a b c : World} (h : Ch S a b) (k : Ch S' b c) (hS : ∀ x, x < a.heap.size → S' x → S x) : Ch S a c :=
  ⟨k.os.trans h.os, k.tape.trans h.tape, k.output.trans h.output, Nat.le_trans h.size k.size, fun i hi hn => (k.block i (Nat.lt_of_lt_of_le hi h.size) (fun hs => hn (hS i hi hs))).trans (h.block i hi hn)⟩
theorem Ch.of_below {S : Nat → Prop} {w w' : World} (h : Below w.heap.size w w') : Ch S w w' := ⟨h.os, h.tape, h.output, h.size, fun k hk _ => h.block k hk⟩
theorem Ch.of_grown {S : Nat → Prop} {w w' : World} {row : Option Nat} (h : w.grownBy w' row) (hr : ∀ k, row = some k → S k) : Ch S w w' :=
  ⟨h.os, h.tape, h.output, h.size, fun k hk hn => h.block k hk (fun e => hn (hr k e.symm))⟩
theorem Ch.set {S : Nat → Prop} {w w' : World} (h : Ch S w w') {a : Addr} (ha : S a.block) (u : Value) : Ch S w (w'.setCell a u) :=
  ⟨h.os, h.tape, h.output, Nat.le_trans h.size (by simp [World.setCell]), fun k hk hn => (Below.heap_setCell _ _ _ _ (fun e => hn (by rw [e]; exact ha))).trans (h.block k hk hn)⟩
/-- block D alone -/
abbrev At1 (D : Nat) : Nat → Prop := fun x => x = D
theorem Ch.set1 {D : Nat} {w w' : World} (h : Ch (At1 D) w w') (j : Nat) (u : Value) : Ch (At1 D) w (w'.setCell ⟨D, j, none⟩ u) := h.set (a := ⟨D, j, none⟩) rfl u
theorem Ch.drew {S : Nat → Prop} {w w' : World} (h : Ch S w w') : Ch S w w'.drew := ⟨h.os, h.tape, h.output, h.size, h.block⟩
theorem Ch.below {S : Nat → Prop} {B : Nat} {w w' : World} (h : Ch S w w') (hS : ∀ k, S k → B ≤ k) (hB : B ≤ w.heap.size) : Below B w w' :=
  ⟨h.os, h.tape, h.output, h.size, fun k hk => h.block k (by omega) (fun hs => by have := hS k hs; omega)⟩
theorem Ch.row {S : Nat → Prop} {w w' : World} (h : Ch S w w') {k : Nat} {o : Obj} (hk : w.heap[k]? = some o) (hn : ¬ S k) : w'.heap[k]? = some o :=
  (h.block k (Array.getElem?_eq_some_iff.1 hk).1 hn).trans hk
theorem own_form {w : World} {base n : Nat} {e : TypeId} {v : Value} {xs : List Value} (h : w.ownsRow base e 1 v n xs) : ∃ A c, v = .slice A n c := by
  rcases h.2 with ⟨rfl, rfl⟩ | ⟨g, cap, cur, rfl, _⟩
  · exact ⟨_, _, rfl⟩
  · exact ⟨_, _, rfl⟩
theorem Own.ch {S : Nat → Prop} {w w' : World} {B : Nat} {v : Value} {l : List UInt8} (h : Own 5 w B v l) (c : Ch S w w') (hn : ∀ k, v.ownBlock = some k → ¬ S k) : Own 5 w' B v l := by
  refine ⟨h.1, ?_⟩
  rcases h.2 with hnil | ⟨g, cap, cur, e, h1, h2, h3⟩
  · exact .inl hnil
  · exact .inr ⟨g, cap, cur, e, h1, c.row h2 (hn g (by rw [e]; rfl)), h3⟩
theorem Own.lt {w : World} {B : Nat} {v : Value} {l : List UInt8} (h : Own 5 w B v l) (k : Nat) (hk : v.ownBlock = some k) : B ≤ k ∧ k < w.heap.size := World.ownsRow.lt h k hk
/-- 'append(s, x...)' onto a row of the call's own; where the new row lies -/
theorem wpList_appAt {ops : Array Oper} {rest : List Oper} {o : Oper} {a : Act} {Q : Exit → Act → World → Prop} {w : World} (hgd : o.guard = none) (s x : Operand) (t : TypeId)
    (ho : o.op = .call { callee := .builtin .append, args := #[s, x], argTypes := #[t, t] }) (base : Nat) (e : TypeId) (z : Value) (bytes : Nat) (ht : Try.prog.underlying t = some (.slice e)) (hi : (Try.prog.info? e).map (fun i => (i.zero, i.size, i.bytes)) = some (some z, 1, bytes))
    (hz : z.cells.size = 1) (hby : bytes ≤ 64) (v : Value) (n : Nat) (xs : List Value) (hs : a.eval s = v) (hown : w.ownsRow base e 1 v n xs) (ad : Addr) (m c : Nat) (news : List Value) (hx : a.eval x = .slice (some ad) m c) (hl : news.length = m)
    (hnews : ∀ (j : Nat) (u : Value), news[j]? = some u → w.cell? (ad.add j) = some u) (h1 : ∀ u ∈ news, u.oneCell' = true) (hn : n + m ≤ 1099511627776) (hbase : base ≤ w.heap.size)
    (h : ∀ v' w', w'.ownsRow base e 1 v' (n + m) (xs ++ news) → w.grownBy w' v.ownBlock → (v'.ownBlock = v.ownBlock ∨ v'.ownBlock = some w.heap.size) → wpList Try.prog ops Q rest (a.put o.dst v') w') : wpList Try.prog ops Q (o :: rest) a w :=
  wpList_plain hgd fun K hK => by
    obtain ⟨i, hi, hzz⟩ := Option.map_eq_some_iff.1 hi
    simp only [Prod.mk.injEq] at hzz
    obtain ⟨v', w', hrun, h2, h3, _, h5⟩ := run_append_own_at (P := Try.prog) w base t o.type e i z 1 bytes ht hi hzz.1 hzz.2.1 hzz.2.2 hz (by decide) v n xs hown ad m c news (by rw [hl, Nat.mul_one]) hnews h1 (by simp only [maxLen]; omega)
      (Nat.le_trans (Nat.mul_le_mul hn hby) (by decide)) hbase
    unfold Oper.wp execOp
    simp only [ho, resolve, invoke, builtin, Sem.run_bind, Sem.run_pure, Result.andThen_ok, List.map_toArray, List.map_cons, List.map_nil, hs, hx, hrun]
    exact hK _ _ (h v' w' h2 h3 h5)
theorem own_ne {w : World} {base n g : Nat} {e t : TypeId} {v : Value} {xs : List Value} {cs : Array Value} {fr : Nat × Nat} (h : w.ownsRow base e 1 v n xs) (hg : w.heap[g]? = some (.cells cs t fr)) (ht : t ≠ e) : some g ≠ v.ownBlock := by
  rcases h.2 with ⟨rfl, _⟩ | ⟨g', cap, cur, rfl, _, hgg, _⟩
  · simp [Value.ownBlock]
  · intro e
    simp [Value.ownBlock] at e
    subst e
    rw [hg] at hgg
    injection hgg with hgg
    injection hgg with _ h2
    exact ht h2
theorem Bs.ch {S : Nat → Prop} {w w' : World} {A : Option Addr} {n c : Nat} {l : List UInt8} (h : Bs w A n c l) (hc : Ch S w w') (hn : 0 < n → ∀ b, A = some b → ¬ S b.block) : Bs w' A n c l :=
  ⟨h.1, h.2.1, h.2.2.1, fun h0 => by
    obtain ⟨b, o, rfl, hlt, hcell⟩ := h.at_ h0
    refine ⟨b, o, rfl, fun i x hx => ?_⟩
    have hb := hc.block b hlt (hn h0 _ rfl)
    exact (World.cell?_of_block (w := w) (a := ⟨b, o + i, none⟩) hb).trans (hcell i x hx)⟩
theorem own_ty {w : World} {B n : Nat} {e : TypeId} {v : Value} {xs : List Value} (h : w.ownsRow B e 1 v n xs) (k : Nat) (hk : v.ownBlock = some k) : ∃ cur, w.heap[k]? = some (.cells cur e (0, 0)) := by
  rcases h.2 with ⟨rfl, _⟩ | ⟨g, cap, cur, rfl, _, h2, _⟩
  · cases hk
  · simp only [Value.ownBlock, Option.some.injEq] at hk
    subst hk
    exact ⟨cur, h2⟩
theorem step_app {ops : Array Oper} {o : Oper} {a : Act} {w : World} {K : Act → World → Prop} {Q : Exit → Act → World → Prop} {E : Prop} (hgd : o.guard = none) (s x : Operand)
    (ho : o.op = .call { callee := .builtin .append, args := #[s, x], argTypes := #[27, 27] }) (base : Nat)
    (v : Value) (xs : List UInt8) (hs : a.eval s = v) (hown : Own 5 w base v xs) (A : Option Addr) (m c : Nat) (l : List UInt8) (hx : a.eval x = .slice A m c) (hl : Bs w A m c l) (hbytes : xs.length + m ≤ 140737488355328) (hbase : base ≤ w.heap.size)
    (h : ∀ v' w', Own 5 w' base v' (xs ++ l) → Below base w w' → w.grownBy w' v.ownBlock → K (a.put o.dst v') w') :
    if Region.wanted o (yielded ops a.tmps) = true then Oper.wp Try.prog o a w K Q else E := by
  have hw : Region.wanted o (yielded ops a.tmps) = true := by simp [Region.wanted, hgd]
  rw [if_pos hw]
  obtain ⟨v', w', hrun, h2, h3, h4⟩ := run_app (P := Try.prog) base 27 o.type 5 Try.underlying27 byteInfo v xs hown A m c l hl hbytes hbase
  unfold Oper.wp
  simp [execOp, ho, resolve, invoke, builtin, hs, hx, hrun, Result.andThen]
  exact h v' w' h2 h3 h4
theorem own_ch {w w' : World} {S : Nat → Prop} {B n : Nat} {e : TypeId} {v : Value} {xs : List Value} (h : w.ownsRow B e 1 v n xs) (c : Ch S w w') (hS : ∀ k, v.ownBlock = some k → ¬ S k) : w'.ownsRow B e 1 v n xs := by
  refine ⟨h.1, ?_⟩
  rcases h.2 with hn | ⟨g, cap, cur, q, q1, q2, q3⟩
  · exact .inl hn
  · exact .inr ⟨g, cap, cur, q, q1, c.row q2 (hS g (by rw [q]; rfl)), q3⟩
/-- 'append(s, x...)' of bytes, which tells where the new row lies -/
theorem wpList_appL {ops : Array Oper} {rest : List Oper} {o : Oper} {a : Act} {Q : Exit → Act → World → Prop} {w : World} (hgd : o.guard = none) (s x : Operand)
    (ho : o.op = .call { callee := .builtin .append, args := #[s, x], argTypes := #[27, 27] }) (base : Nat) (v : Value) (xs : List UInt8) (hs : a.eval s = v) (hown : Own 5 w base v xs) (A : Option Addr) (m c : Nat) (l : List UInt8) (hx : a.eval x = .slice A m c) (hl : Bs w A m c l)
    (hn : xs.length + m ≤ 1099511627776) (hbase : base ≤ w.heap.size)
    (h : ∀ v' w', Own 5 w' base v' (xs ++ l) → w.grownBy w' v.ownBlock → (v'.ownBlock = v.ownBlock ∨ v'.ownBlock = some w.heap.size) → wpList Try.prog ops Q rest (a.put o.dst v') w') : wpList Try.prog ops Q (o :: rest) a w := by
  have hlen := hl.len
  rcases A with _ | ad
  · have hm : m = 0 := by
      rcases Nat.eq_zero_or_pos m with h | h
      · exact h
      · obtain ⟨b, o, e, _⟩ := hl.2.2.2 h
        cases e
    subst hm
    obtain rfl := hl.empty
    refine wpList_plain hgd fun K hK => ?_
    obtain ⟨i, hi, hzz⟩ := Option.map_eq_some_iff.1 (byteInfo : (Try.prog.info? 5).map (fun i => (i.zero, i.size, i.bytes)) = some (some (.int .u8 0), 1, 1))
    simp only [Prod.mk.injEq] at hzz
    have hrun : (Builtin.append_ #[27, 27] o.type #[v, .slice none 0 c]).run Try.prog w = .ok v w := by
      rcases hown.2 with ⟨rfl, _⟩ | ⟨g, cap, cur, rfl, _, _, hnc, _⟩
      · simp [Builtin.append_, run_underlying Try.underlying27, sizeOf, typeInfo, hi, Builtin.lenOf, Builtin.firstCells]
      · simp [Builtin.append_, run_underlying Try.underlying27, sizeOf, typeInfo, hi, Builtin.lenOf, Builtin.firstCells, hnc, storeCells]
    unfold Oper.wp execOp
    simp only [ho, resolve, invoke, builtin, Sem.run_bind, Sem.run_pure, Result.andThen_ok, List.map_toArray, List.map_cons, List.map_nil, hs, hx, hrun]
    exact hK _ _ (h v w (by simpa using hown) (World.grownBy.refl w _) (.inl rfl))
  · refine wpList_appAt hgd s x 27 ho base 5 (.int .u8 0) 1 Try.underlying27 byteInfo rfl (by decide) v xs.length (u8s xs) hs hown ad m c (u8s l) hx (by simp [hlen]) (fun j u hu => ?_) (fun u hu => ?_) hn hbase (fun v' w' q1 q2 q3 => h v' w' ?_ q2 q3)
    · obtain ⟨y, hy, rfl⟩ := u8s_get hu
      have hm : 0 < m := by have := (List.getElem?_eq_some_iff.1 hy).1; omega
      obtain ⟨b, o', e, hc⟩ := hl.2.2.2 hm
      injection e with e
      subst e
      rw [Addr.add_lit]
      exact hc j y hy
    · obtain ⟨j, hj⟩ := List.getElem?_of_mem hu
      obtain ⟨y, hy, rfl⟩ := u8s_get hj
      rfl
    · unfold Own
      rw [List.length_append, hlen]
      simpa using q1
end Go.Proofs.Ythblbmbefhlbjaa
/- Rows of rows of bytes in memory, as they are read. No condition. -/
namespace Go.Proofs.Ythblbmbefhlbjaa
open Go.RowKit

theorem rowsInfo : (Try.prog.info? 27).map (fun i => (i.zero, i.size, i.bytes)) = some (some (.slice none 0 0), 1, 24) := by kernel_rfl
/-- the slice '.slice A n c' reads as the rows L -/
def Rd (w : World) (A : Option Addr) (n c : Nat) (L : List (List UInt8)) : Prop :=
  L.length = n ∧ n ≤ c ∧ c ≤ maxLen ∧ (0 < n → ∃ b o, A = some ⟨b, o, none⟩ ∧ b < w.heap.size ∧ ∀ (i : Nat) (x : List UInt8), L[i]? = some x → ∃ Ai ci, w.cell? ⟨b, o + i, none⟩ = some (.slice Ai x.length ci) ∧ Bs w Ai x.length ci x)
theorem Rd.nmax {w : World} {A : Option Addr} {n c : Nat} {L : List (List UInt8)} (h : Rd w A n c L) : n ≤ 9223372036854775807 := by
  have := h.2.1
  have := h.2.2.1
  simp only [maxLen] at this
  omega
theorem Rd.below {w w' : World} {A : Option Addr} {n c : Nat} {L : List (List UInt8)} (h : Rd w A n c L) (hb : Below w.heap.size w w') : Rd w' A n c L :=
  ⟨h.1, h.2.1, h.2.2.1, fun hn => by
    obtain ⟨b, o, e, hlt, hc⟩ := h.2.2.2 hn
    exact ⟨b, o, e, Nat.lt_of_lt_of_le hlt hb.size, fun i x hx => by
      obtain ⟨Ai, ci, h1, h2⟩ := hc i x hx
      exact ⟨Ai, ci, (hb.cell (p := ⟨b, o + i, none⟩) hlt).trans h1, h2.below hb⟩⟩⟩
theorem Rd.read {w : World} {A : Option Addr} {n c : Nat} {L : List (List UInt8)} (h : Rd w A n c L) {i : Nat} (hi : i < n) : ∃ b o Ai ci, A = some ⟨b, o, none⟩ ∧ b < w.heap.size ∧ w.cell? ⟨b, o + i, none⟩ = some (.slice Ai (L.getD i []).length ci) ∧ Bs w Ai (L.getD i []).length ci (L.getD i []) := by
  obtain ⟨b, o, e, hlt, hc⟩ := h.2.2.2 (by omega)
  obtain ⟨Ai, ci, h1, h2⟩ := hc i (L.getD i []) (by rw [List.getD_eq_getElem?_getD, List.getElem?_eq_getElem (by rw [h.1]; exact hi)]; rfl)
  exact ⟨b, o, Ai, ci, e, hlt, h1, h2⟩
theorem Rd.drop {w : World} {A : Option Addr} {n c : Nat} {L : List (List UInt8)} (h : Rd w A n c L) {q : Nat} (hq : q ≤ n) : Rd w (if c = q then A else Option.map (fun x => x.add q) A) (n - q) (c - q) (L.drop q) := by
  obtain ⟨h1, h2, h3, h4⟩ := h
  refine ⟨by rw [List.length_drop, h1], by omega, by omega, fun hn => ?_⟩
  obtain ⟨b, o, rfl, hlt, hc⟩ := h4 (by omega)
  rw [if_neg (by omega)]
  refine ⟨b, o + q, by rw [Option.map_some, Addr.add_lit], hlt, fun i x hx => ?_⟩
  rw [List.getElem?_drop] at hx
  obtain ⟨Ai, ci, h5, h6⟩ := hc (q + i) x hx
  exact ⟨Ai, ci, by rw [Nat.add_assoc]; exact h5, h6⟩
end Go.Proofs.Ythblbmbefhlbjaa
/- Layer 13: the document's Put and Get, walked. -/
namespace Go.Proofs.Ythblbmbefhlbjaa
open Go.RowKit

set_option maxRecDepth 100000 in
set_option maxHeartbeats 2000000 in
theorem refPut13 (A : Option Addr) (n c : Nat) (l : List UInt8) (w : World) (hB : Bs w A n c l) (hn : n ≤ 1000000000) :
    Calls Try.prog 55 #[.slice A n c] w (RetS (record l) w) := by
  have HB := Lib.hid hB
  have HL : l.length = n := hB.len
  have hx : n < 4294967296 := by omega
  have hw32 : IntKind.u32.wrap (n : Int) = (n : Int) := by rw [IntKind.wrap_u32]; omega
  have hs := Crc.sum_lt (s := 0) (be4 n ++ l) (by omega)
  have HLH := Lib.hid HL
  clear hB HL
  go_enter Try.func55, Try.ntmps55
  go_wp2_with (fail)
  refine (refFour n w hx).mono ?_
  rintro e w' ⟨p, q, r, s, hbe, rfl, rfl⟩
  have HBE := Lib.hid hbe
  have HB1 : Hid (Below w.heap.size w (w.alloc (.cells #[.int .u8 (p.toNat : Int), .int .u8 (q.toNat : Int), .int .u8 (r.toNat : Int), .int .u8 (s.toNat : Int)] 5))) := Lib.hid ((Below.refl _ _).alloc (Nat.le_refl _) _)
  have HF1 := Lib.hid (Bs.lit w [p, q, r, s] 5 #[.int .u8 (p.toNat : Int), .int .u8 (q.toNat : Int), .int .u8 (r.toNat : Int), .int .u8 (s.toNat : Int)] w.heap.size rfl rfl rfl (by simp [maxLen]))
  rw [show ([p, q, r, s] : List UInt8).length = 4 from rfl] at HF1
  clear hbe
  have HBL := Lib.hid (HB.out.below HB1.out)
  obtain ⟨g0, hg0⟩ : ∃ g0, w.heap.size = g0 := ⟨_, rfl⟩
  rw [hg0] at HF1 HB1 ⊢
  have HG0 := Lib.hid hg0
  have HZ1 : Hid (g0 ≤ (w.alloc (.cells #[.int .u8 (p.toNat : Int), .int .u8 (q.toNat : Int), .int .u8 (r.toNat : Int), .int .u8 (s.toNat : Int)] 5)).heap.size) := Lib.hid (by have := HB1.out.size; rw [hg0] at this; exact this)
  clear hg0
  generalize (w.alloc (.cells #[.int .u8 (p.toNat : Int), .int .u8 (q.toNat : Int), .int .u8 (r.toNat : Int), .int .u8 (s.toNat : Int)] 5)) = w1 at *
  have tok1 : True := trivial
  have tok2 : True := trivial
  go_wp2_with (first
    | (at_builtin; have _t := tok1; go_loud ((refine wpList_app rfl (.tmp 9) (.tmp 10) 27 rfl w1.heap.size 5 Try.underlying27 byteInfo _ [] rfl (Own.lit 5 w1 [] (Nat.le_refl _) (by simp [maxLen])) _ 4 4 [p, q, r, s] rfl (HF1.out.alloc _) (by simp) (by simp) ?_; intro v2 w2 hown2 hb2 hg2; have b2 := (((Below.refl _ w1).alloc (Nat.le_refl _) _)).trans hb2; clear tok1 hb2 hg2 _t)))
    | (at_builtin; have _t := tok2; go_loud ((refine wpList_app rfl (.tmp 11) (.tmp 12) 27 rfl w1.heap.size 5 Try.underlying27 byteInfo _ ([] ++ [p, q, r, s]) rfl hown2 _ n c l rfl (HBL.out.below b2) (by simp; omega) b2.size ?_; intro v3 w3 hown3 hb3 hg3; have b3 := b2.trans hb3; clear tok2 hb3 hg3 _t))))
  have hE : ([] ++ [p, q, r, s] ++ l : List UInt8) = be4 n ++ l := by rw [HBE.out]; rfl
  rw [hE] at hown3
  obtain ⟨A3, c3, rfl, hB3, _⟩ := hown3.bs
  have hEL : (be4 n ++ l).length = n + 4 := by simp [be4, HLH.out]; try omega
  rw [hEL] at hB3 ⊢
  have HB3 := Lib.hid (HB1.out.trans (b3.mono HZ1.out))
  have HF3 := Lib.hid (HF1.out.below b3)
  have HZ3 := Lib.hid b3.size
  have HBL3 := Lib.hid (HBL.out.below b3)
  have HX3 := Lib.hid hB3
  have HSL := Lib.hid hEL
  clear hB3 hown3 b3 b2 hown2 hE hEL
  refine (refSum A3 (n + 4) c3 (be4 n ++ l) w3 HX3.out).mono ?_
  rintro e w' ⟨rfl, rfl⟩
  have HREC : Hid (record l = [] ++ [p, q, r, s] ++ be4 (Crc.sum 0 (be4 n ++ l)) ++ l) := Lib.hid (by unfold record; rw [HLH.out, HBE.out]; rfl)
  generalize Crc.sum 0 (be4 n ++ l) = x at *
  have tok3 : True := trivial
  have tok4 : True := trivial
  have tok5 : True := trivial
  go_wp2_with (at_builtin; have _t := tok3; go_loud ((refine wpList_app rfl (.tmp 15) (.tmp 16) 27 rfl w3.heap.size 5 Try.underlying27 byteInfo _ [] rfl (Own.lit 5 w3 [] (Nat.le_refl _) (by simp [maxLen])) _ 4 4 [p, q, r, s] rfl (HF3.out.alloc _) (by simp) (by simp) ?_; intro v4 w4 hown4 hb4 hg4; have b4 := (((Below.refl _ w3).alloc (Nat.le_refl _) _)).trans hb4; clear tok3 hb4 hg4 _t)))
  refine (refFour x w4 hs).mono ?_
  rintro e w' ⟨p2, q2, r2, s2, hbe2, rfl, rfl⟩
  have HBE2 := Lib.hid hbe2
  have HO5 := Lib.hid (hown4.alloc (.cells #[.int .u8 (p2.toNat : Int), .int .u8 (q2.toNat : Int), .int .u8 (r2.toNat : Int), .int .u8 (s2.toNat : Int)] 5))
  have HB4 := Lib.hid b4
  have hz4 := b4.size
  clear hbe2 hown4 b4
  go_wp2_with (first
    | (at_builtin; have _t := tok4; go_loud ((refine wpList_app rfl (.tmp 17) (.tmp 19) 27 rfl w3.heap.size 5 Try.underlying27 byteInfo _ ([] ++ [p, q, r, s]) rfl HO5.out _ 4 4 [p2, q2, r2, s2] rfl (Bs.lit w4 [p2, q2, r2, s2] _ _ _ rfl rfl rfl (by simp [maxLen])) (by simp) (by simp; omega) ?_; intro v5 w5 hown5 hb5 hg5; have b5 := (HB4.out.alloc HB4.out.size _).trans hb5; clear tok4 hb5 hg5 _t)))
    | (at_builtin; have _t := tok5; go_loud ((refine wpList_app rfl (.tmp 20) (.tmp 21) 27 rfl w3.heap.size 5 Try.underlying27 byteInfo _ ([] ++ [p, q, r, s] ++ [p2, q2, r2, s2]) rfl hown5 _ n c l rfl (HBL3.out.below b5) (by simp; omega) b5.size ?_; intro v6 w6 hown6 hb6 hg6; have b6 := b5.trans hb6; clear tok5 hb6 hg6 _t))))
  go_ret
  have e : [] ++ [p, q, r, s] ++ [p2, q2, r2, s2] ++ l = record l := by rw [HREC.out, HBE2.out]
  rw [e] at hown6
  obtain ⟨A7, c7, rfl, hB7, _⟩ := hown6.bs
  have h0 := HB3.out.trans (b6.mono (Nat.le_trans HZ1.out HZ3.out))
  exact ⟨A7, c7, rfl, hB7, by rw [HG0.out]; exact h0⟩

theorem beNum_four (p q r s : UInt8) : (beNum [p, q, r, s] : Int) = (p.toNat : Int) * 16777216 + q.toNat * 65536 + r.toNat * 256 + s.toNat := by
  simp only [beNum, List.foldl_cons, List.foldl_nil]
  omega
theorem record_take {l : List UInt8} (h8 : 8 ≤ l.length) (_hok : okLen (beNum (l.take 4)) = true) (hk : beNum (l.take 4) ≤ l.length - 8) :
    record ((l.drop 8).take (beNum (l.take 4))) = l.take (8 + beNum (l.take 4)) ↔ Crc.sum 0 (l.take 4 ++ (l.drop 8).take (beNum (l.take 4))) = beNum ((l.drop 4).take 4) := by
  have h4 : (l.take 4).length = 4 := by rw [List.length_take]; omega
  have h5 : ((l.drop 4).take 4).length = 4 := by rw [List.length_take, List.length_drop]; omega
  have hl : ((l.drop 8).take (beNum (l.take 4))).length = beNum (l.take 4) := by rw [List.length_take, List.length_drop]; omega
  have hb := be4_beNum h4
  have hs := Crc.sum_lt (s := 0) (l.take 4 ++ (l.drop 8).take (beNum (l.take 4))) (by omega)
  have hsplit : l.take (8 + beNum (l.take 4)) = l.take 4 ++ (l.drop 4).take 4 ++ (l.drop 8).take (beNum (l.take 4)) := by
    have e1 : l.take (8 + beNum (l.take 4)) = l.take 8 ++ (l.drop 8).take (beNum (l.take 4)) := List.take_add
    have e2 : l.take (4 + 4) = l.take 4 ++ (l.drop 4).take 4 := List.take_add
    rw [e1, show 8 = 4 + 4 from rfl, e2]
  have e : record ((l.drop 8).take (beNum (l.take 4))) = l.take 4 ++ be4 (Crc.sum 0 (l.take 4 ++ (l.drop 8).take (beNum (l.take 4)))) ++ (l.drop 8).take (beNum (l.take 4)) := by
    unfold record
    rw [hl, hb]
  rw [hsplit, e]
  constructor
  · intro h
    have h1 := List.append_inj_left (List.append_cancel_right h) rfl
    have h2 : be4 (Crc.sum 0 (l.take 4 ++ (l.drop 8).take (beNum (l.take 4)))) = (l.drop 4).take 4 := List.append_cancel_left (List.append_cancel_right h)
    rw [← h2, beNum_be4 hs]
  · intro h
    rw [h, be4_beNum h5]

set_option maxRecDepth 100000 in
set_option maxHeartbeats 4000000 in
theorem refGet13 (A : Option Addr) (n c : Nat) (l : List UInt8) (w : World) (hB : Bs w A n c l) (hn : n ≤ 2000000000) :
    Calls Try.prog 84 #[.slice A n c] w (RetGN (getGet l) (getLen l) (getErr l) w) := by
  have hlen := hB.len
  have hcm := hB.max
  have hle := hB.le
  by_cases h8 : n < 8
  · have e : getErr l = 7 := by unfold getErr; rw [if_pos (by omega)]
    rw [(get_err e (by omega)).1, (get_err e (by omega)).2, e]
    clear e hlen hB
    go_enter Try.func84, Try.ntmps84
    go_wp2
    go_ret3
    exact RetGN.none (Below.refl _ _)
  obtain ⟨b, o, rfl, hb, _⟩ := hB.at_ (by omega)
  have H4 := Lib.hid (hB.take (j := 4) (by omega))
  have h6 := hB.drop (i := 8) (by omega)
  rw [Option.map_some, Addr.add_lit] at h6
  obtain ⟨k, hk⟩ : ∃ k, n = k + 8 := ⟨n - 8, by omega⟩
  subst hk
  rw [show k + 8 - 8 = k from by omega] at h6
  obtain ⟨R, hR⟩ : ∃ R, (if c = 8 then some (⟨b, o, none⟩ : Addr) else some ⟨b, o + 8, none⟩) = R := ⟨_, rfl⟩
  rw [hR] at h6
  have H6 := Lib.hid h6
  have HB := Lib.hid hB
  obtain ⟨p, q, r, s, h4⟩ := four H4.out.len
  have HH4 : Hid (l.take 4 = [p, q, r, s]) := Lib.hid h4
  have hnum := beNum_four p q r s
  rw [← h4] at hnum
  have HNUM := Lib.hid hnum
  have HE : Hid (getErr l = if okLen (beNum (l.take 4)) = false then 9 else if k < beNum (l.take 4) then 7 else if Crc.sum 0 (l.take 4 ++ (l.drop 8).take (beNum (l.take 4))) = beNum ((l.drop 4).take 4) then 0 else 8) := by
    show getErr l = _
    unfold getErr
    rw [if_neg (by omega), hlen, show k + 8 - 8 = k from by omega]
  have HG : Hid (getErr l = 0 → getGet l = (l.drop 8).take (beNum (l.take 4)) ∧ getLen l = 8 + beNum (l.take 4)) := fun h => ⟨by unfold getGet; rw [if_pos h], by unfold getLen; rw [if_pos h]⟩
  have HRT : Hid (okLen (beNum (l.take 4)) = true → beNum (l.take 4) ≤ k → (record ((l.drop 8).take (beNum (l.take 4))) = l.take (8 + beNum (l.take 4)) ↔ Crc.sum 0 (l.take 4 ++ (l.drop 8).take (beNum (l.take 4))) = beNum ((l.drop 4).take 4))) := Lib.hid (fun h1 h2 => record_take (by omega) h1 (by omega))
  have HN4 := Lib.hid (fun (W : World) (h : Bs W (some ⟨b, o, none⟩) 4 c (l.take 4)) => refNumber (some ⟨b, o, none⟩) c p q r s W (by rw [← h4]; exact h))
  rw [← hnum] at HN4
  generalize beNum (l.take 4) = x at *
  generalize beNum ((l.drop 4).take 4) = y at *
  clear hB h6 h4 hnum hlen
  by_cases hx : okLen x = false
  · have e := HE.out
    rw [if_pos hx] at e
    rw [(get_err e (by omega)).1, (get_err e (by omega)).2, e]
    have HX := okLen_no hx
    clear e hx
    by_cases hx1 : x < 1
    · have hx0 : x = 0 := by omega
      subst hx0
      clear HX hx1
      go_enter Try.func84, Try.ntmps84
      go_wp2_with (fail)
      refine (HN4.out w H4.out).mono ?_
      rintro e w' ⟨rfl, m, rfl⟩
      go_wp2_with (fail)
      go_ret3
      exact RetGN.none (drawN_below (Below.refl _ _) _)
    · have hx2 : 65536 < x := by omega
      clear HX
      go_enter Try.func84, Try.ntmps84
      go_wp2_with (fail)
      refine (HN4.out w H4.out).mono ?_
      rintro e w' ⟨rfl, m, rfl⟩
      go_wp2_with (fail)
      go_ret3
      exact RetGN.none (drawN_below (Below.refl _ _) _)
  have hok : okLen x = true := by cases h : okLen x with
    | true => rfl
    | false => exact absurd h hx
  have hx2 := okLen_yes hok
  have e := HE.out
  rw [if_neg hx] at e
  have hx1 := hx2.1
  have hx3 := hx2.2
  clear hx hx2
  by_cases hk : k < x
  · rw [if_pos hk] at e
    rw [(get_err e (by omega)).1, (get_err e (by omega)).2, e]
    clear e
    go_enter Try.func84, Try.ntmps84
    go_wp2_with (fail)
    refine (HN4.out w H4.out).mono ?_
    rintro e w' ⟨rfl, m, rfl⟩
    go_wp2_with (fail)
    go_ret3
    exact RetGN.none (drawN_below (Below.refl _ _) _)
  rw [if_neg hk] at e
  have hRT := HRT.out hok (by omega)
  have HOK := Lib.hid hok
  obtain ⟨j, hj⟩ : ∃ j, j = 8 + x := ⟨_, rfl⟩
  have HX6 := Lib.hid (H6.out.take (j := x) (by omega))
  have HT := Lib.hid (HB.out.take (j := j) (by omega))
  rw [← hj] at hRT
  have hji : (8 : Int) + (x : Int) = (j : Int) := by omega
  have hjx : j - 8 = x := by omega
  have hj8 : 8 ≤ j := by omega
  have hjc : j ≤ c := by omega
  have hjci : (j : Int) ≤ (c : Int) := by omega
  have hkx : ¬ (k : Int) < (x : Int) := by omega
  have hwj : IntKind.i64.wrap (j : Int) = (j : Int) := IntWalk.i64_in _ (by omega)
  have hj80 : (8 : Int) ≤ (j : Int) := by omega
  have HJ : Hid (j = 8 + x) := Lib.hid hj
  have HKX : Hid (¬ k < x) := Lib.hid hk
  clear hj hk HRT hok
  generalize hX : (l.drop 8).take x = X at *
  generalize hT : l.take j = tk at *
  have HXX := Lib.hid hX
  have HTT := Lib.hid hT
  have HRT := Lib.hid hRT
  have HEE := Lib.hid e
  clear hX hT hRT e
  have HOKK := HOK
  by_cases hs : Crc.sum 0 (l.take 4 ++ X) = y
  · have hrec := HRT.out.2 hs
    have e := HEE.out
    rw [if_pos hs] at e
    have HEE := Lib.hid e
    have hg := HG.out e
    have HG1 := Lib.hid hg
    clear hs e hg
    go_enter Try.func84, Try.ntmps84
    go_wp2_with (fail)
    refine (HN4.out w H4.out).mono ?_
    rintro e w' ⟨rfl, m, rfl⟩
    have HBD : Hid (Below w.heap.size w (w.drewN m)) := Lib.hid (drawN_below (Below.refl _ _) m)
    generalize w.drewN m = w1 at *
    have HZ1 := Lib.hid HBD.out.size
    go_wp2_with (fail)
    refine wp_region_held_drew (S := fun w' => (convert 27 9 (.slice (some ⟨b, o, none⟩) j c)).run Try.prog w' = .ok (.string (txt tk)) w') (by kernel_rfl) ?_ (fun hHeld => ?_)
    · exact ((HT.out.below HBD.out).drew).str (P := Try.prog) 27 5 9 Try.underlying27 Try.underlying5 Try.underlying9
    refine wpAnyH_take (i := 0) (oi := _) (v := ?v1) rfl (by kernel_rfl) (by kernel_rfl) (by kernel_rfl) (fun _ _ _ h => h) (Or.inl ⟨by rfl, ?hy1⟩) hHeld ?rest1
    case hy1 =>
      intro w hSw
      (try dsimp only at hSw)
      go_simp
      (try with_reducible rfl)
    (try simp only [Act.put])
    refine wpAnyH_take (i := 1) (oi := _) (v := ?v2) rfl (by kernel_rfl) (by kernel_rfl) (by kernel_rfl) (fun _ _ _ h => h) (Or.inl ⟨by rfl, ?hy2⟩) hHeld ?rest2
    case hy2 =>
      intro w hSw
      (try dsimp only at hSw)
      go_simp
      (try with_reducible rfl)
    (try simp only [Act.put])
    refine wpAnyH_take (i := 2) (oi := _) (v := ?v3) rfl (by kernel_rfl) (by kernel_rfl) (by kernel_rfl) (fun _ _ _ h => h) (Or.inl ⟨by rfl, ?hy3⟩) hHeld ?rest3
    case hy3 =>
      intro w hSw
      (try dsimp only at hSw)
      go_simp
      (try with_reducible rfl)
    (try simp only [Act.put])
    refine wpAnyH_take (i := 3) (oi := _) (v := ?v4) rfl (by kernel_rfl) (by kernel_rfl) (by kernel_rfl) (fun _ _ _ h => h) (Or.inl ⟨by rfl, ?hy4⟩) hHeld ?rest4
    case hy4 =>
      intro w hSw
      (try dsimp only at hSw)
      go_simp
      (try with_reducible rfl)
    (try simp only [Act.put])
    refine wpAnyH_take (i := 6) (oi := _) (v := ?v5) rfl (by kernel_rfl) (by kernel_rfl) (by kernel_rfl) (fun _ _ _ h => h) (Or.inl ⟨by rfl, ?hy5⟩) hHeld ?rest5
    case hy5 =>
      intro w hSw
      (try dsimp only at hSw)
      go_simp
      (try with_reducible rfl)
    (try simp only [Act.put])
    refine wpAnyH_take (i := 7) (oi := _) (v := ?v6) rfl (by kernel_rfl) (by kernel_rfl) (by kernel_rfl) (fun _ _ _ h => h) (Or.inl ⟨by rfl, ?hy6⟩) hHeld ?rest6
    case hy6 =>
      intro w hSw
      (try dsimp only at hSw)
      go_simp
      (try with_reducible rfl)
    (try simp only [Act.put])
    refine wpAnyH_take (i := 8) (oi := _) (v := ?v7) rfl (by kernel_rfl) (by kernel_rfl) (by kernel_rfl) (fun _ _ _ h => h) (Or.inl ⟨by rfl, ?hy7⟩) hHeld ?rest7
    case hy7 =>
      intro w hSw
      (try dsimp only at hSw)
      go_simp
      (try with_reducible rfl)
    (try simp only [Act.put])
    refine wpAnyH_take (i := 9) (oi := _) (v := ?v8) rfl (by kernel_rfl) (by kernel_rfl) (by kernel_rfl) (fun _ _ _ h => h) (Or.inl ⟨by rfl, ?hy8⟩) hHeld ?rest8
    case hy8 =>
      intro w hSw
      (try dsimp only at hSw)
      go_simp
      (try with_reducible rfl)
    (try simp only [Act.put])
    refine wpAnyH_take (i := 10) (oi := _) (v := ?v9) rfl (by kernel_rfl) (by kernel_rfl) (by kernel_rfl) (fun _ _ _ h => h) (Or.inl ⟨by rfl, ?hy9⟩) hHeld ?rest9
    case hy9 =>
      intro w hSw
      (try dsimp only at hSw)
      go_simp
      (try with_reducible rfl)
    (try simp only [Act.put])
    refine wpAnyH_ready (rs := [4]) (by kernel_rfl) (by simp) (AllReadyH.cons (o := _) rfl (fun K hK => ?_) AllReadyH.nil)
    go_simp
    refine (refPut13 R x (c - 8) X _ ((HX6.out.below HBD.out).drew) (by omega)).mono ?_
    rintro e w2 ⟨A2, c2, rfl, hB2, hb2⟩
    rw [hrec] at hB2 ⊢
    have HB2 : Hid (Below w.heap.size w w2) := Lib.hid ((HBD.out.drew).trans (hb2.mono HZ1.out))
    dsimp only
    refine hK.out _ _ ?_ (fun hHeld => ?_)
    · exact (HT.out.below HB2.out).str (P := Try.prog) 27 5 9 Try.underlying27 Try.underlying5 Try.underlying9
    clear hK K
    have hHeld : (convert 27 9 (.slice (some ⟨b, o, none⟩) j c)).run Try.prog w2 = .ok (.string (txt tk)) w2 ∧ (convert 27 9 (.slice A2 tk.length c2)).run Try.prog w2 = .ok (.string (txt tk)) w2 := ⟨hHeld, hB2.str (P := Try.prog) 27 5 9 Try.underlying27 Try.underlying5 Try.underlying9⟩
    refine wpAnyH_imp (S' := fun w' => (convert 27 9 (.slice (some ⟨b, o, none⟩) j c)).run Try.prog w' = .ok (.string (txt tk)) w' ∧ (convert 27 9 (.slice A2 tk.length c2)).run Try.prog w' = .ok (.string (txt tk)) w') (fun _ h => h.1) _ _ _ _ ?_
    refine wpAnyH_take (i := 5) (oi := _) (v := ?v10) rfl (by kernel_rfl) (by kernel_rfl) (by kernel_rfl) (fun _ _ _ h => h) (Or.inl ⟨by rfl, ?hy10⟩) hHeld ?rest10
    case hy10 =>
      intro w hSw
      (try dsimp only at hSw)
      go_simp
      (try with_reducible rfl)
    (try simp only [Act.put])
    refine wpAnyH_take (i := 11) (oi := _) (v := ?v11) rfl (by kernel_rfl) (by kernel_rfl) (by kernel_rfl) (fun _ _ _ h => h) (Or.inl ⟨by rfl, ?hy11⟩) hHeld ?rest11
    case hy11 =>
      intro w hSw
      (try dsimp only at hSw)
      go_simp
      (try with_reducible rfl)
    (try simp only [Act.put])
    refine wpAnyH_done (by kernel_rfl) ?_ _
    have tok1 : True := trivial
    have hRR : R = some ⟨b, o + 8, none⟩ := by rw [← hR, if_neg (by omega)]
    have HXB := Lib.hid (HX6.out.below HB2.out)
    rw [hRR] at HXB
    clear hRR
    go_wp2_with (at_builtin; have _t := tok1; go_loud ((refine wpList_app rfl (.tmp 35) (.tmp 39) 27 rfl w2.heap.size 5 Try.underlying27 byteInfo _ [] rfl (Own.lit 5 w2 [] (Nat.le_refl _) (by simp [maxLen])) (some ⟨b, o + 8, none⟩) x (c - 8) X rfl (HXB.out.alloc _) (by simp; omega) (by simp) ?_; intro v4 w4 hown4 hb4 hg4; have b4 := (((Below.refl _ w2).alloc (Nat.le_refl _) _)).trans hb4; rw [List.nil_append] at hown4; obtain ⟨A4, c4, rfl, hB4, hlo4⟩ := hown4.bs; clear tok1 hb4 hg4 _t)))
    go_ret3
    rw [HG1.out.1, HG1.out.2, HEE.out]
    exact ⟨A4, c4, by rw [show ((8 + x : Nat) : Int) = (j : Int) from by omega]; rfl, hB4, fun b hb => Nat.le_trans HB2.out.size (hlo4 b hb), HB2.out.trans (b4.mono HB2.out.size)⟩
  · have hrec : (record X == tk) = false := by rw [beq_eq_false_iff_ne]; exact fun h => hs (HRT.out.1 h)
    have e := HEE.out
    rw [if_neg hs] at e
    rw [(get_err e (by omega)).1, (get_err e (by omega)).2, e]
    clear hs e
    go_enter Try.func84, Try.ntmps84
    go_wp2_with (fail)
    refine (HN4.out w H4.out).mono ?_
    rintro e w' ⟨rfl, m, rfl⟩
    have HBD : Hid (Below w.heap.size w (w.drewN m)) := Lib.hid (drawN_below (Below.refl _ _) m)
    generalize w.drewN m = w1 at *
    have HZ1 := Lib.hid HBD.out.size
    go_wp2_with (fail)
    refine wp_region_held_drew (S := fun w' => (convert 27 9 (.slice (some ⟨b, o, none⟩) j c)).run Try.prog w' = .ok (.string (txt tk)) w') (by kernel_rfl) ?_ (fun hHeld => ?_)
    · exact ((HT.out.below HBD.out).drew).str (P := Try.prog) 27 5 9 Try.underlying27 Try.underlying5 Try.underlying9
    refine wpAnyH_take (i := 0) (oi := _) (v := ?v12) rfl (by kernel_rfl) (by kernel_rfl) (by kernel_rfl) (fun _ _ _ h => h) (Or.inl ⟨by rfl, ?hy12⟩) hHeld ?rest12
    case hy12 =>
      intro w hSw
      (try dsimp only at hSw)
      go_simp
      (try with_reducible rfl)
    (try simp only [Act.put])
    refine wpAnyH_take (i := 1) (oi := _) (v := ?v13) rfl (by kernel_rfl) (by kernel_rfl) (by kernel_rfl) (fun _ _ _ h => h) (Or.inl ⟨by rfl, ?hy13⟩) hHeld ?rest13
    case hy13 =>
      intro w hSw
      (try dsimp only at hSw)
      go_simp
      (try with_reducible rfl)
    (try simp only [Act.put])
    refine wpAnyH_take (i := 2) (oi := _) (v := ?v14) rfl (by kernel_rfl) (by kernel_rfl) (by kernel_rfl) (fun _ _ _ h => h) (Or.inl ⟨by rfl, ?hy14⟩) hHeld ?rest14
    case hy14 =>
      intro w hSw
      (try dsimp only at hSw)
      go_simp
      (try with_reducible rfl)
    (try simp only [Act.put])
    refine wpAnyH_take (i := 3) (oi := _) (v := ?v15) rfl (by kernel_rfl) (by kernel_rfl) (by kernel_rfl) (fun _ _ _ h => h) (Or.inl ⟨by rfl, ?hy15⟩) hHeld ?rest15
    case hy15 =>
      intro w hSw
      (try dsimp only at hSw)
      go_simp
      (try with_reducible rfl)
    (try simp only [Act.put])
    refine wpAnyH_take (i := 6) (oi := _) (v := ?v16) rfl (by kernel_rfl) (by kernel_rfl) (by kernel_rfl) (fun _ _ _ h => h) (Or.inl ⟨by rfl, ?hy16⟩) hHeld ?rest16
    case hy16 =>
      intro w hSw
      (try dsimp only at hSw)
      go_simp
      (try with_reducible rfl)
    (try simp only [Act.put])
    refine wpAnyH_take (i := 7) (oi := _) (v := ?v17) rfl (by kernel_rfl) (by kernel_rfl) (by kernel_rfl) (fun _ _ _ h => h) (Or.inl ⟨by rfl, ?hy17⟩) hHeld ?rest17
    case hy17 =>
      intro w hSw
      (try dsimp only at hSw)
      go_simp
      (try with_reducible rfl)
    (try simp only [Act.put])
    refine wpAnyH_take (i := 8) (oi := _) (v := ?v18) rfl (by kernel_rfl) (by kernel_rfl) (by kernel_rfl) (fun _ _ _ h => h) (Or.inl ⟨by rfl, ?hy18⟩) hHeld ?rest18
    case hy18 =>
      intro w hSw
      (try dsimp only at hSw)
      go_simp
      (try with_reducible rfl)
    (try simp only [Act.put])
    refine wpAnyH_take (i := 9) (oi := _) (v := ?v19) rfl (by kernel_rfl) (by kernel_rfl) (by kernel_rfl) (fun _ _ _ h => h) (Or.inl ⟨by rfl, ?hy19⟩) hHeld ?rest19
    case hy19 =>
      intro w hSw
      (try dsimp only at hSw)
      go_simp
      (try with_reducible rfl)
    (try simp only [Act.put])
    refine wpAnyH_take (i := 10) (oi := _) (v := ?v20) rfl (by kernel_rfl) (by kernel_rfl) (by kernel_rfl) (fun _ _ _ h => h) (Or.inl ⟨by rfl, ?hy20⟩) hHeld ?rest20
    case hy20 =>
      intro w hSw
      (try dsimp only at hSw)
      go_simp
      (try with_reducible rfl)
    (try simp only [Act.put])
    refine wpAnyH_ready (rs := [4]) (by kernel_rfl) (by simp) (AllReadyH.cons (o := _) rfl (fun K hK => ?_) AllReadyH.nil)
    go_simp
    refine (refPut13 R x (c - 8) X _ ((HX6.out.below HBD.out).drew) (by omega)).mono ?_
    rintro e w2 ⟨A2, c2, rfl, hB2, hb2⟩
    have HB2 : Hid (Below w.heap.size w w2) := Lib.hid ((HBD.out.drew).trans (hb2.mono HZ1.out))
    dsimp only
    refine hK.out _ _ ?_ (fun hHeld => ?_)
    · exact (HT.out.below HB2.out).str (P := Try.prog) 27 5 9 Try.underlying27 Try.underlying5 Try.underlying9
    clear hK K
    have hHeld : (convert 27 9 (.slice (some ⟨b, o, none⟩) j c)).run Try.prog w2 = .ok (.string (txt tk)) w2 ∧ (convert 27 9 (.slice A2 (record X).length c2)).run Try.prog w2 = .ok (.string (txt (record X))) w2 := ⟨hHeld, hB2.str (P := Try.prog) 27 5 9 Try.underlying27 Try.underlying5 Try.underlying9⟩
    refine wpAnyH_imp (S' := fun w' => (convert 27 9 (.slice (some ⟨b, o, none⟩) j c)).run Try.prog w' = .ok (.string (txt tk)) w' ∧ (convert 27 9 (.slice A2 (record X).length c2)).run Try.prog w' = .ok (.string (txt (record X))) w') (fun _ h => h.1) _ _ _ _ ?_
    refine wpAnyH_take (i := 5) (oi := _) (v := ?v21) rfl (by kernel_rfl) (by kernel_rfl) (by kernel_rfl) (fun _ _ _ h => h) (Or.inl ⟨by rfl, ?hy21⟩) hHeld ?rest21
    case hy21 =>
      intro w hSw
      (try dsimp only at hSw)
      go_simp
      (try with_reducible rfl)
    (try simp only [Act.put])
    refine wpAnyH_take (i := 11) (oi := _) (v := ?v22) rfl (by kernel_rfl) (by kernel_rfl) (by kernel_rfl) (fun _ _ _ h => h) (Or.inl ⟨by rfl, ?hy22⟩) hHeld ?rest22
    case hy22 =>
      intro w hSw
      (try dsimp only at hSw)
      go_simp
      (try with_reducible rfl)
    (try simp only [Act.put])
    refine wpAnyH_done (by kernel_rfl) ?_ _
    go_wp2_with (fail)
    go_ret3
    exact RetGN.none HB2.out
end Go.Proofs.Ythblbmbefhlbjaa
/- Maps in memory, as lists of keys and values: look-up, store, delete, range. No condition. -/
namespace Go.Proofs.Ythblbmbefhlbjaa
open Go.RowKit Go.MapKept

/-- keys of one kind -/
structure KeyK (P : Program) (k : TypeId) (κ : Type) [DecidableEq κ] (kv : κ → Value) where
  d : TypeDesc
  und : P.underlying k = some d
  key : ∀ a, IsKey d (kv a)
  same : ∀ a b, Instr.sameNow d (kv a) (kv b) = some (decide (a = b))
  bits : ∀ a, Instr.sameBits 10000 (kv a) (kv a) = true
noncomputable def keyString {P : Program} {k : TypeId} (h : P.underlying k = some .string) : KeyK P k ByteArray .string :=
  ⟨.string, h, fun _ => trivial, fun a b => by simp only [Instr.sameNow, Option.some.injEq]; rw [Bool.eq_iff_iff, bytes_beq, decide_eq_true_iff], fun a => by simp only [Instr.sameBits]; exact (bytes_beq a a).2 rfl⟩
theorem modify_at {α : Type} (f : α → α) : ∀ (l : List α) (j : Nat) (h : j < l.length), l.modify j f = l.set j (f l[j])
  | _ :: _, 0, _ => rfl
  | a :: l, j + 1, h => by
    have := modify_at f l j (by simpa using h)
    simp [this]
/-- the list's words -/
def aget {κ : Type} [DecidableEq κ] : List (κ × Value) → κ → Option Value
  | [], _ => none
  | (a, v) :: r, k => if k = a then some v else aget r k
def aidx {κ : Type} [DecidableEq κ] : List (κ × Value) → κ → Option Nat
  | [], _ => none
  | (a, _) :: r, k => if k = a then some 0 else (aidx r k).map (· + 1)
def aset {κ : Type} [DecidableEq κ] : List (κ × Value) → κ → Value → List (κ × Value)
  | [], k, v => [(k, v)]
  | (a, u) :: r, k, v => if k = a then (k, v) :: r else (a, u) :: aset r k v
/-- block M is a map that reads as L -/
def MapIs {κ : Type} (kv : κ → Value) (w : World) (M : Nat) (L : List (κ × Value)) : Prop :=
  ∃ es clock, w.heap[M]? = some (.map es clock) ∧ es.toList.map (fun e => (e.key, e.val)) = L.map (fun p => (kv p.1, p.2)) ∧ (∀ x ∈ es.toList, x.born < clock) ∧ (es.toList.map (·.born)).Nodup

section
variable {P : Program} {k : TypeId} {κ : Type} [DecidableEq κ] {kv : κ → Value}
theorem findNow_list (K : KeyK P k κ kv) (x : κ) : ∀ (es : List MapEntry) (L : List (κ × Value)) (i : Nat), es.map (fun e => (e.key, e.val)) = L.map (fun p => (kv p.1, p.2)) →
    Instr.findNow K.d (kv x) es i = some (match aidx L x, aget L x with | some j, some v => some (i + j, v) | _, _ => none)
  | [], [], _, _ => rfl
  | [], _ :: _, _, h => by cases h
  | _ :: _, [], _, h => by cases h
  | e :: es, (a, v) :: L, i, h => by
    simp only [List.map_cons, List.cons.injEq, Prod.mk.injEq] at h
    obtain ⟨⟨h1, h2⟩, h3⟩ := h
    rw [Instr.findNow, h1, K.same]
    by_cases hx : x = a
    · simp [hx, aidx, aget, h2]
    · have ih := findNow_list K x es L (i + 1) h3
      simp only [hx, decide_false, aidx, aget, if_false, ih]
      cases aidx L x <;> cases aget L x <;> simp
      omega
theorem aidx_aget (L : List (κ × Value)) (x : κ) : (aidx L x = none ↔ aget L x = none) := by
  induction L with
  | nil => simp [aidx, aget]
  | cons p r ih =>
    obtain ⟨a, v⟩ := p
    by_cases h : x = a
    · simp [aidx, aget, h]
    · simp [aidx, aget, h, ih]
theorem run_find (K : KeyK P k κ kv) (w : World) (x : κ) (es : List MapEntry) (L : List (κ × Value)) (h : es.map (fun e => (e.key, e.val)) = L.map (fun p => (kv p.1, p.2))) :
    (Instr.findKey k (kv x) es).run P w = .ok (match aidx L x, aget L x with | some j, some v => some (j, v) | _, _ => none) w := by
  have := findNow_list K x es L 0 h
  simp only [Nat.zero_add] at this
  exact run_findKey K.und this
/-- 'm[x]' -/
theorem run_lookupL (K : KeyK P k κ kv) (T e : TypeId) (ht : P.underlying T = some (.map k e)) (w : World) (M : Nat) (L : List (κ × Value)) (h : MapIs kv w M L) (x : κ) (z : Value) (hz : (zeroValue e).run P w = .ok z w) (ok : Bool) :
    (Instr.lookup T (.map (some M)) (kv x) ok).run P w = .ok (if ok then .tuple #[(aget L x).getD z, .bool (aget L x).isSome] else (aget L x).getD z) w := by
  obtain ⟨es, clock, hb, hL, _, _⟩ := h
  have hf := run_find K w x es.toList L hL
  have hc : (Instr.checkKey es.isEmpty 10000 k (kv x)).run P w = .ok () w := run_checkKey (w := w) (e := es.isEmpty) (n := 9999) K.und (K.key x)
  unfold Instr.lookup
  simp only [Sem.run_bind, run_underlying ht, Result.andThen_ok, Go.MapKept.run_getObj_map hb, Sem.run_pure, hc, hf]
  have ha := aidx_aget L x
  cases h1 : aidx L x with
  | none =>
    have h2 := ha.1 h1
    simp [h2, hz, Result.andThen]
  | some j =>
    cases h2 : aget L x with
    | none => rw [ha.2 h2] at h1; cases h1
    | some v => simp
/-- block M anew -/
abbrev reblock (w : World) (M : Nat) (o : Obj) : World := { w with heap := w.heap.setIfInBounds M o }
theorem reblock_row {w : World} {M : Nat} {o o' : Obj} (h : w.heap[M]? = some o) : (reblock w M o').heap[M]? = some o' := (heap_set h).1
theorem reblock_ch {w : World} {M : Nat} {o o' : Obj} (h : w.heap[M]? = some o) : Ch (fun j => j = M) w (reblock w M o') :=
  ⟨rfl, rfl, rfl, by simp, fun j _ hj => (heap_set h).2 j hj⟩
theorem reblock_size (w : World) (M : Nat) (o : Obj) : (reblock w M o).heap.size = w.heap.size := by simp

theorem aidx_set (L : List (κ × Value)) (x : κ) (v : Value) : (∀ j, aidx L x = some j → j < L.length ∧ (L.map (fun p => (kv p.1, p.2))).set j (kv x, v) = (aset L x v).map (fun p => (kv p.1, p.2))) ∧ (aidx L x = none → aset L x v = L ++ [(x, v)]) := by
  induction L with
  | nil => exact ⟨fun j h => by simp [aidx] at h, fun _ => rfl⟩
  | cons p r ih =>
    obtain ⟨a, u⟩ := p
    by_cases h : x = a
    · refine ⟨fun j hj => ?_, fun hj => by simp [aidx, h] at hj⟩
      simp only [aidx, h, if_true, Option.some.injEq] at hj
      subst hj
      simp [aset, h]
    · refine ⟨fun j hj => ?_, fun hj => ?_⟩
      · simp only [aidx, h, if_false, Option.map_eq_some_iff] at hj
        obtain ⟨i, hi, rfl⟩ := hj
        obtain ⟨h1, h2⟩ := ih.1 i hi
        exact ⟨by simp; omega, by simp [aset, h, h2]⟩
      · simp only [aidx, h, if_false, Option.map_eq_none_iff] at hj
        simp [aset, h, ih.2 hj]
/-- 'm[x] = v' -/
theorem run_updateL (K : KeyK P k κ kv) (T e : TypeId) (ht : P.underlying T = some (.map k e)) (w : World) (M : Nat) (L : List (κ × Value)) (h : MapIs kv w M L) (x : κ) (v : Value) :
    ∃ w', (Instr.mapUpdate T (.map (some M)) (kv x) v).run P w = .ok () w' ∧ MapIs kv w' M (aset L x v) ∧ Ch (fun j => j = M) w w' ∧ w'.heap.size = w.heap.size := by
  obtain ⟨es, clock, hb, hL, hbo, hnd⟩ := h
  have hf := run_find K w x es.toList L hL
  have hc : (Instr.checkKey false 10000 k (kv x)).run P w = .ok () w := run_checkKey (w := w) (e := false) (n := 9999) K.und (K.key x)
  have hs := aidx_set (kv := kv) L x v
  have hlen : es.toList.length = L.length := by have := congrArg List.length hL; simpa using this
  have ha := aidx_aget L x
  cases h1 : aidx L x with
  | none =>
    have h2 := ha.1 h1
    rw [h1] at hf
    refine ⟨reblock w M (.map (es.push { key := kv x, val := v, born := clock }) (clock + 1)), ?_, ⟨_, _, reblock_row hb, ?_, ?_, ?_⟩, reblock_ch hb, reblock_size _ _ _⟩
    · unfold Instr.mapUpdate
      simp only [Sem.run_bind, run_underlying ht, Result.andThen_ok, Go.MapKept.run_getObj_map hb, hc, hf]
      exact Go.MapKept.run_setObj_map _ hb
    · rw [hs.2 h1]
      simp [hL]
    · intro y hy
      simp only [Array.toList_push, List.mem_append, List.mem_singleton] at hy
      rcases hy with hy | rfl
      · have := hbo y hy; omega
      · exact Nat.lt_succ_self _
    · simp only [Array.toList_push, List.map_append, List.map_cons, List.map_nil]
      rw [List.nodup_append]
      refine ⟨hnd, by simp, fun a hm b hb' => ?_⟩
      obtain ⟨y, hy, rfl⟩ := List.mem_map.1 hm
      simp only [List.mem_singleton] at hb'
      have := hbo y hy
      omega
  | some j =>
    cases h2 : aget L x with
    | none => rw [ha.2 h2] at h1; cases h1
    | some u =>
      rw [h1, h2] at hf
      obtain ⟨hj, hset⟩ := hs.1 j h1
      have hjs : j < es.size := by have : es.size = es.toList.length := by simp
                                   omega
      have hkey : ((es[j]?).map (·.key)).getD (kv x) = kv x := by
        have e1 : (es.toList.map (fun e => (e.key, e.val)))[j]? = (L.map (fun p => (kv p.1, p.2)))[j]? := by rw [hL]
        rw [List.getElem?_map, List.getElem?_map] at e1
        have e2 : es.toList[j]? = es[j]? := by simp
        rw [e2, Array.getElem?_eq_getElem hjs] at e1
        have e3 : ∀ (L : List (κ × Value)) (j : Nat), aidx L x = some j → ∃ u, L[j]? = some (x, u) := by
          intro L
          induction L with
          | nil => intro j h; simp [aidx] at h
          | cons p r ih =>
            intro j h
            obtain ⟨a, u⟩ := p
            by_cases hx : x = a
            · simp only [aidx, hx, if_true, Option.some.injEq] at h
              subst h
              exact ⟨u, by simp [hx]⟩
            · simp only [aidx, hx, if_false, Option.map_eq_some_iff] at h
              obtain ⟨i, hi, rfl⟩ := h
              obtain ⟨u', hu⟩ := ih i hi
              exact ⟨u', by simpa using hu⟩
        obtain ⟨u', hu⟩ := e3 L j h1
        rw [hu] at e1
        simp only [Option.map_some, Option.some.injEq, Prod.mk.injEq] at e1
        rw [Array.getElem?_eq_getElem hjs]
        simp [e1.1]
      have hks : (Instr.keyThatStays (kv x) (kv x)).run P w = .ok (kv x) w := by unfold Instr.keyThatStays; rw [if_pos (K.bits x)]; rfl
      refine ⟨reblock w M (.map (es.modify j fun e => { e with key := kv x, val := v }) clock), ?_, ⟨_, _, reblock_row hb, ?_, ?_, ?_⟩, reblock_ch hb, reblock_size _ _ _⟩
      · unfold Instr.mapUpdate
        simp only [Sem.run_bind, run_underlying ht, Result.andThen_ok, Go.MapKept.run_getObj_map hb, hc, hf, hkey, hks]
        exact Go.MapKept.run_setObj_map _ hb
      · rw [← hset, ← hL]
        rw [Array.toList_modify, modify_at _ _ _ (by simpa using hjs)]
        simp [List.map_set]
      · intro y hy
        rw [Array.toList_modify, modify_at _ _ _ (by simpa using hjs)] at hy
        rcases List.mem_or_eq_of_mem_set hy with hy | rfl
        · exact hbo y hy
        · exact hbo es.toList[j] (List.getElem_mem _)
      · rw [Array.toList_modify, modify_at _ _ _ (by simpa using hjs)]
        simp only [List.map_set]
        have e3 : (es.toList.map (·.born)).set j es.toList[j].born = es.toList.map (·.born) := by
          apply List.ext_getElem (by simp)
          intro i h3 h4
          rw [List.getElem_set]
          split
          · subst j; simp
          · rfl
        rw [e3]
        exact hnd
end
end Go.Proofs.Ythblbmbefhlbjaa
/- Maps in memory: the laws at the operations. No condition. -/
namespace Go.Proofs.Ythblbmbefhlbjaa
open Go.RowKit Go.MapKept

theorem MapIs.new {κ : Type} (kv : κ → Value) (w : World) : MapIs kv (w.alloc (.map #[] 0)) w.heap.size [] := ⟨#[], 0, heap_alloc_new w _, rfl, (fun x hx => by cases hx), List.nodup_nil⟩
theorem MapIs.lt {κ : Type} {kv : κ → Value} {w : World} {M : Nat} {L : List (κ × Value)} (h : MapIs kv w M L) : M < w.heap.size := by
  obtain ⟨es, clock, hb, _⟩ := h
  exact (Array.getElem?_eq_some_iff.1 hb).1
theorem MapIs.row {κ : Type} {kv : κ → Value} {w w' : World} {M : Nat} {L : List (κ × Value)} (h : MapIs kv w M L) (hr : w'.heap[M]? = w.heap[M]?) : MapIs kv w' M L := by
  obtain ⟨es, clock, hb, h1⟩ := h
  exact ⟨es, clock, hr.trans hb, h1⟩
theorem MapIs.ch {κ : Type} {kv : κ → Value} {S : Nat → Prop} {w w' : World} {M : Nat} {L : List (κ × Value)} (h : MapIs kv w M L) (c : Ch S w w') (hn : ¬ S M) : MapIs kv w' M L := h.row (c.block M h.lt hn)
theorem MapIs.below {κ : Type} {kv : κ → Value} {w w' : World} {M : Nat} {L : List (κ × Value)} (h : MapIs kv w M L) (hb : Below w.heap.size w w') : MapIs kv w' M L := h.row (hb.block M h.lt)
/-- a map is no cells -/
theorem MapIs.ne {κ : Type} {kv : κ → Value} {w : World} {M g : Nat} {L : List (κ × Value)} {c : Array Value} {t : TypeId} {f : Nat × Nat} (h : MapIs kv w M L) (hg : w.heap[g]? = some (.cells c t f)) : M ≠ g := fun e => by
  obtain ⟨es, clock, hb, _⟩ := h
  rw [e, hg] at hb
  cases hb

section
variable {P : Program} {k : TypeId} {κ : Type} [DecidableEq κ] {kv : κ → Value} {w : World} {ops : Array Oper} {rest : List Oper} {o : Oper} {a : Act} {Q : Exit → Act → World → Prop}
theorem wpList_lookupL (hg : o.guard = none) (K : KeyK P k κ kv) (m x : Operand) (T e : TypeId) (ok : Bool) (hop : o.op = Op.lookup T m x ok) (ht : P.underlying T = some (.map k e)) (M : Nat) (L : List (κ × Value)) (hm : a.eval m = .map (some M)) (h : MapIs kv w M L) (key : κ) (hx : a.eval x = kv key) (z : Value) (hz : (zeroValue e).run P w = .ok z w)
    (hK : wpList P ops Q rest (a.put o.dst (if ok then .tuple #[(aget L key).getD z, .bool (aget L key).isSome] else (aget L key).getD z)) w) : wpList P ops Q (o :: rest) a w := by
  refine wpList_plain hg fun K' hK' => ?_
  have hrun := run_lookupL K T e ht w M L h key z hz ok
  unfold Oper.wp
  simp only [execOp, hop, hm, hx, Sem.run_bind, hrun, Result.andThen_ok, Sem.run_pure]
  exact hK' _ _ hK
theorem wpList_updateL (hg : o.guard = none) (K : KeyK P k κ kv) (m x v : Operand) (T e : TypeId) (hop : o.op = Op.mapUpdate T m x v ∨ o.op = Op.insert T m x v) (ht : P.underlying T = some (.map k e)) (M : Nat) (L : List (κ × Value)) (hm : a.eval m = .map (some M)) (h : MapIs kv w M L) (key : κ) (hx : a.eval x = kv key) (u : Value) (hv : a.eval v = u)
    (hK : ∀ w', MapIs kv w' M (aset L key u) → Ch (fun j => j = M) w w' → w'.heap.size = w.heap.size → wpList P ops Q rest (a.put o.dst undef) w') : wpList P ops Q (o :: rest) a w := by
  refine wpList_plain hg fun K' hK' => ?_
  obtain ⟨w', hrun, h1, h2, h3⟩ := run_updateL K T e ht w M L h key u
  unfold Oper.wp
  rcases hop with hop | hop
  · simp only [execOp, hop, hm, hx, hv, Sem.run_bind, hrun, Result.andThen_ok, Sem.run_pure]
    exact hK' _ _ (hK w' h1 h2 h3)
  · simp only [execOp, hop, hm, hx, hv, Sem.run_bind, hrun, Result.andThen_ok, Sem.run_pure]
    exact hK' _ _ (hK w' h1 h2 h3)
end
end Go.Proofs.Ythblbmbefhlbjaa
/- Maps in memory: ranges, in whatever order. No condition. -/
namespace Go.Proofs.Ythblbmbefhlbjaa
open Go.RowKit Go.MapKept Go.ChangeMaps

/-- iterator I ranges over map M, which reads as L; those of left are still to come -/
def Rng {κ : Type} (kv : κ → Value) (w : World) (M I : Nat) (L left : List (κ × Value)) : Prop :=
  ∃ es clock since seen c0, w.heap[M]? = some (.map es clock) ∧ es.toList.map (fun e => (e.key, e.val)) = L.map (fun p => (kv p.1, p.2)) ∧ (∀ x ∈ es.toList, x.born < clock) ∧ (es.toList.map (·.born)).Nodup ∧
    w.heap[I]? = some (.mapIter (some M) since seen c0) ∧ (∀ x ∈ es.toList, x.born < since) ∧ since ≤ c0 ∧ since ≤ clock ∧ (leftOf es seen).toList.map (fun e => (e.key, e.val)) = left.map (fun p => (kv p.1, p.2))
section
variable {κ : Type} {kv : κ → Value} {w w' : World} {M I : Nat} {L left : List (κ × Value)}
theorem Rng.map (h : Rng kv w M I L left) : MapIs kv w M L := by
  obtain ⟨es, clock, since, seen, c0, h1, h2, h3, h4, _⟩ := h
  exact ⟨es, clock, h1, h2, h3, h4⟩
theorem Rng.lt (h : Rng kv w M I L left) : I < w.heap.size := by
  obtain ⟨es, clock, since, seen, c0, _, _, _, _, h5, _⟩ := h
  exact (Array.getElem?_eq_some_iff.1 h5).1
theorem Rng.ch {S : Nat → Prop} (h : Rng kv w M I L left) (c : Ch S w w') (h1 : ¬ S M) (h2 : ¬ S I) : Rng kv w' M I L left := by
  obtain ⟨es, clock, since, seen, c0, a1, a2, a3, a4, a5, a6⟩ := h
  exact ⟨es, clock, since, seen, c0, c.row a1 h1, a2, a3, a4, c.row a5 h2, a6⟩
theorem Rng.below (h : Rng kv w M I L left) (hb : Below w.heap.size w w') : Rng kv w' M I L left := h.ch (Ch.of_below (S := fun _ => False) hb) (fun h => h) (fun h => h)
/-- an iterator is no cells -/
theorem Rng.ne {g : Nat} {c : Array Value} {t : TypeId} {f : Nat × Nat} (h : Rng kv w M I L left) (hg : w.heap[g]? = some (.cells c t f)) : I ≠ g := fun e => by
  obtain ⟨es, clock, since, seen, c0, _, _, _, _, a5, _⟩ := h
  rw [e, hg] at a5
  cases a5
theorem Rng.neM {M2 : Nat} {κ2 : Type} {kv2 : κ2 → Value} {L2 : List (κ2 × Value)} (h : Rng kv w M I L left) (hm : MapIs kv2 w M2 L2) : I ≠ M2 := fun e => by
  obtain ⟨es, clock, since, seen, c0, _, _, _, _, a5, _⟩ := h
  obtain ⟨es2, clock2, hb, _⟩ := hm
  rw [e, hb] at a5
  cases a5
theorem filter_born {pre post : List MapEntry} {e : MapEntry} (h : ((pre ++ e :: post).map (·.born)).Nodup) : (pre ++ e :: post).filter (fun x => x.born != e.born) = pre ++ post := by
  rw [List.map_append, List.map_cons, List.nodup_append] at h
  obtain ⟨_, h2, h3⟩ := h
  rw [List.nodup_cons] at h2
  have h1 : pre.filter (fun x => x.born != e.born) = pre := List.filter_eq_self.2 (fun x hx => by
    have := h3 x.born (List.mem_map.2 ⟨x, hx, rfl⟩) e.born (by simp)
    simpa using this)
  have h4 : post.filter (fun x => x.born != e.born) = post := List.filter_eq_self.2 (fun x hx => by
    have : e.born ≠ x.born := fun he => h2.1 (by rw [he]; exact List.mem_map.2 ⟨x, hx, rfl⟩)
    simpa using this.symm)
  rw [List.filter_append, h1, List.filter_cons, h4]
  simp
theorem map_split {α β : Type} (f : α → β) : ∀ (pre : List β) (e : β) (post : List β) (l : List α), l.map f = pre ++ e :: post → ∃ lp x lq, l = lp ++ x :: lq ∧ lp.map f = pre ∧ f x = e ∧ lq.map f = post
  | [], e, post, [], h => by simp at h
  | [], e, post, a :: l, h => by
    simp only [List.map_cons, List.nil_append, List.cons.injEq] at h
    exact ⟨[], a, l, rfl, rfl, h.1, h.2⟩
  | p :: pre, e, post, [], h => by simp at h
  | p :: pre, e, post, a :: l, h => by
    simp only [List.map_cons, List.cons_append, List.cons.injEq] at h
    obtain ⟨lp, x, lq, h1, h2, h3, h4⟩ := map_split f pre e post l h.2
    exact ⟨a :: lp, x, lq, by rw [h1]; rfl, by simp [h.1, h2], h3, h4⟩
theorem run_rangeL {P : Program} {k e T : TypeId} (ht : P.underlying T = some (.map k e)) (h : MapIs kv w M L) :
    ∃ w', (Instr.range T (.map (some M))).run P w = .ok (.pointer (some ⟨w.heap.size, 0, none⟩)) w' ∧ Rng kv w' M w.heap.size L L ∧ Below w.heap.size w w' ∧ w'.heap.size = w.heap.size + 1 := by
  obtain ⟨es, clock, hb, h1, h2, h3⟩ := h
  have hbl : Below w.heap.size w (w.alloc (.mapIter (some M) clock #[] clock)) := (Below.refl _ _).alloc (Nat.le_refl _) _
  refine ⟨w.alloc (.mapIter (some M) clock #[] clock), ?_, ⟨es, clock, clock, #[], clock, (hbl.block M (Array.getElem?_eq_some_iff.1 hb).1).trans hb, h1, h2, h3, heap_alloc_new w _, h2, Nat.le_refl _, Nat.le_refl _, ?_⟩, hbl, by simp⟩
  · unfold Instr.range
    simp [Sem.run_bind, run_underlying ht, Result.andThen_ok, Go.MapKept.run_getObj_map hb, newObj, Sem.run]
  · rw [← h1]
    unfold leftOf
    rw [Array.toList_filter, List.filter_eq_self.2 (fun _ _ => by simp)]
theorem run_nextL {P : Program} (ty : TypeId) (h : Rng kv w M I L left) :
    (left = [] ∧ (Instr.next (.pointer (some ⟨I, 0, none⟩)) false ty).run P w = .ok (.tuple #[.bool false]) w) ∨
    ∃ lp key v lq w', left = lp ++ (key, v) :: lq ∧ (Instr.next (.pointer (some ⟨I, 0, none⟩)) false ty).run P w = .ok (.tuple #[.bool true, kv key, v]) w' ∧ Rng kv w' M I L (lp ++ lq) ∧ Ch (fun j => j = I) w w' ∧ w'.heap.size = w.heap.size ∧
      (Instr.entry (.pointer (some ⟨I, 0, none⟩))).run P w' = .ok (.tuple #[kv key, v]) w' := by
  obtain ⟨es, clock, since, seen, c0, a1, a2, a3, a4, a5, a6, a7, a9, a8⟩ := h
  rcases run_next_at (P := P) w ty I M since c0 seen es clock a5 a1 a6 a7 with ⟨h0, hrun⟩ | ⟨e, he, w1, hw1, hrun⟩
  · left
    refine ⟨?_, hrun⟩
    have : left.length = 0 := by
      have := congrArg List.length a8
      simp only [List.length_map] at this
      rw [← this]
      simpa using h0
    exact List.eq_nil_of_length_eq_zero this
  · right
    obtain ⟨pre, post, hpp⟩ := List.append_of_mem he
    have hm : left.map (fun p => (kv p.1, p.2)) = pre.map (fun e => (e.key, e.val)) ++ (e.key, e.val) :: post.map (fun e => (e.key, e.val)) := by rw [← a8, hpp]; simp
    obtain ⟨lp, ⟨key, v⟩, lq, h1, h2, h3, h4⟩ := map_split (fun p : κ × Value => (kv p.1, p.2)) _ _ _ left hm
    simp only [Prod.mk.injEq] at h3
    have hes : e ∈ es.toList := by
      unfold leftOf at he
      simp at he
      simpa using he.1
    have hsub : ((pre ++ e :: post).map (·.born)).Nodup := by
      rw [← hpp]
      unfold leftOf
      rw [Array.toList_filter]
      exact a4.sublist ((List.filter_sublist).map _)
    have hleft : (leftOf es (seen.push e.born)).toList = pre ++ post := by
      rw [← filter_born hsub, ← hpp]
      unfold leftOf
      rw [Array.toList_filter, Array.toList_filter, List.filter_filter]
      apply List.filter_congr
      intro x _
      simp only [Array.contains_push]
      cases hx : seen.contains x.born <;> simp [bne]
    have hI1 : w1.heap[I]? = some (.mapIter (some M) since seen c0) := by rcases hw1 with rfl | rfl <;> exact a5
    have hM1 : w1.heap[M]? = some (.map es clock) := by rcases hw1 with rfl | rfl <;> exact a1
    have hIM : M ≠ I := fun e => by rw [e, a5] at a1; cases a1
    have hset := heap_set (o' := Obj.mapIter (some M) since (seen.push e.born) clock) hI1
    have hM2 : (setBlock w1 I (.mapIter (some M) since (seen.push e.born) clock)).heap[M]? = some (.map es clock) := (hset.2 M hIM).trans hM1
    have hI2 : (setBlock w1 I (.mapIter (some M) since (seen.push e.born) clock)).heap[I]? = some (.mapIter (some M) since (seen.push e.born) clock) := hset.1
    refine ⟨lp, key, v, lq, setBlock w1 I (.mapIter (some M) since (seen.push e.born) clock), h1, ?_, ⟨es, clock, since, seen.push e.born, clock, hM2, a2, a3, a4, hI2, a6, a9, a9, ?_⟩, ?_, ?_, ?_⟩
    · rw [hrun, h3.1, h3.2]
    · rw [hleft]; simp [h2, h4]
    · have h5 : Ch (fun j => j = I) w1 (setBlock w1 I (.mapIter (some M) since (seen.push e.born) clock)) := ⟨rfl, rfl, rfl, by simp [setBlock], fun j _ hj => hset.2 j hj⟩
      rcases hw1 with rfl | rfl
      · exact h5
      · exact ⟨h5.os, h5.tape, h5.output, h5.size, h5.block⟩
    · rcases hw1 with rfl | rfl <;> simp [setBlock]
    · rw [h3.1, h3.2]
      exact run_entry_at _ I M since seen es clock e hI2 hM2 hes a4
/-- how many are still to come -/
def rngLeft (M I : Nat) (w : World) : Nat :=
  match w.heap[M]?, w.heap[I]? with
  | some (.map es _), some (.mapIter _ _ seen _) => (leftOf es seen).size
  | _, _ => 0
theorem Rng.left_eq (h : Rng kv w M I L left) : rngLeft M I w = left.length := by
  obtain ⟨es, clock, since, seen, c0, a1, _, _, _, a5, _, _, _, a8⟩ := h
  unfold rngLeft
  rw [a1, a5]
  have := congrArg List.length a8
  simpa using this
theorem wpList_rangeL {P : Program} {ops : Array Oper} {rest : List Oper} {o : Oper} {a : Act} {Q : Exit → Act → World → Prop} {k e : TypeId} (hg : o.guard = none) (m : Operand) (T : TypeId) (hop : o.op = Op.range T m) (ht : P.underlying T = some (.map k e)) (M : Nat) (L : List (κ × Value)) (hm : a.eval m = .map (some M)) (h : MapIs kv w M L)
    (hK : ∀ w', Rng kv w' M w.heap.size L L → Below w.heap.size w w' → w'.heap.size = w.heap.size + 1 → wpList P ops Q rest (a.put o.dst (.pointer (some ⟨w.heap.size, 0, none⟩))) w') : wpList P ops Q (o :: rest) a w := by
  refine wpList_plain hg fun K' hK' => ?_
  obtain ⟨w', hrun, r1, r2, r3⟩ := run_rangeL ht h
  unfold Oper.wp
  simp only [execOp, hop, hm, Sem.run_bind, hrun, Result.andThen_ok, Sem.run_pure]
  exact hK' _ _ (hK w' r1 r2 r3)
theorem wpList_nextL {P : Program} {ops : Array Oper} {rest : List Oper} {o : Oper} {a : Act} {Q : Exit → Act → World → Prop} (hg : o.guard = none) (it : Operand) (hop : o.op = Op.next it false) (M I : Nat) (L left : List (κ × Value)) (hit : a.eval it = .pointer (some ⟨I, 0, none⟩)) (h : Rng kv w M I L left)
    (hDone : left = [] → wpList P ops Q rest (a.put o.dst (.tuple #[.bool false])) w)
    (hMore : ∀ lp key v lq w', left = lp ++ (key, v) :: lq → Rng kv w' M I L (lp ++ lq) → Ch (fun j => j = I) w w' → w'.heap.size = w.heap.size → (Instr.entry (.pointer (some ⟨I, 0, none⟩))).run P w' = .ok (.tuple #[kv key, v]) w' → wpList P ops Q rest (a.put o.dst (.tuple #[.bool true, kv key, v])) w') : wpList P ops Q (o :: rest) a w := by
  refine wpList_plain hg fun K' hK' => ?_
  unfold Oper.wp
  rcases run_nextL (P := P) o.type h with ⟨h0, hrun⟩ | ⟨lp, key, v, lq, w', h1, hrun, h2, h3, h4, h5⟩
  · simp only [execOp, hop, hit, Sem.run_bind, hrun, Result.andThen_ok, Sem.run_pure]
    exact hK' _ _ (hDone h0)
  · simp only [execOp, hop, hit, Sem.run_bind, hrun, Result.andThen_ok, Sem.run_pure]
    exact hK' _ _ (hMore lp key v lq w' h1 h2 h3 h4 h5)
theorem wpList_nextL0 {P : Program} {ops : Array Oper} {rest : List Oper} {o : Oper} {a : Act} {Q : Exit → Act → World → Prop} (hg : o.guard = none) (it : Operand) (hop : o.op = Op.next it false) (M I : Nat) (L : List (κ × Value)) (hit : a.eval it = .pointer (some ⟨I, 0, none⟩)) (h : Rng kv w M I L [])
    (hK : wpList P ops Q rest (a.put o.dst (.tuple #[.bool false])) w) : wpList P ops Q (o :: rest) a w :=
  wpList_nextL hg it hop M I L [] hit h (fun _ => hK) (fun lp key v lq w' h1 => by simp at h1)
theorem wpList_nextL1 {P : Program} {ops : Array Oper} {rest : List Oper} {o : Oper} {a : Act} {Q : Exit → Act → World → Prop} (hg : o.guard = none) (it : Operand) (hop : o.op = Op.next it false) (M I : Nat) (L left : List (κ × Value)) (hit : a.eval it = .pointer (some ⟨I, 0, none⟩)) (h : Rng kv w M I L left) (hne : left ≠ [])
    (hMore : ∀ lp key v lq w', left = lp ++ (key, v) :: lq → Rng kv w' M I L (lp ++ lq) → Ch (fun j => j = I) w w' → w'.heap.size = w.heap.size → (Instr.entry (.pointer (some ⟨I, 0, none⟩))).run P w' = .ok (.tuple #[kv key, v]) w' → wpList P ops Q rest (a.put o.dst (.tuple #[.bool true, kv key, v])) w') : wpList P ops Q (o :: rest) a w :=
  wpList_nextL hg it hop M I L left hit h (fun h0 => absurd h0 hne) hMore
end
end Go.Proofs.Ythblbmbefhlbjaa
/- Layer 2: a disk in memory: what it is, and what a change of a part of it leaves. -/
namespace Go.Proofs.Ythblbmbefhlbjaa
open Go.RowKit Go.MapKept

/-- a file: its bytes, how many are safe -/
structure Fl where
  bs : List UInt8
  safe : Nat
/-- a file where it lies: its name, its block, its row -/
structure Ent where
  nm : ByteArray
  g : Nat
  v : Value
  f : Fl
/-- a disk's numbers -/
structure Dk where
  room : Int
  used : Int
  ops : Int
  failIn : Int
  armedIn : Int
  armKeep : Int
abbrev TD : TypeId := 85
abbrev TF : TypeId := 91
abbrev pf (g : Nat) : Value := .pointer (some ⟨g, 0, none⟩)
abbrev dkCells (M : Nat) (d : Dk) : Array Value := #[.map (some M), .int .i64 d.room, .int .i64 d.used, .int .i64 d.ops, .int .i64 d.failIn, .int .i64 d.armedIn, .int .i64 d.armKeep]
abbrev dkObj (M : Nat) (d : Dk) : Obj := .cells (dkCells M d) TD
abbrev fObj (v : Value) (n : Nat) : Obj := .cells #[v, .int .i64 (n : Int)] TF
abbrev mapL (F : List Ent) : List (ByteArray × Value) := F.map fun e => (e.nm, pf e.g)
/-- two files lie apart -/
def Apart (a b : Ent) : Prop := a.g ≠ b.g ∧ ∀ k, a.v.ownBlock = some k → b.v.ownBlock ≠ some k
theorem Apart.symm {a b : Ent} (h : Apart a b) : Apart b a := ⟨h.1.symm, fun k hb ha => h.2 k ha hb⟩
structure FileAt (w : World) (B : Nat) (e : Ent) : Prop where
  base : B ≤ e.g
  row : w.heap[e.g]? = some (fObj e.v e.f.safe)
  own : Own 5 w B e.v e.f.bs
structure DkAt (w : World) (B D M : Nat) (d : Dk) (F : List Ent) : Prop where
  hD : B ≤ D
  hM : B ≤ M
  row : w.heap[D]? = some (dkObj M d)
  map : MapIs (.string) w M (mapL F)
  files : ∀ e ∈ F, FileAt w B e
  apart : F.Pairwise Apart
  names : (F.map (·.nm)).Nodup
/-- the files' blocks -/
def Foot (F : List Ent) (k : Nat) : Prop := ∃ e ∈ F, k = e.g ∨ e.v.ownBlock = some k
/-- the disk's blocks -/
def DFoot (D M : Nat) (F : List Ent) (k : Nat) : Prop := k = D ∨ k = M ∨ Foot F k
section
variable {w w' : World} {B D M : Nat} {d d' : Dk} {F F' : List Ent}
theorem FileAt.lt {e : Ent} (h : FileAt w B e) : e.g < w.heap.size := (Array.getElem?_eq_some_iff.1 h.row).1
theorem DkAt.lt (h : DkAt w B D M d F) : D < w.heap.size := (Array.getElem?_eq_some_iff.1 h.row).1
theorem FileAt.ch {e : Ent} {S : Nat → Prop} (h : FileAt w B e) (c : Ch S w w') (h1 : ¬ S e.g) (h2 : ∀ k, e.v.ownBlock = some k → ¬ S k) : FileAt w' B e := ⟨h.base, c.row h.row h1, h.own.ch c h2⟩
theorem FileAt.neD {e : Ent} (h : FileAt w B e) (hD : w.heap[D]? = some (dkObj M d)) : e.g ≠ D ∧ e.v.ownBlock ≠ some D := by
  refine ⟨fun h2 => ?_, (own_ne h.own hD (by decide)).symm⟩
  have h3 := h.row
  rw [h2, hD] at h3
  simp only [Option.some.injEq, Obj.cells.injEq] at h3
  exact absurd h3.2.1 (by decide)
theorem FileAt.neM {e : Ent} {L : List (ByteArray × Value)} (h : FileAt w B e) (hM : MapIs (.string) w M L) : e.g ≠ M ∧ e.v.ownBlock ≠ some M := by
  refine ⟨(hM.ne h.row).symm, fun h2 => ?_⟩
  obtain ⟨cur, hc⟩ := own_ty h.own M h2
  exact hM.ne hc rfl
theorem DkAt.neDM (h : DkAt w B D M d F) : M ≠ D := h.map.ne h.row
/-- other blocks changed -/
theorem DkAt.ch {S : Nat → Prop} (h : DkAt w B D M d F) (c : Ch S w w') (hS : ∀ k, DFoot D M F k → ¬ S k) : DkAt w' B D M d F :=
  ⟨h.hD, h.hM, c.row h.row (hS D (.inl rfl)), h.map.ch c (hS M (.inr (.inl rfl))), fun e he => (h.files e he).ch c (hS _ (.inr (.inr ⟨e, he, .inl rfl⟩))) (fun k hk => hS k (.inr (.inr ⟨e, he, .inr hk⟩))), h.apart, h.names⟩
theorem DkAt.foot_lt (h : DkAt w B D M d F) {k : Nat} (hk : DFoot D M F k) : B ≤ k ∧ k < w.heap.size := by
  rcases hk with rfl | rfl | ⟨e, he, rfl | hk⟩
  · exact ⟨h.hD, h.lt⟩
  · exact ⟨h.hM, h.map.lt⟩
  · exact ⟨(h.files e he).base, (h.files e he).lt⟩
  · exact (h.files e he).own.lt k hk
theorem DkAt.below (h : DkAt w B D M d F) (hb : Below w.heap.size w w') : DkAt w' B D M d F :=
  h.ch (Ch.of_below (S := fun k => w.heap.size ≤ k) hb) (fun k hk h2 => by have := (h.foot_lt hk).2; omega)
/-- the disk's own numbers changed -/
theorem DkAt.nums (h : DkAt w B D M d F) (c : Ch (At1 D) w w') (hr : w'.heap[D]? = some (dkObj M d')) : DkAt w' B D M d' F :=
  ⟨h.hD, h.hM, hr, h.map.ch c h.neDM, fun e he => (h.files e he).ch c ((h.files e he).neD h.row).1 (fun k hk h2 => ((h.files e he).neD h.row).2 (by rw [hk, h2])), h.apart, h.names⟩
theorem DkAt.cell (h : DkAt w B D M d F) (j : Nat) : w.cell? ⟨D, j, none⟩ = (dkCells M d)[j]? := cell_of_row w D j _ _ _ h.row
theorem DkAt.frozen (h : DkAt w B D M d F) (j : Nat) : w.frozen? ⟨D, j, none⟩ = false := by
  simp [World.frozen?, h.row]
theorem FileAt.cell {e : Ent} (h : FileAt w B e) (j : Nat) : w.cell? ⟨e.g, j, none⟩ = (#[e.v, Value.int .i64 (e.f.safe : Int)] : Array Value)[j]? := cell_of_row w e.g j _ _ _ h.row
theorem FileAt.frozen {e : Ent} (h : FileAt w B e) (j : Nat) : w.frozen? ⟨e.g, j, none⟩ = false := by
  simp [World.frozen?, h.row]
/-- what a call may do to a disk's blocks: only these were written, and the files' blocks are these, or new ones -/
structure DkCh (D M : Nat) (F F' : List Ent) (w w' : World) : Prop where
  ch : Ch (DFoot D M F) w w'
  foot : ∀ k, Foot F' k → Foot F k ∨ w.heap.size ≤ k
theorem DkCh.refl (D M : Nat) (F : List Ent) (w : World) : DkCh D M F F w w := ⟨Ch.refl _ _, fun _ h => .inl h⟩
theorem DkCh.trans {w1 : World} {F1 : List Ent} (h : DkCh D M F F1 w w1) (k : DkCh D M F1 F' w1 w') : DkCh D M F F' w w' :=
  ⟨h.ch.trans k.ch (fun x hx hf => by
    rcases hf with h1 | h1 | h1
    · exact .inl h1
    · exact .inr (.inl h1)
    · rcases h.foot x h1 with h2 | h2
      · exact .inr (.inr h2)
      · omega), fun x hx => by
    rcases k.foot x hx with h1 | h1
    · exact h.foot x h1
    · exact .inr (Nat.le_trans h.ch.size h1)⟩
theorem DkCh.of_below (hb : Below w.heap.size w w') : DkCh D M F F w w' := ⟨Ch.of_below hb, fun _ h => .inl h⟩
theorem DkCh.of1 (c : Ch (At1 D) w w') : DkCh D M F F w w' := ⟨(Ch.refl (DFoot D M F) w).trans c (fun _ _ h => .inl h), fun _ h => .inl h⟩
theorem DkCh.below (h : DkAt w B D M d F) (c : DkCh D M F F' w w') (hB : B ≤ w.heap.size) : Below B w w' := c.ch.below (fun _ hk => (h.foot_lt hk).1) hB
theorem heap_set_row {w : World} {g j : Nat} {C : Array Value} {t : TypeId} {fz : Nat × Nat} (h : w.heap[g]? = some (.cells C t fz)) (u : Value) : (w.setCell ⟨g, j, none⟩ u).heap[g]? = some (.cells (C.setIfInBounds j u) t fz) := by
  simp [World.setCell, Array.getElem?_modify, h]
end
/-- a name's place -/
theorem aget_split (F : List Ent) (n : ByteArray) : (aget (mapL F) n = none ∧ ∀ e ∈ F, e.nm ≠ n) ∨ ∃ P e Q, F = P ++ e :: Q ∧ e.nm = n ∧ aget (mapL F) n = some (pf e.g) ∧ ∀ x ∈ P, x.nm ≠ n := by
  induction F with
  | nil => exact .inl ⟨rfl, fun _ h => by cases h⟩
  | cons a r ih =>
    by_cases h : n = a.nm
    · exact .inr ⟨[], a, r, rfl, h.symm, by simp [mapL, aget, h], fun _ h => by cases h⟩
    · rcases ih with ⟨h1, h2⟩ | ⟨P, e, Q, rfl, h1, h2, h3⟩
      · refine .inl ⟨by simp only [mapL, List.map_cons, aget]; rw [if_neg h]; exact h1, fun e he => ?_⟩
        rcases List.mem_cons.1 he with rfl | he
        · exact fun e => h e.symm
        · exact h2 e he
      · refine .inr ⟨a :: P, e, Q, rfl, h1, by simp only [mapL, List.map_cons, aget]; rw [if_neg h]; exact h2, fun x hx => ?_⟩
        rcases List.mem_cons.1 hx with rfl | hx
        · exact fun e => h e.symm
        · exact h3 x hx
/-- the files as they are told -/
abbrev Fs := List (ByteArray × Fl)
abbrev fsOf (F : List Ent) : Fs := F.map fun e => (e.nm, e.f)
def fget : Fs → ByteArray → Option Fl
  | [], _ => none
  | (a, v) :: r, k => if k = a then some v else fget r k
/-- a file anew, or behind the others -/
def fput : Fs → ByteArray → Fl → Fs
  | [], k, v => [(k, v)]
  | (a, u) :: r, k, v => if k = a then (k, v) :: r else (a, u) :: fput r k v
def fdel : Fs → ByteArray → Fs
  | [], _ => []
  | (a, u) :: r, k => if k = a then r else (a, u) :: fdel r k
theorem fget_none {F : List Ent} {n : ByteArray} (h : ∀ e ∈ F, e.nm ≠ n) : fget (fsOf F) n = none := by
  induction F with
  | nil => rfl
  | cons a r ih =>
    simp only [fsOf, List.map_cons, fget]
    rw [if_neg (fun e => h a (by simp) e.symm)]
    exact ih (fun e he => h e (by simp [he]))
theorem fget_at {P Q : List Ent} {e : Ent} (h : ∀ x ∈ P, x.nm ≠ e.nm) : fget (fsOf (P ++ e :: Q)) e.nm = some e.f := by
  induction P with
  | nil => simp [fsOf, fget]
  | cons a r ih =>
    simp only [fsOf, List.cons_append, List.map_cons, fget]
    rw [if_neg (fun e2 => h a (by simp) e2.symm)]
    exact ih (fun x hx => h x (by simp [hx]))
theorem fput_none {F : List Ent} {n : ByteArray} (f : Fl) (h : ∀ e ∈ F, e.nm ≠ n) : fput (fsOf F) n f = fsOf F ++ [(n, f)] := by
  induction F with
  | nil => rfl
  | cons a r ih =>
    simp only [fsOf, List.map_cons, fput, List.cons_append]
    rw [if_neg (fun e => h a (by simp) e.symm)]
    rw [ih (fun e he => h e (by simp [he]))]
theorem fput_at {P Q : List Ent} {e : Ent} (f : Fl) (h : ∀ x ∈ P, x.nm ≠ e.nm) (g : Nat) (v : Value) : fput (fsOf (P ++ e :: Q)) e.nm f = fsOf (P ++ ⟨e.nm, g, v, f⟩ :: Q) := by
  induction P with
  | nil => simp [fsOf, fput]
  | cons a r ih =>
    simp only [fsOf, List.cons_append, List.map_cons, fput]
    rw [if_neg (fun e2 => h a (by simp) e2.symm)]
    have := ih (fun x hx => h x (by simp [hx]))
    simp only [fsOf] at this
    rw [this]
section
variable {w w' : World} {B D M : Nat} {d d' : Dk} {F : List Ent}
/-- a file changed -/
theorem DkAt.file {P Q : List Ent} {e : Ent} (h : DkAt w B D M d (P ++ e :: Q)) (c : Ch (fun k => k = e.g ∨ e.v.ownBlock = some k) w w') (v : Value) (f : Fl)
    (hr : w'.heap[e.g]? = some (fObj v f.safe)) (ho : Own 5 w' B v f.bs) (hv : ∀ k, v.ownBlock = some k → e.v.ownBlock = some k ∨ w.heap.size ≤ k) :
    DkAt w' B D M d (P ++ ⟨e.nm, e.g, v, f⟩ :: Q) ∧ DkCh D M (P ++ e :: Q) (P ++ ⟨e.nm, e.g, v, f⟩ :: Q) w w' := by
  have he := h.files e (by simp)
  have hap := h.apart
  have hother : ∀ x ∈ P ++ Q, Apart x e ∧ FileAt w B x := fun x hx => by
    rw [List.pairwise_append] at hap
    rcases List.mem_append.1 hx with hx | hx
    · exact ⟨hap.2.2 x hx e (by simp), h.files x (by simp [hx])⟩
    · exact ⟨((List.pairwise_cons.1 hap.2.1).1 x hx).symm, h.files x (by simp [hx])⟩
  have hnew : ∀ x ∈ P ++ Q, Apart x ⟨e.nm, e.g, v, f⟩ := fun x hx => by
    obtain ⟨⟨h1, h2⟩, h3⟩ := hother x hx
    refine ⟨h1, fun k hk hk2 => ?_⟩
    rcases hv k hk2 with h4 | h4
    · exact h2 k hk h4
    · have := (h3.own.lt k hk).2; omega
  refine ⟨⟨h.hD, h.hM, c.row h.row (fun hs => ?_), h.map.ch c (fun hs => ?_) |> fun hm => by simpa [mapL] using hm, fun x hx => ?_, ?_, by have := h.names; simpa using this⟩, ⟨(Ch.refl _ w).trans c (fun k _ hk => .inr (.inr ⟨e, by simp, hk⟩)), fun k hk => ?_⟩⟩
  · rcases hs with hs | hs
    · exact (he.neD h.row).1 hs.symm
    · exact (he.neD h.row).2 hs
  · rcases hs with hs | hs
    · exact (he.neM h.map).1 hs.symm
    · exact (he.neM h.map).2 hs
  · rcases List.mem_append.1 hx with hx | hx
    · obtain ⟨⟨h1, h2⟩, h3⟩ := hother x (by simp [hx])
      exact h3.ch c (fun hs => by
        rcases hs with hs | hs
        · exact h1 hs
        · exact (own_ne he.own h3.row (by decide)) hs.symm) (fun k hk hs => by
        rcases hs with hs | hs
        · obtain ⟨cur, hc⟩ := own_ty h3.own k hk
          rw [hs, he.row] at hc
          simp only [Option.some.injEq, Obj.cells.injEq] at hc
          exact absurd hc.2.1 (by decide)
        · exact h2 k hk hs)
    · rcases List.mem_cons.1 hx with rfl | hx
      · exact ⟨he.base, hr, ho⟩
      · obtain ⟨⟨h1, h2⟩, h3⟩ := hother x (by simp [hx])
        exact h3.ch c (fun hs => by
          rcases hs with hs | hs
          · exact h1 hs
          · exact (own_ne he.own h3.row (by decide)) hs.symm) (fun k hk hs => by
          rcases hs with hs | hs
          · obtain ⟨cur, hc⟩ := own_ty h3.own k hk
            rw [hs, he.row] at hc
            simp only [Option.some.injEq, Obj.cells.injEq] at hc
            exact absurd hc.2.1 (by decide)
          · exact h2 k hk hs)
  · rw [List.pairwise_append] at hap ⊢
    refine ⟨hap.1, List.pairwise_cons.2 ⟨fun x hx => (hnew x (by simp [hx])).symm, (List.pairwise_cons.1 hap.2.1).2⟩, fun x hx y hy => ?_⟩
    rcases List.mem_cons.1 hy with rfl | hy
    · exact hnew x (by simp [hx])
    · exact hap.2.2 x hx y (by simp [hy])
  · obtain ⟨x, hx, hk⟩ := hk
    rcases List.mem_append.1 hx with hx | hx
    · exact .inl ⟨x, by simp [hx], hk⟩
    · rcases List.mem_cons.1 hx with rfl | hx
      · rcases hk with hk | hk
        · exact .inl ⟨e, by simp, .inl hk⟩
        · rcases hv k hk with h4 | h4
          · exact .inl ⟨e, by simp, .inr h4⟩
          · exact .inr h4
      · exact .inl ⟨x, by simp [hx], hk⟩
end
end Go.Proofs.Ythblbmbefhlbjaa
/- Layer 2: the disk's small calls, walked. -/
namespace Go.Proofs.Ythblbmbefhlbjaa
open Go.RowKit Go.MapKept

abbrev crash (op : Int) : Value := .agg #[.int .i64 op]
abbrev crashI (op : Int) : Value := .iface 49 (crash op)
abbrev pD (D : Nat) : Value := .pointer (some ⟨D, 0, none⟩)
def nameB (c : UInt8) : Bool := (decide (97 ≤ c.toNat) && decide (c.toNat ≤ 122)) || (decide (48 ≤ c.toNat) && decide (c.toNat ≤ 57)) || c.toNat == 46
/-- which names there may be -/
def nameD (n : ByteArray) : Bool := decide (1 ≤ n.size) && decide (n.size ≤ 32) && n.data.toList.all nameB

set_option maxRecDepth 100000 in
theorem fnByte (c : UInt8) (w : World) : Calls Try.prog 66 #[.int .u8 (c.toNat : Int)] w fun e w' => e = .returned (.bool (nameB c)) ∧ w = w' := by
  have hv : nameB c = ((decide (97 ≤ c.toNat) && decide (c.toNat ≤ 122)) || (decide (48 ≤ c.toNat) && decide (c.toNat ≤ 57)) || c.toNat == 46) := rfl
  generalize c.toNat = n at *
  have h : n = 46 ∨ (n < 48 ∧ n ≠ 46) ∨ (48 ≤ n ∧ n ≤ 57) ∨ (58 ≤ n ∧ n ≤ 96) ∨ (97 ≤ n ∧ n ≤ 122) ∨ 123 ≤ n := by omega
  rcases h with h | h | h | h | h | h
  · have hr : nameB c = true := by rw [hv]; simp [h]
    have d1 : decide ((97 : Int) ≤ (n : Int)) = false := by simp; omega
    have d2 : decide ((n : Int) ≤ 122) = true := by simp; omega
    have d3 : decide ((48 : Int) ≤ (n : Int)) = false := by simp; omega
    have d4 : decide ((n : Int) ≤ 57) = true := by simp; omega
    have d5 : ((n : Int) == 46) = true := by simp; omega
    rw [hr]
    clear hr hv h
    go_enter Try.func66, Try.ntmps66
    go_wp2
    go_ret
    exact ⟨rfl, rfl⟩
  · have hr : nameB c = false := by rw [hv]; simp; omega
    have d1 : decide ((97 : Int) ≤ (n : Int)) = false := by simp; omega
    have d2 : decide ((n : Int) ≤ 122) = true := by simp; omega
    have d3 : decide ((48 : Int) ≤ (n : Int)) = false := by simp; omega
    have d4 : decide ((n : Int) ≤ 57) = true := by simp; omega
    have d5 : ((n : Int) == 46) = false := by simp; omega
    rw [hr]
    clear hr hv h
    go_enter Try.func66, Try.ntmps66
    go_wp2
    go_ret
    exact ⟨rfl, rfl⟩
  · have hr : nameB c = true := by rw [hv]; simp; omega
    have d1 : decide ((97 : Int) ≤ (n : Int)) = false := by simp; omega
    have d2 : decide ((n : Int) ≤ 122) = true := by simp; omega
    have d3 : decide ((48 : Int) ≤ (n : Int)) = true := by simp; omega
    have d4 : decide ((n : Int) ≤ 57) = true := by simp; omega
    have d5 : ((n : Int) == 46) = false := by simp; omega
    rw [hr]
    clear hr hv h
    go_enter Try.func66, Try.ntmps66
    go_wp2
    go_ret
    exact ⟨rfl, rfl⟩
  · have hr : nameB c = false := by rw [hv]; simp; omega
    have d1 : decide ((97 : Int) ≤ (n : Int)) = false := by simp; omega
    have d2 : decide ((n : Int) ≤ 122) = true := by simp; omega
    have d3 : decide ((48 : Int) ≤ (n : Int)) = true := by simp; omega
    have d4 : decide ((n : Int) ≤ 57) = false := by simp; omega
    have d5 : ((n : Int) == 46) = false := by simp; omega
    rw [hr]
    clear hr hv h
    go_enter Try.func66, Try.ntmps66
    go_wp2
    go_ret
    exact ⟨rfl, rfl⟩
  · have hr : nameB c = true := by rw [hv]; simp; omega
    have d1 : decide ((97 : Int) ≤ (n : Int)) = true := by simp; omega
    have d2 : decide ((n : Int) ≤ 122) = true := by simp; omega
    have d3 : decide ((48 : Int) ≤ (n : Int)) = true := by simp; omega
    have d4 : decide ((n : Int) ≤ 57) = false := by simp; omega
    have d5 : ((n : Int) == 46) = false := by simp; omega
    rw [hr]
    clear hr hv h
    go_enter Try.func66, Try.ntmps66
    go_wp2
    go_ret
    exact ⟨rfl, rfl⟩
  · have hr : nameB c = false := by rw [hv]; simp; omega
    have d1 : decide ((97 : Int) ≤ (n : Int)) = true := by simp; omega
    have d2 : decide ((n : Int) ≤ 122) = false := by simp; omega
    have d3 : decide ((48 : Int) ≤ (n : Int)) = true := by simp; omega
    have d4 : decide ((n : Int) ≤ 57) = false := by simp; omega
    have d5 : ((n : Int) == 46) = false := by simp; omega
    rw [hr]
    clear hr hv h
    go_enter Try.func66, Try.ntmps66
    go_wp2
    go_ret
    exact ⟨rfl, rfl⟩

set_option maxRecDepth 100000 in
theorem fnRight (x : ByteArray) (w : World) (hx : x.size ≤ 140737488355328) : Calls Try.prog 43 #[.string x] w fun e w' => e = .returned (.bool (nameD x)) ∧ w = w' := by
  go_enter Try.func43, Try.ntmps43
  by_cases h1 : x.size < 1
  · have d1 : decide ((x.size : Int) < 1) = true := by simp; omega
    have HN : Hid (nameD x = false) := Lib.hid (by unfold nameD; simp; omega)
    clear h1
    go_wp2
    go_ret
    exact ⟨by rw [HN.out]; rfl, rfl⟩
  have d1 : decide ((x.size : Int) < 1) = false := by simp; omega
  by_cases h2 : 32 < x.size
  · have d2 : decide ((32 : Int) < (x.size : Int)) = true := by simp; omega
    have HN : Hid (nameD x = false) := Lib.hid (by unfold nameD; simp; omega)
    clear h1 h2
    go_wp2
    go_ret
    exact ⟨by rw [HN.out]; rfl, rfl⟩
  have d2 : decide ((32 : Int) < (x.size : Int)) = false := by simp; omega
  have HND : Hid (nameD x = x.data.toList.all nameB) := Lib.hid (by
    unfold nameD
    rw [decide_eq_true (show 1 ≤ x.size by omega), decide_eq_true (show x.size ≤ 32 by omega)]
    simp)
  have H32 : Hid (x.size ≤ 32) := Lib.hid (by omega)
  clear h1 h2
  go_wp2_with (fail)
  go_loopw [14, 3] (fun i _ wr => ∃ k : Nat, k ≤ x.size ∧ i = .int .i64 k ∧ (x.data.toList.take k).all nameB = true ∧ wr = w) (fun i _ _ => x.size - (intOf i).toNat)
  case atStart => exact ⟨0, Nat.zero_le _, rfl, rfl, rfl⟩
  case round =>
    obtain ⟨k, hk, rfl, hal, rfl⟩ := hrel
    have HAL := Lib.hid hal
    clear hal
    by_cases hlt : k < x.size
    · skip
      have e1 : (k : Int) < (x.size : Int) := by omega
      have HX : Hid (x.data.toList.take (k + 1) = x.data.toList.take k ++ [x[k]]) := Lib.hid (by rw [List.take_succ_eq_append_getElem (by simpa using hlt)]; rfl)
      have HME : Hid (x[k] ∈ x.data.toList) := Lib.hid (List.getElem_mem (l := x.data.toList) (n := k) (by simpa using hlt))
      cases hb : nameB x[k]
      · have HN : Hid (nameD x = false) := Lib.hid (by rw [HND.out, List.all_eq_false]; exact ⟨x[k], HME.out, by rw [hb]; decide⟩)
        have HB := Lib.hid hb
        clear hb
        go_wp2_with (fail)
        refine (fnByte x[k] wr).mono ?_
        rintro e w2 ⟨rfl, rfl⟩
        rw [HB.out]
        go_wp2_with (fail)
        go_ret
        exact ⟨by rw [HN.out]; rfl, rfl⟩
      · have HN : Hid ((x.data.toList.take (k + 1)).all nameB = true) := Lib.hid (by rw [HX.out, List.all_append, HAL.out]; simp [hb])
        have HB := Lib.hid hb
        clear hb
        go_wp2_with (fail)
        refine (fnByte x[k] wr).mono ?_
        rintro e w2 ⟨rfl, rfl⟩
        rw [HB.out]
        go_wp2_with (fail)
        exact ⟨⟨k + 1, by omega, by go_num, HN.out, by trivial⟩, by simp [intOf]; omega⟩
    · obtain rfl : k = x.size := by omega
      have HN : Hid (nameD x = true) := Lib.hid (by
        have h := HAL.out
        rw [List.take_of_length_le (by simp)] at h
        rw [HND.out, h])
      clear hlt
      go_wp2_with (fail)
      go_ret
      exact ⟨by rw [HN.out]; rfl, rfl⟩

set_option maxRecDepth 100000 in
theorem dkRoomOk (n : Int) (w : World) : Calls Try.prog 45 #[.int .i64 n] w fun e w' => e = .returned (.bool (decide (0 ≤ n) && decide (n ≤ 1073741824))) ∧ w = w' := by
  by_cases h1 : 0 ≤ n
  · have d1 : decide ((0 : Int) ≤ n) = true := by simpa using h1
    by_cases h2 : n ≤ 1073741824
    · have d2 : decide (n ≤ (1073741824 : Int)) = true := by simpa using h2
      rw [d1, d2]
      clear h1 h2
      go_enter Try.func45, Try.ntmps45
      go_wp2
      go_ret
      exact ⟨rfl, rfl⟩
    · have d2 : decide (n ≤ (1073741824 : Int)) = false := by simpa using h2
      rw [d1, d2]
      clear h1 h2
      go_enter Try.func45, Try.ntmps45
      go_wp2
      go_ret
      exact ⟨rfl, rfl⟩
  · have d1 : decide ((0 : Int) ≤ n) = false := by simpa using h1
    rw [d1]
    clear h1
    go_enter Try.func45, Try.ntmps45
    go_wp2
    go_ret
    exact ⟨rfl, rfl⟩

def Dk.begin (d : Dk) : Dk := { d with ops := d.ops + 1, armedIn := if d.armedIn = 0 then 0 else d.armedIn - 1 }
/-- numbers as a program's -/
structure Dk.Ok (d : Dk) : Prop where
  room : 0 ≤ d.room ∧ d.room ≤ 1073741824
  used : 0 ≤ d.used ∧ d.used ≤ 1073741824
  ops : 0 ≤ d.ops ∧ d.ops ≤ 1152921504606846976
  failIn : 0 ≤ d.failIn ∧ d.failIn ≤ 9223372036854775807
  armedIn : 0 ≤ d.armedIn ∧ d.armedIn ≤ 9223372036854775807
  armKeep : -9223372036854775808 ≤ d.armKeep ∧ d.armKeep ≤ 9223372036854775807

set_option maxHeartbeats 1000000 in
set_option maxRecDepth 100000 in
theorem dkBegin {w : World} {B D M : Nat} {d : Dk} {F : List Ent} (h : DkAt w B D M d F) (ok : d.Ok) : Calls Try.prog 48 #[pD D] w fun e w' => e = .returned (.bool (d.armedIn == 1)) ∧ DkAt w' B D M d.begin F ∧ Ch (At1 D) w w' := by
  have c3 : w.cell? ⟨D, 3, none⟩ = some (.int .i64 d.ops) := h.cell 3
  have c5 : w.cell? ⟨D, 5, none⟩ = some (.int .i64 d.armedIn) := h.cell 5
  have f3 := h.frozen 3
  have f5 := h.frozen 5
  have o1 := ok.ops
  have o2 := ok.armedIn
  have e1 : wrap64 (d.ops + 1) = d.ops + 1 := IntWalk.wrap64_in _ (by omega)
  have H := Lib.hid h
  clear h ok
  by_cases ha : d.armedIn = 0
  · have d1 : (d.armedIn == 0) = true := by simpa using ha
    have HB : Hid (d.begin = { d with ops := d.ops + 1, armedIn := d.armedIn } ∧ (d.armedIn == 1) = false) := Lib.hid ⟨by unfold Dk.begin; rw [if_pos ha, ha], by rw [ha]; rfl⟩
    clear ha
    go_enter Try.func48, Try.ntmps48
    go_wp2_with (fail)
    go_ret
    rw [HB.out.1, HB.out.2]
    exact ⟨rfl, H.out.nums ((Ch.refl _ w).set1 3 _) (heap_set_row H.out.row _), (Ch.refl _ w).set1 3 _⟩
  · have d1 : (d.armedIn == 0) = false := by simpa using ha
    have e2 : wrap64 (d.armedIn - 1) = d.armedIn - 1 := IntWalk.wrap64_in _ (by omega)
    have HB : Hid (d.begin = { d with ops := d.ops + 1, armedIn := d.armedIn - 1 } ∧ (d.armedIn == 1) = (d.armedIn - 1 == 0)) := Lib.hid ⟨by unfold Dk.begin; rw [if_neg ha], by rw [Bool.eq_iff_iff, beq_iff_eq, beq_iff_eq]; omega⟩
    clear ha
    go_enter Try.func48, Try.ntmps48
    go_wp2_with (fail)
    go_ret
    rw [HB.out.1, HB.out.2]
    exact ⟨rfl, H.out.nums (((Ch.refl _ w).set1 3 _).set1 5 _) (heap_set_row (heap_set_row H.out.row _) _), ((Ch.refl _ w).set1 3 _).set1 5 _⟩

set_option maxRecDepth 100000 in
theorem dkLose {w : World} {B D M : Nat} {d : Dk} {F : List Ent} (h : DkAt w B D M d F) : Calls Try.prog 50 #[pD D] w fun e w' => e = .panicked [{ v := crashI d.ops, recovered := false }] ∧ w = w' := by
  have c3 : w.cell? ⟨D, 3, none⟩ = some (.int .i64 d.ops) := h.cell 3
  clear h
  go_enter Try.func50, Try.ntmps50
  go_wp2
  exact ⟨rfl, rfl, rfl⟩

set_option maxRecDepth 100000 in
theorem dkNew (n : Int) (hn : 0 ≤ n ∧ n ≤ 1073741824) (w : World) : Calls Try.prog 18 #[.int .i64 n] w fun e w' => ∃ D M, e = .returned (.tuple #[pD D, .int .i64 0]) ∧ DkAt w' w.heap.size D M ⟨n, 0, 0, 0, 0, 0⟩ [] ∧ Below w.heap.size w w' := by
  have d1 : decide ((0 : Int) ≤ n) = true := by simpa using hn.1
  have d2 : decide (n ≤ (1073741824 : Int)) = true := by simpa using hn.2
  have hmm := @run_makeMap Try.prog
  clear hn
  go_enter Try.func18, Try.ntmps18
  go_wp2_with (fail)
  refine (dkRoomOk n w).mono ?_
  rintro e w2 ⟨rfl, rfl⟩
  rw [d1, d2]
  go_wp2_with (fail)
  go_ret2
  refine ⟨w.heap.size + 1, w.heap.size, rfl, ⟨by omega, Nat.le_refl _, ?_, ?_, fun e he => (by cases he), List.Pairwise.nil, List.nodup_nil⟩, ((Below.refl _ _).alloc (Nat.le_refl _) _).alloc (by simp) _⟩
  · have := heap_alloc_new (w.alloc (.map #[] 0)) (dkObj w.heap.size ⟨n, 0, 0, 0, 0, 0⟩)
    simpa using this
  · exact (MapIs.new (.string) w).below ((Below.refl _ _).alloc (Nat.le_refl _) _)
end Go.Proofs.Ythblbmbefhlbjaa
/- Layer 2: lay and Append, walked. -/
namespace Go.Proofs.Ythblbmbefhlbjaa
open Go.RowKit Go.MapKept

def layF (fs : Fs) (n : ByteArray) (b : List UInt8) : Fs := fput fs n (match fget fs n with | some f => ⟨f.bs ++ b, f.safe⟩ | none => ⟨b, 0⟩)
section
variable {w w1 w2 : World} {B D M : Nat} {d : Dk} {F P Q : List Ent}
theorem aset_new (n : ByteArray) (v : Value) (h : ∀ e ∈ F, e.nm ≠ n) : aset (mapL F) n v = mapL F ++ [(n, v)] := by
  induction F with
  | nil => rfl
  | cons a r ih =>
    simp only [mapL, List.map_cons, aset, List.cons_append]
    rw [if_neg (fun e => h a (by simp) e.symm)]
    rw [ih (fun e he => h e (by simp [he]))]
/-- a new file -/
theorem DkAt.add (h : DkAt w B D M d F) {n : ByteArray} (hn : ∀ e ∈ F, e.nm ≠ n) (hB : B ≤ w.heap.size) (hm : MapIs (.string) w1 M (aset (mapL F) n (pf w.heap.size))) (hch : Ch (fun k => k = M) (w.alloc (fObj (.slice none 0 0) 0)) w1) :
    DkAt w1 B D M d (F ++ ⟨n, w.heap.size, .slice none 0 0, ⟨[], 0⟩⟩ :: []) ∧ DkCh D M F (F ++ ⟨n, w.heap.size, .slice none 0 0, ⟨[], 0⟩⟩ :: []) w w1 := by
  have hb0 : Below w.heap.size w (w.alloc (fObj (.slice none 0 0) 0)) := (Below.refl _ _).alloc (Nat.le_refl _) _
  have h0 := h.below hb0
  have hMlt := h.map.lt
  rw [aset_new n _ hn] at hm
  refine ⟨⟨h.hD, h.hM, hch.row h0.row h.neDM.symm, by simpa [mapL] using hm, fun e he => ?_, ?_, ?_⟩, ⟨(Ch.of_below (S := DFoot D M F) hb0).trans hch (fun k _ hk => .inr (.inl hk)), fun k hk => ?_⟩⟩
  · rcases List.mem_append.1 he with he | he
    · have h2 := h0.files e he
      exact h2.ch hch (h2.neM h0.map).1 (fun k hk hs => (h2.neM h0.map).2 (by rw [hk, hs]))
    · obtain rfl := List.mem_singleton.1 he
      exact ⟨hB, hch.row (heap_alloc_new w _) (by simp only; omega), Own.nil _ _ _⟩
  · rw [List.pairwise_append]
    refine ⟨h.apart, List.pairwise_singleton _ _, fun x hx y hy => ?_⟩
    obtain rfl := List.mem_singleton.1 hy
    refine ⟨by have := (h.files x hx).lt; simp only; omega, fun k _ hk => by simp [Value.ownBlock] at hk⟩
  · rw [List.map_append, List.nodup_append]
    refine ⟨h.names, by simp, fun a ha b hb => ?_⟩
    obtain ⟨e, he, rfl⟩ := List.mem_map.1 ha
    simp only [List.map_cons, List.map_nil, List.mem_singleton] at hb
    subst hb
    exact hn e he
  · obtain ⟨e, he, hk⟩ := hk
    rcases List.mem_append.1 he with he | he
    · exact .inl ⟨e, he, hk⟩
    · obtain rfl := List.mem_singleton.1 he
      rcases hk with hk | hk
      · exact .inr (by rw [hk]; exact Nat.le_refl _)
      · simp [Value.ownBlock] at hk
theorem Bs.neMap {A : Option Addr} {m c : Nat} {l : List UInt8} (h : Bs w A m c l) {L : List (ByteArray × Value)} (hM : MapIs (.string) w M L) (h0 : 0 < m) (b : Addr) (hb : A = some b) : ¬ b.block = M := by
  intro e
  obtain ⟨x, o, rfl, _, hc⟩ := h.at_ h0
  injection hb with hb
  subst hb
  obtain ⟨es, ck, hr, _⟩ := hM
  have h1 := hc 0 _ (List.getElem?_eq_getElem (by rw [h.len]; exact h0))
  simp only at e
  subst e
  simp [World.cell?, hr] at h1
theorem Bs.neDk {A : Option Addr} {m c : Nat} {l : List UInt8} (h : Bs w A m c l) (hD : w.heap[D]? = some (dkObj M d)) (h0 : 0 < m) (b : Addr) (hb : A = some b) : ¬ b.block = D := by
  intro e
  obtain ⟨x, o, rfl, _, hc⟩ := h.at_ h0
  injection hb with hb
  subst hb
  have h1 := hc 0 _ (List.getElem?_eq_getElem (by rw [h.len]; exact h0))
  simp only at e
  subst e
  rw [cell_of_row w x _ _ _ _ hD] at h1
  rcases o with _ | _ | _ | _ | _ | _ | _ | o <;> simp [dkCells] at h1
/-- bytes behind a file's -/
theorem DkAt.laid {nm : ByteArray} {g : Nat} {v v' : Value} {f : Fl} {l : List UInt8} (h : DkAt w1 B D M d (P ++ ⟨nm, g, v, f⟩ :: Q)) (ho : Own 5 w2 B v' (f.bs ++ l)) (hgr : w1.grownBy w2 v.ownBlock) (hfr : v'.ownBlock = v.ownBlock ∨ v'.ownBlock = some w1.heap.size) :
    (w2.heap[g]? = some (fObj v f.safe) ∧ w2.heap[D]? = some (dkObj M d)) ∧ ∀ u : Int, DkAt ((w2.setCell ⟨g, 0, none⟩ v').setCell ⟨D, 2, none⟩ (.int .i64 u)) B D M { d with used := u } (P ++ ⟨nm, g, v', ⟨f.bs ++ l, f.safe⟩⟩ :: Q) ∧
      DkCh D M (P ++ ⟨nm, g, v, f⟩ :: Q) (P ++ ⟨nm, g, v', ⟨f.bs ++ l, f.safe⟩⟩ :: Q) w1 ((w2.setCell ⟨g, 0, none⟩ v').setCell ⟨D, 2, none⟩ (.int .i64 u)) := by
  have he := h.files ⟨nm, g, v, f⟩ (by simp)
  have hne := own_ne he.own he.row (by decide)
  have hch0 : Ch (fun k => v.ownBlock = some k) w1 w2 := Ch.of_grown hgr (fun k hk => hk)
  have hr2 : w2.heap[g]? = some (fObj v f.safe) := hch0.row he.row (fun hs => hne hs.symm)
  have hch : Ch (fun k => k = g ∨ v.ownBlock = some k) w1 (w2.setCell ⟨g, 0, none⟩ v') := ((Ch.refl (fun k => k = g ∨ v.ownBlock = some k) w1).trans hch0 (fun _ _ hk => .inr hk)).set (a := ⟨g, 0, none⟩) (.inl rfl) v'
  have hne2 : v'.ownBlock ≠ some g := by
    rcases hfr with hf | hf
    · rw [hf]; exact hne.symm
    · rw [hf]; intro e; injection e with e; have := he.lt; simp only at this; omega
  obtain ⟨h1, h2⟩ := h.file hch v' ⟨f.bs ++ l, f.safe⟩ (heap_set_row hr2 v') (ho.ch ((Ch.refl (fun k => k = g) w2).set (a := ⟨g, 0, none⟩) rfl v') (fun k hk hs => hne2 (by rw [hk, hs]))) (fun k hk => by
    rcases hfr with hf | hf
    · exact .inl (by rw [← hf]; exact hk)
    · rw [hf] at hk; injection hk with hk; exact .inr (by omega))
  have hr3 : w2.heap[D]? = some (dkObj M d) := hch0.row h.row (fun hs => (he.neD h.row).2 hs)
  refine ⟨⟨hr2, hr3⟩, fun u => ?_⟩
  have h3 := h1.nums (d' := { d with used := u }) ((Ch.refl (At1 D) _).set1 2 (.int .i64 u)) (heap_set_row h1.row _)
  exact ⟨h3, h2.trans (DkCh.of1 ((Ch.refl (At1 D) _).set1 2 _))⟩
end

set_option maxHeartbeats 2000000 in
set_option maxRecDepth 100000 in
theorem dkLay {w : World} {B D M : Nat} {d : Dk} {F : List Ent} (h : DkAt w B D M d F) (hu : 0 ≤ d.used ∧ d.used ≤ 1073741824) (nm : ByteArray) (A : Option Addr) (m c : Nat) (l : List UInt8) (hl : Bs w A m c l) (hm : d.used + (m : Int) ≤ 1073741824) (hlen : ∀ e ∈ F, e.f.bs.length ≤ 1073741824) (hBw : B ≤ w.heap.size) :
    Calls Try.prog 49 #[pD D, .string nm, .slice A m c] w fun e w' => e = .returned (.tuple #[]) ∧ ∃ F', DkAt w' B D M { d with used := d.used + (m : Int) } F' ∧ DkCh D M F F' w w' ∧ fsOf F' = layF (fsOf F) nm l := by
  have c0' : w.cell? ⟨D, 0, none⟩ = some (.map (some M)) := h.cell 0
  have hz : (zeroValue 89).run Try.prog w = .ok (.pointer none) w := by kernel_rfl
  have e1 : wrap64 (d.used + (m : Int)) = d.used + (m : Int) := IntWalk.wrap64_in _ (by omega)
  have HM := Lib.hid hm
  have HBS := Lib.hid hl
  have HBW := Lib.hid hBw
  have H := Lib.hid h
  have HU := Lib.hid hu
  have tok1 : Hid True := Lib.hid trivial
  have tok2 : Hid True := Lib.hid trivial
  have tok3 : Hid True := Lib.hid trivial
  rcases aget_split F nm with ⟨hno, hne⟩ | ⟨P, e, Q, rfl, rfl, hyes, hfirst⟩
  · have HNO := Lib.hid hno
    have HNE := Lib.hid hne
    have hDlt := h.lt
    have hDne : D ≠ w.heap.size := by omega
    have hMr : (w.alloc (.cells #[.slice none 0 0, .int .i64 0] 91)).cell? ⟨D, 0, none⟩ = some (.map (some M)) := (h.below ((Below.refl _ _).alloc (Nat.le_refl _) _)).cell 0
    have HMA : Hid (MapIs (.string) (w.alloc (fObj (.slice none 0 0) 0)) M (mapL F)) := Lib.hid (h.map.below ((Below.refl _ _).alloc (Nat.le_refl _) _))
    clear h hno hne hlen hm hl hBw hu
    go_enter Try.func49, Try.ntmps49
    go_wp2_with (first
      | (at_lookup; have _t := tok1; refine wpList_lookupL rfl (keyString Try.underlying9) (.tmp 10) (.tmp 11) 83 89 false rfl Try.underlying83 M (mapL F) rfl H.out.map nm rfl (.pointer none) hz ?_; rw [HNO.out]; simp only [Option.getD_none, Bool.false_eq_true, if_false]; clear tok1 _t)
      | (have _t := tok2; refine wpList_updateL rfl (keyString Try.underlying9) (.tmp 20) (.tmp 21) (.tmp 22) 83 89 (.inl rfl) Try.underlying83 M (mapL F) rfl HMA.out nm rfl (pf w.heap.size) rfl ?_; intro w1 hm1 hch1 hsz1; have HAD := Lib.hid (H.out.add HNE.out HBW.out hm1 hch1); have HSZ : Hid (B ≤ w1.heap.size) := Lib.hid (by have := HAD.out.2.ch.size; have := HBW.out; omega); have HB1 : Hid (Bs w1 A m c l) := Lib.hid ((HBS.out.alloc _).ch hch1 (fun h0 b hb => (HBS.out.alloc _).neMap HMA.out h0 b hb)); have HFA := Lib.hid (HAD.out.1.files ⟨nm, w.heap.size, .slice none 0 0, ⟨[], 0⟩⟩ (by simp)); have y0 : w1.cell? ⟨w.heap.size, 0, none⟩ = some (.slice none 0 0) := HFA.out.cell 0; have y1 : w1.frozen? ⟨w.heap.size, 0, none⟩ = false := HFA.out.frozen 0; clear tok2 hm1 hch1 hsz1 _t)
      | (at_builtin; have _t := tok3; go_loud ((refine wpList_appL rfl (.tmp 27) (.tmp 28) rfl B (.slice none 0 0) [] rfl HFA.out.own A m c l rfl HB1.out (by have := HM.out; have := HU.out; rw [List.length_nil]; omega) HSZ.out ?_; intro v' w2 hown hgr hfr; have HLD := Lib.hid (HAD.out.1.laid (l := l) hown hgr hfr); obtain ⟨A2, c2, rfl⟩ := own_form hown; have z0 : w2.cell? ⟨w.heap.size, 0, none⟩ = some (.slice none 0 0) := cell_of_row _ _ 0 _ _ _ HLD.out.1.1; have z1 : w2.frozen? ⟨w.heap.size, 0, none⟩ = false := (by simp [World.frozen?, HLD.out.1.1]); have z2 : w2.cell? ⟨D, 2, none⟩ = some (.int .i64 d.used) := cell_of_row _ _ 2 _ _ _ HLD.out.1.2; have z3 : w2.frozen? ⟨D, 2, none⟩ = false := (by simp [World.frozen?, HLD.out.1.2]); clear tok3 hown hgr hfr _t))))
    go_end0
    refine ⟨rfl, _, (HLD.out.2 (d.used + (m : Int))).1, HAD.out.2.trans (HLD.out.2 (d.used + (m : Int))).2, ?_⟩
    unfold layF
    rw [fget_none HNE.out, fput_none _ HNE.out]
    simp
  · obtain ⟨nm, g, v, f⟩ := e
    simp only at *
    have HYES := Lib.hid hyes
    have HLEN : Hid (f.bs.length ≤ 1073741824) := Lib.hid (hlen ⟨nm, g, v, f⟩ (by simp))
    have HFA := Lib.hid (h.files ⟨nm, g, v, f⟩ (by simp))
    obtain ⟨A0, c0, hv⟩ := own_form (show w.ownsRow B 5 1 v f.bs.length (u8s f.bs) from HFA.out.own)
    subst hv
    have y0 : w.cell? ⟨g, 0, none⟩ = some (.slice A0 f.bs.length c0) := HFA.out.cell 0
    have HFI := Lib.hid hfirst
    clear h hyes hfirst hlen hm hl hBw hu
    go_enter Try.func49, Try.ntmps49
    go_wp2_with (first
      | (at_lookup; have _t := tok1; refine wpList_lookupL rfl (keyString Try.underlying9) (.tmp 10) (.tmp 11) 83 89 false rfl Try.underlying83 M (mapL (P ++ ⟨nm, g, .slice A0 f.bs.length c0, f⟩ :: Q)) rfl H.out.map nm rfl (.pointer none) hz ?_; rw [HYES.out]; simp only [Option.getD_some, Bool.false_eq_true, if_false]; clear tok1 _t)
      | (at_builtin; have _t := tok3; go_loud ((refine wpList_appL rfl (.tmp 27) (.tmp 28) rfl B (.slice A0 f.bs.length c0) f.bs rfl HFA.out.own A m c l rfl HBS.out (by have := HM.out; have := HU.out; have := HLEN.out; omega) HBW.out ?_; intro v' w2 hown hgr hfr; have HLD := Lib.hid (H.out.laid (l := l) hown hgr hfr); obtain ⟨A2, c2, rfl⟩ := own_form hown; have z0 : w2.cell? ⟨g, 0, none⟩ = some (.slice A0 f.bs.length c0) := cell_of_row _ _ 0 _ _ _ HLD.out.1.1; have z1 : w2.frozen? ⟨g, 0, none⟩ = false := (by simp [World.frozen?, HLD.out.1.1]); have z2 : w2.cell? ⟨D, 2, none⟩ = some (.int .i64 d.used) := cell_of_row _ _ 2 _ _ _ HLD.out.1.2; have z3 : w2.frozen? ⟨D, 2, none⟩ = false := (by simp [World.frozen?, HLD.out.1.2]); clear tok3 hown hgr hfr _t))))
    go_end0
    have hld := HLD.out.2 (d.used + (m : Int))
    rw [List.length_append] at hld
    refine ⟨rfl, _, hld.1, hld.2, ?_⟩
    unfold layF
    rw [fget_at HFI.out, fput_at (e := ⟨nm, g, _, f⟩) _ HFI.out]

/-- how many bytes are laid -/
def appN (d : Dk) (m : Nat) : Nat := min m (d.room - d.used).toNat
/-- and, when the power goes -/
def appK (d : Dk) (m : Nat) : Nat := min (appN d m) d.armKeep.toNat
def FileLens (F : List Ent) : Prop := ∀ e ∈ F, e.f.bs.length ≤ 1073741824
set_option maxHeartbeats 2000000 in
set_option maxRecDepth 100000 in
theorem dkAppend_name (w : World) (D : Nat) (nm : ByteArray) (hs : nm.size ≤ 140737488355328) (hn : nameD nm = false) (A : Option Addr) (m c : Nat) :
    Calls Try.prog 28 #[pD D, .string nm, .slice A m c] w fun e w' => e = .returned (.tuple #[.int .i64 0, .int .i64 16]) ∧ w = w' := by
  have HN := Lib.hid hn
  clear hn
  go_enter Try.func28, Try.ntmps28
  go_wp2_with (fail)
  refine (fnRight nm w hs).mono ?_
  rintro e w1 ⟨rfl, rfl⟩
  rw [HN.out]
  go_wp2_with (fail)
  go_ret2
  exact ⟨rfl, rfl⟩
set_option maxHeartbeats 2000000 in
set_option maxRecDepth 100000 in
theorem dkAppend_ok {w : World} {B D M : Nat} {d : Dk} {F : List Ent} (h : DkAt w B D M d F) (ok : d.Ok) (hlen : FileLens F) (nm : ByteArray) (hn : nameD nm = true) (hs : nm.size ≤ 140737488355328) (A : Option Addr) (m c : Nat) (l : List UInt8) (hl : Bs w A m c l) (hBw : B ≤ w.heap.size) (ha : d.armedIn ≠ 1) :
    Calls Try.prog 28 #[pD D, .string nm, .slice A m c] w fun e w' => e = .returned (.tuple #[.int .i64 (appN d m), .int .i64 (if appN d m < m then 4 else 0)]) ∧ ∃ F', DkAt w' B D M { d.begin with used := d.used + (appN d m : Int) } F' ∧ DkCh D M F F' w w' ∧ fsOf F' = layF (fsOf F) nm (l.take (appN d m)) := by
  have c1 : w.cell? ⟨D, 1, none⟩ = some (.int .i64 d.room) := h.cell 1
  have c2 : w.cell? ⟨D, 2, none⟩ = some (.int .i64 d.used) := h.cell 2
  have o1 := ok.room
  have o2 := ok.used
  have e1 : wrap64 (d.room - d.used) = d.room - d.used := IntWalk.wrap64_in _ (by omega)
  obtain ⟨n, hnn⟩ : ∃ n, n = appN d m := ⟨_, rfl⟩
  have hmn : min (m : Int) (max 0 (d.room - d.used)) = (n : Int) := by rw [hnn]; unfold appN; omega
  have hnm : n ≤ m := by rw [hnn]; unfold appN; omega
  have hnu : d.used + (n : Int) ≤ 1073741824 := by rw [hnn]; unfold appN; omega
  rw [← hnn]
  have hml := hl.nmax
  have hmc := hl.le
  have HN := Lib.hid hn
  have H := Lib.hid h
  have OK := Lib.hid ok
  have HBS := Lib.hid hl
  have HBW := Lib.hid hBw
  have HLEN := Lib.hid hlen
  have HA : Hid ((d.armedIn == 1) = false) := Lib.hid (by simpa using ha)
  have HNU := Lib.hid hnu
  have HNM := Lib.hid hnm
  clear h ok hl hBw hlen ha hn hnn hnu
  go_enter Try.func28, Try.ntmps28
  go_wp2_with (fail)
  refine (fnRight nm w hs).mono ?_
  rintro e w1 ⟨rfl, rfl⟩
  rw [HN.out]
  go_wp2_with (fail)
  go_region
  all_goals
    have hdr : Below w.heap.size w w.drew := (Below.refl _ w).drew
    have H0 := Lib.hid (H.out.below hdr)
    have HBS0 := Lib.hid (HBS.out.below hdr)
    have HSZ0 : Hid (B ≤ w.drew.heap.size) := HBW
    have HCH0 : Hid (DkCh D M F F w w.drew) := Lib.hid (DkCh.of_below hdr)
    clear c1 c2
    generalize w.drew = w0 at *
    go_wp2_with (fail)
    refine (dkBegin H0.out OK.out).mono ?_
    rintro e w2 ⟨rfl, h2, hc2⟩
    rw [HA.out]
    have H2 := Lib.hid h2
    have HBS2 := Lib.hid ((HBS0.out.ch hc2 (HBS0.out.neDk H0.out.row)).take HNM.out)
    have HSZ2 : Hid (B ≤ w2.heap.size) := Lib.hid (Nat.le_trans HSZ0.out hc2.size)
    have HCH2 := Lib.hid (HCH0.out.trans (DkCh.of1 hc2))
    clear h2 hc2
    have hnc : (n : Int) ≤ (c : Int) := by omega
    go_wp2_with (fail)
    refine (dkLay H2.out (show 0 ≤ d.begin.used ∧ d.begin.used ≤ 1073741824 from OK.out.used) nm A n c (l.take n) HBS2.out HNU.out HLEN.out HSZ2.out).mono ?_
    rintro e w3 ⟨rfl, F', h3, hc3, hf3⟩
    have HR : Hid (∃ F', DkAt w3 B D M { d.begin with used := d.used + (n : Int) } F' ∧ DkCh D M F F' w w3 ∧ fsOf F' = layF (fsOf F) nm (l.take n)) := Lib.hid ⟨F', h3, HCH2.out.trans hc3, hf3⟩
    clear h3 hc3 hf3
    by_cases hlt : n < m
    · have d1 : decide ((n : Int) < (m : Int)) = true := by simpa using hlt
      have HLT := Lib.hid hlt
      clear hlt
      go_wp2_with (fail)
      go_ret2
      exact ⟨rfl, HR.out⟩
    · have d1 : decide ((n : Int) < (m : Int)) = false := by simpa using hlt
      have HLT := Lib.hid hlt
      clear hlt
      go_wp2_with (fail)
      go_ret2
      exact ⟨rfl, HR.out⟩
set_option maxHeartbeats 2000000 in
set_option maxRecDepth 100000 in
theorem dkAppend_lost {w : World} {B D M : Nat} {d : Dk} {F : List Ent} (h : DkAt w B D M d F) (ok : d.Ok) (hlen : FileLens F) (nm : ByteArray) (hn : nameD nm = true) (hs : nm.size ≤ 140737488355328) (A : Option Addr) (m c : Nat) (l : List UInt8) (hl : Bs w A m c l) (hBw : B ≤ w.heap.size) (ha : d.armedIn = 1) :
    Calls Try.prog 28 #[pD D, .string nm, .slice A m c] w fun e w' => e = .panicked [{ v := crashI (d.ops + 1), recovered := false }] ∧ ∃ F', DkAt w' B D M { d.begin with used := d.used + (appK d m : Int) } F' ∧ DkCh D M F F' w w' ∧ fsOf F' = layF (fsOf F) nm (l.take (appK d m)) := by
  have c1 : w.cell? ⟨D, 1, none⟩ = some (.int .i64 d.room) := h.cell 1
  have c2 : w.cell? ⟨D, 2, none⟩ = some (.int .i64 d.used) := h.cell 2
  have o1 := ok.room
  have o2 := ok.used
  have e1 : wrap64 (d.room - d.used) = d.room - d.used := IntWalk.wrap64_in _ (by omega)
  obtain ⟨n, hnn⟩ : ∃ n, n = appN d m := ⟨_, rfl⟩
  have hmn : min (m : Int) (max 0 (d.room - d.used)) = (n : Int) := by rw [hnn]; unfold appN; omega
  have hnm : n ≤ m := by rw [hnn]; unfold appN; omega
  have hnu : d.used + (n : Int) ≤ 1073741824 := by rw [hnn]; unfold appN; omega
  obtain ⟨q, hq⟩ : ∃ q, q = appK d m := ⟨_, rfl⟩
  have hmq : min (n : Int) (max 0 d.armKeep) = (q : Int) := by rw [hq]; unfold appK; rw [← hnn]; omega
  have hqn : q ≤ n := by rw [hq, hnn]; unfold appK; omega
  have HQN := Lib.hid hqn
  have HQU : Hid (d.used + (q : Int) ≤ 1073741824) := Lib.hid (by omega)
  rw [← hq]
  clear hq
  have hml := hl.nmax
  have hmc := hl.le
  have HN := Lib.hid hn
  have H := Lib.hid h
  have OK := Lib.hid ok
  have HBS := Lib.hid hl
  have HBW := Lib.hid hBw
  have HLEN := Lib.hid hlen
  have HA : Hid ((d.armedIn == 1) = true) := Lib.hid (by simpa using ha)
  have HNU := Lib.hid hnu
  have HNM := Lib.hid hnm
  clear h ok hl hBw hlen ha hn hnn hnu
  go_enter Try.func28, Try.ntmps28
  go_wp2_with (fail)
  refine (fnRight nm w hs).mono ?_
  rintro e w1 ⟨rfl, rfl⟩
  rw [HN.out]
  go_wp2_with (fail)
  go_region
  all_goals
    have hdr : Below w.heap.size w w.drew := (Below.refl _ w).drew
    have H0 := Lib.hid (H.out.below hdr)
    have HBS0 := Lib.hid (HBS.out.below hdr)
    have HSZ0 : Hid (B ≤ w.drew.heap.size) := HBW
    have HCH0 : Hid (DkCh D M F F w w.drew) := Lib.hid (DkCh.of_below hdr)
    clear c1 c2
    generalize w.drew = w0 at *
    go_wp2_with (fail)
    refine (dkBegin H0.out OK.out).mono ?_
    rintro e w2 ⟨rfl, h2, hc2⟩
    rw [HA.out]
    have H2 := Lib.hid h2
    have HBS2 := Lib.hid ((HBS0.out.ch hc2 (HBS0.out.neDk H0.out.row)).take (Nat.le_trans HQN.out HNM.out))
    have HSZ2 : Hid (B ≤ w2.heap.size) := Lib.hid (Nat.le_trans HSZ0.out hc2.size)
    have HCH2 := Lib.hid (HCH0.out.trans (DkCh.of1 hc2))
    have c6 : w2.cell? ⟨D, 6, none⟩ = some (.int .i64 d.armKeep) := h2.cell 6
    clear h2 hc2
    have hqc : (q : Int) ≤ (c : Int) := by omega
    go_wp2_with (fail)
    refine (dkLay H2.out (show 0 ≤ d.begin.used ∧ d.begin.used ≤ 1073741824 from OK.out.used) nm A q c (l.take q) HBS2.out HQU.out HLEN.out HSZ2.out).mono ?_
    rintro e w3 ⟨rfl, F', h3, hc3, hf3⟩
    have HR : Hid (∃ F', DkAt w3 B D M { d.begin with used := d.used + (q : Int) } F' ∧ DkCh D M F F' w w3 ∧ fsOf F' = layF (fsOf F) nm (l.take q)) := Lib.hid ⟨F', h3, HCH2.out.trans hc3, hf3⟩
    have H3 := Lib.hid h3
    clear h3 hc3 hf3 c6
    go_wp2_with (fail)
    refine (dkLose H3.out).mono ?_
    rintro e w4 ⟨rfl, rfl⟩
    go_wp2_with (fail)
    exact ⟨rfl, rfl, HR.out⟩
end Go.Proofs.Ythblbmbefhlbjaa
/- Layer 2: what a disk tells, and its small changes, walked. -/
namespace Go.Proofs.Ythblbmbefhlbjaa
open Go.RowKit Go.MapKept

noncomputable abbrev kS : KeyK Try.prog 9 ByteArray .string := keyString Try.underlying9
theorem fget_split (F : List Ent) (n : ByteArray) : (fget (fsOf F) n = none ∧ ∀ e ∈ F, e.nm ≠ n) ∨ ∃ P e Q, F = P ++ e :: Q ∧ e.nm = n ∧ fget (fsOf F) n = some e.f ∧ ∀ x ∈ P, x.nm ≠ n := by
  rcases aget_split F n with ⟨_, h⟩ | ⟨P, e, Q, rfl, rfl, _, h⟩
  · exact .inl ⟨fget_none h, h⟩
  · exact .inr ⟨P, e, Q, rfl, rfl, fget_at h, h⟩
theorem aget_none {F : List Ent} {n : ByteArray} (h : ∀ e ∈ F, e.nm ≠ n) : aget (mapL F) n = none := by
  rcases aget_split F n with ⟨h1, _⟩ | ⟨P, e, Q, rfl, rfl, _, _⟩
  · exact h1
  · exact absurd rfl (h e (by simp))
theorem aget_at {P Q : List Ent} {e : Ent} (h : ∀ x ∈ P, x.nm ≠ e.nm) : aget (mapL (P ++ e :: Q)) e.nm = some (pf e.g) := by
  induction P with
  | nil => simp [mapL, aget]
  | cons a r ih =>
    have := ih (fun x hx => h x (by simp [hx]))
    simp only [mapL, List.cons_append, List.map_cons, aget] at this ⊢
    rw [if_neg (fun e2 => h a (by simp) e2.symm)]
    exact this
/-- a row, cut -/
theorem Own.shrink {E : TypeId} {w : World} {B c n : Nat} {A : Option Addr} {l : List UInt8} (h : Own E w B (.slice A l.length c) l) (hn : n ≤ l.length) : Own E w B (.slice A n c) (l.take n) := by
  have hl : (l.take n).length = n := by rw [List.length_take]; omega
  refine ⟨by simp [hn], ?_⟩
  rcases h.2 with ⟨he, h0⟩ | ⟨g, cap, cur, he, h1, h2, h3, h4, h5, h6⟩
  · left
    rw [hl]
    injection he with e1 e2 e3
    subst e1 e3
    have : n = 0 := by omega
    subst this
    exact ⟨rfl, rfl⟩
  · right
    injection he with e1 e2 e3
    subst e1 e3
    refine ⟨g, c, cur, by rw [hl], h1, h2, by rw [hl]; omega, h4, h5, ?_⟩
    rw [hl, u8s, List.map_take]
    have h7 : (u8s l).take n = (cur.toList.take (l.length * 1)).take n := by rw [h6]
    rw [List.take_take, Nat.mul_one, Nat.min_eq_left hn] at h7
    rw [Nat.mul_one]
    exact h7.symm
set_option maxRecDepth 100000 in
theorem dkLoseC {w : World} {D : Nat} {n : Int} (c3 : w.cell? ⟨D, 3, none⟩ = some (.int .i64 n)) : Calls Try.prog 50 #[pD D] w fun e w' => e = .panicked [{ v := crashI n, recovered := false }] ∧ w = w' := by
  go_enter Try.func50, Try.ntmps50
  go_wp2
  exact ⟨rfl, rfl, rfl⟩
def FreshB (w : World) (l : List UInt8) (e : Ending) (w' : World) : Prop := ∃ g, e = .returned (.tuple #[.slice (some ⟨g, 0, none⟩) l.length l.length, .int .i64 0]) ∧ w.heap.size ≤ g ∧ w'.heap[g]? = some (.cells (u8s l).toArray 5) ∧ Below w.heap.size w w'
section
variable {w : World} {B D M : Nat} {d : Dk} {F : List Ent}

set_option maxHeartbeats 1000000 in
set_option maxRecDepth 100000 in
theorem dkRead_none (h : DkAt w B D M d F) (nm : ByteArray) (hn : ∀ e ∈ F, e.nm ≠ nm) : Calls Try.prog 29 #[pD D, .string nm] w fun e w' => e = .returned (.tuple #[.slice none 0 0, .int .i64 6]) ∧ w = w' := by
  have c0' : w.cell? ⟨D, 0, none⟩ = some (.map (some M)) := h.cell 0
  have hz : (zeroValue 89).run Try.prog w = .ok (.pointer none) w := by kernel_rfl
  have HNO := Lib.hid (aget_none hn)
  have H := Lib.hid h
  have tok1 : Hid True := Lib.hid trivial
  clear h hn
  go_enter Try.func29, Try.ntmps29
  go_wp2_with (first | (at_lookup; have _t := tok1; refine wpList_lookupL rfl kS (.tmp 13) (.tmp 14) 83 89 false rfl Try.underlying83 M (mapL F) rfl H.out.map nm rfl (.pointer none) hz ?_; rw [HNO.out]; simp only [Option.getD_none, Bool.false_eq_true, if_false]; clear tok1 _t))
  go_ret2
  exact ⟨rfl, rfl⟩

set_option maxHeartbeats 1000000 in
set_option maxRecDepth 100000 in
theorem dkRead_some (h : DkAt w B D M d F) (hlen : FileLens F) (nm : ByteArray) (f : Fl) (hf : fget (fsOf F) nm = some f) : Calls Try.prog 29 #[pD D, .string nm] w (FreshB w f.bs) := by
  rcases fget_split F nm with ⟨h0, _⟩ | ⟨P, e, Q, rfl, rfl, h1, hfi⟩
  · rw [h0] at hf; cases hf
  rw [h1] at hf
  injection hf with hf
  subst hf
  obtain ⟨nm, g, v, f⟩ := e
  simp only at *
  have c0' : w.cell? ⟨D, 0, none⟩ = some (.map (some M)) := h.cell 0
  have hz : (zeroValue 89).run Try.prog w = .ok (.pointer none) w := by kernel_rfl
  have HYES : Hid (aget (mapL (P ++ ⟨nm, g, v, f⟩ :: Q)) nm = some (pf g)) := Lib.hid (aget_at (e := ⟨nm, g, v, f⟩) hfi)
  have H := Lib.hid h
  have HFA := Lib.hid (h.files ⟨nm, g, v, f⟩ (by simp))
  have hl : f.bs.length ≤ 1073741824 := hlen ⟨nm, g, v, f⟩ (by simp)
  obtain ⟨A, cp, hv, hfb, _⟩ := Own.bs (show Own 5 w B v f.bs from HFA.out.own)
  subst hv
  have HB := Lib.hid hfb
  have hfm := hfb.nmax
  have y0 : w.cell? ⟨g, 0, none⟩ = some (.slice A f.bs.length cp) := HFA.out.cell 0
  obtain ⟨Z, HZ, hzl, hmk⟩ := mk_zeros ((f.bs.length : Nat) : Int) f.bs.length rfl (by omega)
  have HZL := Lib.hid hzl
  have y0' : ∀ o, (w.alloc o).cell? ⟨g, 0, none⟩ = some (.slice A f.bs.length cp) := fun o => (((Below.refl w.heap.size w).alloc (Nat.le_refl _) o).cell (p := ⟨g, 0, none⟩) HFA.out.lt).trans y0
  have tok1 : Hid True := Lib.hid trivial
  have tok2 : Hid True := Lib.hid trivial
  clear h h1 hfi hfb hzl hlen
  go_enter Try.func29, Try.ntmps29
  go_wp2_with (first | (at_lookup; have _t := tok1; refine wpList_lookupL rfl kS (.tmp 13) (.tmp 14) 83 89 false rfl Try.underlying83 M (mapL (P ++ ⟨nm, g, .slice A f.bs.length cp, f⟩ :: Q)) rfl H.out.map nm rfl (.pointer none) hz ?_; rw [HYES.out]; simp only [Option.getD_some, Bool.false_eq_true, if_false]; clear tok1 _t) | (have _t := tok2; with_reducible show wpList _ _ _ _ _ _; refine wpList_cpyTo rfl (.tmp 24) (.tmp 28) 27 27 rfl 5 Try.underlying27 byteInfo w.heap.size 0 _ _ _ rfl Z 5 (heap_alloc_new w _) A f.bs.length f.bs.length cp f.bs rfl (HB.out.alloc _) (fun _ => rfl) (by omega) (by rw [HZL.out]; omega) ?_; intro w1 hw1 hb1; have HB1 := Lib.hid hb1; clear hb1 tok2 _t))
  go_ret2
  have hr := hw1.out
  rw [List.take_zero, List.nil_append, List.drop_of_length_le (by rw [HZL.out]; omega), List.append_nil] at hr
  exact ⟨w.heap.size, rfl, Nat.le_refl _, hr, ((Below.refl _ w).alloc (Nat.le_refl _) _).trans (HB1.out.mono (Nat.le_refl _))⟩

set_option maxRecDepth 100000 in
theorem dkUsed (h : DkAt w B D M d F) : Calls Try.prog 31 #[pD D] w fun e w' => e = .returned (.int .i64 d.used) ∧ w = w' := by
  have c0' : w.cell? ⟨D, 2, none⟩ = some (.int .i64 d.used) := h.cell 2
  clear h
  go_enter Try.func31, Try.ntmps31
  go_wp2
  go_ret
  exact ⟨rfl, rfl⟩

set_option maxRecDepth 100000 in
theorem dkOps (h : DkAt w B D M d F) : Calls Try.prog 20 #[pD D] w fun e w' => e = .returned (.int .i64 d.ops) ∧ w = w' := by
  have c0' : w.cell? ⟨D, 3, none⟩ = some (.int .i64 d.ops) := h.cell 3
  clear h
  go_enter Try.func20, Try.ntmps20
  go_wp2
  go_ret
  exact ⟨rfl, rfl⟩

set_option maxHeartbeats 1000000 in
set_option maxRecDepth 100000 in
theorem dkSetRoom (h : DkAt w B D M d F) (n : Int) (hn : 0 ≤ n ∧ n ≤ 1073741824) : Calls Try.prog 24 #[pD D, .int .i64 n] w fun e w' => e = .returned (.int .i64 0) ∧ DkAt w' B D M { d with room := n } F ∧ Ch (At1 D) w w' := by
  have c0' : w.cell? ⟨D, 1, none⟩ = some (.int .i64 d.room) := h.cell 1
  have f0 := h.frozen 1
  have H := Lib.hid h
  have HR : Hid ((decide (0 ≤ n) && decide (n ≤ 1073741824)) = true) := Lib.hid (by simp; exact hn)
  clear h hn
  go_enter Try.func24, Try.ntmps24
  go_wp2_with (fail)
  refine (dkRoomOk n w).mono ?_
  rintro e w1 ⟨rfl, rfl⟩
  rw [HR.out]
  go_wp2_with (fail)
  go_ret
  exact ⟨rfl, H.out.nums ((Ch.refl _ w).set1 1 _) (heap_set_row H.out.row _), (Ch.refl _ w).set1 1 _⟩
set_option maxHeartbeats 1000000 in
set_option maxRecDepth 100000 in
theorem dkSetRoom_no (D : Nat) (n : Int) (hn : ¬ (0 ≤ n ∧ n ≤ 1073741824)) (w : World) : Calls Try.prog 24 #[pD D, .int .i64 n] w fun e w' => e = .returned (.int .i64 3) ∧ w = w' := by
  have HR : Hid ((decide (0 ≤ n) && decide (n ≤ 1073741824)) = false) := Lib.hid (by
    cases h : (decide (0 ≤ n) && decide (n ≤ 1073741824))
    · rfl
    · simp at h; exact absurd h hn)
  clear hn
  go_enter Try.func24, Try.ntmps24
  go_wp2_with (fail)
  refine (dkRoomOk n w).mono ?_
  rintro e w1 ⟨rfl, rfl⟩
  rw [HR.out]
  go_wp2_with (fail)
  go_ret
  exact ⟨rfl, rfl⟩
set_option maxHeartbeats 1000000 in
set_option maxRecDepth 100000 in
theorem dkFail (h : DkAt w B D M d F) (n : Int) (hn : 1 ≤ n) : Calls Try.prog 25 #[pD D, .int .i64 n] w fun e w' => e = .returned (.int .i64 0) ∧ DkAt w' B D M { d with failIn := n } F ∧ Ch (At1 D) w w' := by
  have c0' : w.cell? ⟨D, 4, none⟩ = some (.int .i64 d.failIn) := h.cell 4
  have f0 := h.frozen 4
  have H := Lib.hid h
  have d1 : decide (n < 1) = false := by simp; omega
  clear h hn
  go_enter Try.func25, Try.ntmps25
  go_wp2_with (fail)
  go_ret
  exact ⟨rfl, H.out.nums ((Ch.refl _ w).set1 4 _) (heap_set_row H.out.row _), (Ch.refl _ w).set1 4 _⟩
set_option maxHeartbeats 1000000 in
set_option maxRecDepth 100000 in
theorem dkFail_no (D : Nat) (n : Int) (hn : n < 1) (w : World) : Calls Try.prog 25 #[pD D, .int .i64 n] w fun e w' => e = .returned (.int .i64 3) ∧ w = w' := by
  have d1 : decide (n < 1) = true := by simp; omega
  clear hn
  go_enter Try.func25, Try.ntmps25
  go_wp2_with (fail)
  go_ret
  exact ⟨rfl, rfl⟩
set_option maxHeartbeats 1000000 in
set_option maxRecDepth 100000 in
theorem dkArm (h : DkAt w B D M d F) (n k : Int) (hn : 1 ≤ n) : Calls Try.prog 26 #[pD D, .int .i64 n, .int .i64 k] w fun e w' => e = .returned (.int .i64 0) ∧ DkAt w' B D M { d with armedIn := n, armKeep := k } F ∧ Ch (At1 D) w w' := by
  have c0' : w.cell? ⟨D, 5, none⟩ = some (.int .i64 d.armedIn) := h.cell 5
  have c6 : w.cell? ⟨D, 6, none⟩ = some (.int .i64 d.armKeep) := h.cell 6
  have f0 := h.frozen 5
  have f6 := h.frozen 6
  have H := Lib.hid h
  have d1 : decide (n < 1) = false := by simp; omega
  clear h hn
  go_enter Try.func26, Try.ntmps26
  go_wp2_with (fail)
  go_ret
  exact ⟨rfl, H.out.nums (((Ch.refl _ w).set1 5 _).set1 6 _) (heap_set_row (heap_set_row H.out.row _) _), ((Ch.refl _ w).set1 5 _).set1 6 _⟩
set_option maxHeartbeats 1000000 in
set_option maxRecDepth 100000 in
theorem dkArm_no (D : Nat) (n k : Int) (hn : n < 1) (w : World) : Calls Try.prog 26 #[pD D, .int .i64 n, .int .i64 k] w fun e w' => e = .returned (.int .i64 3) ∧ w = w' := by
  have d1 : decide (n < 1) = true := by simp; omega
  clear hn
  go_enter Try.func26, Try.ntmps26
  go_wp2_with (fail)
  go_ret
  exact ⟨rfl, rfl⟩

def Dk.syncs (d : Dk) : Dk := { d with failIn := if d.failIn = 0 then 0 else d.failIn - 1 }
set_option maxHeartbeats 1000000 in
set_option maxRecDepth 100000 in
theorem dkSyncFails (h : DkAt w B D M d F) (ok : d.Ok) : Calls Try.prog 67 #[pD D] w fun e w' => e = .returned (.bool (d.failIn == 1)) ∧ DkAt w' B D M d.syncs F ∧ Ch (At1 D) w w' := by
  have c4 : w.cell? ⟨D, 4, none⟩ = some (.int .i64 d.failIn) := h.cell 4
  have f4 := h.frozen 4
  have o2 := ok.failIn
  have H := Lib.hid h
  clear h ok
  by_cases ha : d.failIn = 0
  · have d1 : (d.failIn == 0) = true := by simpa using ha
    have HB : Hid (d.syncs = d ∧ (d.failIn == 1) = false) := Lib.hid ⟨by unfold Dk.syncs; rw [if_pos ha]; cases d; simp_all, by rw [ha]; rfl⟩
    clear ha
    go_enter Try.func67, Try.ntmps67
    go_wp2_with (fail)
    go_ret
    rw [HB.out.1, HB.out.2]
    exact ⟨rfl, H.out, Ch.refl _ w⟩
  · have d1 : (d.failIn == 0) = false := by simpa using ha
    have e2 : wrap64 (d.failIn - 1) = d.failIn - 1 := IntWalk.wrap64_in _ (by omega)
    have HB : Hid (d.syncs = { d with failIn := d.failIn - 1 } ∧ (d.failIn == 1) = (d.failIn - 1 == 0)) := Lib.hid ⟨by unfold Dk.syncs; rw [if_neg ha], by rw [Bool.eq_iff_iff, beq_iff_eq, beq_iff_eq]; omega⟩
    clear ha
    go_enter Try.func67, Try.ntmps67
    go_wp2_with (fail)
    go_ret
    rw [HB.out.1, HB.out.2]
    exact ⟨rfl, H.out.nums ((Ch.refl _ w).set1 4 _) (heap_set_row H.out.row _), (Ch.refl _ w).set1 4 _⟩

/-- a function that is entered as it stands -/
def FnOk (k : FuncId) : Prop := ∀ (args : Array Value) (w : World), (callFunc k args).run Try.prog w = .ok (.enter k args) w
abbrev fnV (k : FuncId) (caps : Array Value) : Value := .func (.func k) #[] caps
def dOdd (d : Dk) : Bool := d.armKeep.tmod 2 != 0
set_option maxHeartbeats 1000000 in
set_option maxRecDepth 100000 in
theorem dkChange_go (h : DkAt w B D M d F) (ok : d.Ok) (ha : d.armedIn ≠ 1) (k : FuncId) (caps : Array Value) (hk : FnOk k) (R : World → Prop)
    (hdo : ∀ w1, DkAt w1 B D M d.begin F → Ch (At1 D) w w1 → Calls Try.prog k caps w1 fun e w2 => e = .returned (.tuple #[]) ∧ R w2) :
    Calls Try.prog 68 #[pD D, fnV k caps] w fun e w' => e = .returned (.tuple #[]) ∧ R w' := by
  have HA : Hid ((d.armedIn == 1) = false) := Lib.hid (by simpa using ha)
  have H := Lib.hid h
  have OK := Lib.hid ok
  have HDO := Lib.hid hdo
  have hkk : ∀ (args : Array Value) (w : World), (callFunc k args).run Try.prog w = .ok (.enter k args) w := hk
  clear h ok ha hdo hk
  go_enter Try.func68, Try.ntmps68
  go_wp2_with (fail)
  refine (dkBegin H.out OK.out).mono ?_
  rintro e w2 ⟨rfl, h2, hc2⟩
  rw [HA.out]
  have HD2 := Lib.hid (HDO.out w2 h2 hc2)
  clear h2 hc2
  go_wp2_with (fail)
  refine HD2.out.mono ?_
  rintro e w3 ⟨rfl, hr⟩
  have HR := Lib.hid hr
  clear hr
  go_wp2_with (fail)
  go_end0
  exact ⟨rfl, HR.out⟩
set_option maxHeartbeats 1000000 in
set_option maxRecDepth 100000 in
theorem dkChange_odd (h : DkAt w B D M d F) (ok : d.Ok) (ha : d.armedIn = 1) (ho : dOdd d = true) (k : FuncId) (caps : Array Value) (hk : FnOk k) (R : World → Prop)
    (hdo : ∀ w1, DkAt w1 B D M d.begin F → Ch (At1 D) w w1 → Calls Try.prog k caps w1 fun e w2 => e = .returned (.tuple #[]) ∧ R w2) (hR : ∀ w2, R w2 → w2.cell? ⟨D, 3, none⟩ = some (.int .i64 (d.ops + 1))) :
    Calls Try.prog 68 #[pD D, fnV k caps] w fun e w' => e = .panicked [{ v := crashI (d.ops + 1), recovered := false }] ∧ R w' := by
  have HA : Hid ((d.armedIn == 1) = true) := Lib.hid (by simpa using ha)
  have H := Lib.hid h
  have OK := Lib.hid ok
  have HDO := Lib.hid hdo
  have HRC := Lib.hid hR
  have hodd : (d.armKeep.tmod 2 != 0) = true := ho
  have hkk : ∀ (args : Array Value) (w : World), (callFunc k args).run Try.prog w = .ok (.enter k args) w := hk
  clear h ok ha hdo hk hR ho
  go_enter Try.func68, Try.ntmps68
  go_wp2_with (fail)
  refine (dkBegin H.out OK.out).mono ?_
  rintro e w2 ⟨rfl, h2, hc2⟩
  rw [HA.out]
  have HD2 := Lib.hid (HDO.out w2 h2 hc2)
  have c6 : w2.cell? ⟨D, 6, none⟩ = some (.int .i64 d.armKeep) := h2.cell 6
  clear h2 hc2
  go_wp2_with (fail)
  refine HD2.out.mono ?_
  rintro e w3 ⟨rfl, hr⟩
  have HR := Lib.hid hr
  have c3 := HRC.out w3 hr
  clear hr c6
  go_wp2_with (fail)
  refine (dkLoseC c3).mono ?_
  rintro e w4 ⟨rfl, rfl⟩
  go_wp2_with (fail)
  exact ⟨rfl, rfl, HR.out⟩
set_option maxHeartbeats 1000000 in
set_option maxRecDepth 100000 in
theorem dkChange_even (h : DkAt w B D M d F) (ok : d.Ok) (ha : d.armedIn = 1) (ho : dOdd d = false) (k : FuncId) (caps : Array Value) :
    Calls Try.prog 68 #[pD D, fnV k caps] w fun e w' => e = .panicked [{ v := crashI (d.ops + 1), recovered := false }] ∧ DkAt w' B D M d.begin F ∧ Ch (At1 D) w w' := by
  have HA : Hid ((d.armedIn == 1) = true) := Lib.hid (by simpa using ha)
  have H := Lib.hid h
  have OK := Lib.hid ok
  have hodd : (d.armKeep.tmod 2 != 0) = false := ho
  clear h ok ha ho
  go_enter Try.func68, Try.ntmps68
  go_wp2_with (fail)
  refine (dkBegin H.out OK.out).mono ?_
  rintro e w2 ⟨rfl, h2, hc2⟩
  rw [HA.out]
  have c6 : w2.cell? ⟨D, 6, none⟩ = some (.int .i64 d.armKeep) := h2.cell 6
  have H2 := Lib.hid h2
  have HC2 := Lib.hid hc2
  have c3 : w2.cell? ⟨D, 3, none⟩ = some (.int .i64 (d.ops + 1)) := h2.cell 3
  clear h2 hc2
  go_wp2_with (fail)
  refine (dkLoseC c3).mono ?_
  rintro e w4 ⟨rfl, rfl⟩
  go_wp2_with (fail)
  exact ⟨rfl, rfl, H2.out, HC2.out⟩
end
end Go.Proofs.Ythblbmbefhlbjaa
/- Layer 2: Sync, walked. -/
namespace Go.Proofs.Ythblbmbefhlbjaa
open Go.RowKit Go.MapKept

section
variable {w : World} {B D M : Nat} {d : Dk} {F : List Ent}
/-- a file that is synced, or that fails to be -/
def syncErr (failed : Bool) : Int := if failed then 5 else 0
def syncFl (failed : Bool) (f : Fl) : Fl := if failed then f else ⟨f.bs, f.bs.length⟩
theorem DkAt.safe {P Q : List Ent} {nm : ByteArray} {g : Nat} {v : Value} {f : Fl} (h : DkAt w B D M d (P ++ ⟨nm, g, v, f⟩ :: Q)) (n : Nat) :
    DkAt (w.setCell ⟨g, 1, none⟩ (.int .i64 (n : Int))) B D M d (P ++ ⟨nm, g, v, ⟨f.bs, n⟩⟩ :: Q) ∧ DkCh D M (P ++ ⟨nm, g, v, f⟩ :: Q) (P ++ ⟨nm, g, v, ⟨f.bs, n⟩⟩ :: Q) w (w.setCell ⟨g, 1, none⟩ (.int .i64 (n : Int))) := by
  have he := h.files ⟨nm, g, v, f⟩ (by simp)
  exact h.file ((Ch.refl _ w).set (a := ⟨g, 1, none⟩) (.inl rfl) _) v ⟨f.bs, n⟩ (heap_set_row he.row _) (he.own.ch ((Ch.refl (fun k => k = g) w).set (a := ⟨g, 1, none⟩) rfl _) (fun k hk hs => (own_ne he.own he.row (by decide)) (by rw [hk, hs]))) (fun k hk => .inl hk)
theorem Dk.Ok.syncs {d : Dk} (ok : d.Ok) : d.syncs.Ok := ⟨ok.room, ok.used, ok.ops, by
  have := ok.failIn
  unfold Dk.syncs
  simp only
  by_cases h : d.failIn = 0
  · rw [if_pos h]; omega
  · rw [if_neg h]; omega, ok.armedIn, ok.armKeep⟩
theorem okSync1 : FnOk 69 := fun args w => Go.MuLone.run_callFunc_enter Try.func69 (by kernel_rfl) rfl args w

set_option maxHeartbeats 1000000 in
set_option maxRecDepth 100000 in
theorem dkSync_none (h : DkAt w B D M d F) (nm : ByteArray) (hn : ∀ e ∈ F, e.nm ≠ nm) : Calls Try.prog 44 #[pD D, .string nm] w fun e w' => e = .returned (.int .i64 6) ∧ Below w.heap.size w w' := by
  have c0' : w.cell? ⟨D, 0, none⟩ = some (.map (some M)) := h.cell 0
  have hz : (zeroValue 89).run Try.prog w = .ok (.pointer none) w := by kernel_rfl
  have HNO := Lib.hid (aget_none hn)
  have H := Lib.hid h
  have tok1 : Hid True := Lib.hid trivial
  clear h hn
  go_enter Try.func44, Try.ntmps44
  go_wp2_with (first | (at_lookup; have _t := tok1; refine wpList_lookupL rfl kS (.tmp 12) (.tmp 13) 83 89 false rfl Try.underlying83 M (mapL F) rfl H.out.map nm rfl (.pointer none) hz ?_; rw [HNO.out]; simp only [Option.getD_none, Bool.false_eq_true, if_false]; clear tok1 _t))
  go_ret
  exact ⟨rfl, (Below.refl _ _).alloc (Nat.le_refl _) _⟩
/-- what Sync's closure does -/
theorem dkSync1 {P Q : List Ent} {nm : ByteArray} {g : Nat} {v : Value} {f : Fl} (h : DkAt w B D M d (P ++ ⟨nm, g, v, f⟩ :: Q)) (X Y : Nat) (b : Bool) (hx : w.cell? ⟨X, 0, none⟩ = some (.bool b)) (hy : w.cell? ⟨Y, 0, none⟩ = some (pf g)) :
    Calls Try.prog 69 #[.pointer (some ⟨X, 0, none⟩), .pointer (some ⟨Y, 0, none⟩)] w fun e w' => e = .returned (.tuple #[]) ∧ DkAt w' B D M d (P ++ ⟨nm, g, v, syncFl b f⟩ :: Q) ∧ DkCh D M (P ++ ⟨nm, g, v, f⟩ :: Q) (P ++ ⟨nm, g, v, syncFl b f⟩ :: Q) w w' := by
  have HFA := Lib.hid (h.files ⟨nm, g, v, f⟩ (by simp))
  have H := Lib.hid h
  obtain ⟨A0, c0, hv⟩ := own_form (show w.ownsRow B 5 1 v f.bs.length (u8s f.bs) from HFA.out.own)
  subst hv
  have y0 : w.cell? ⟨g, 0, none⟩ = some (.slice A0 f.bs.length c0) := HFA.out.cell 0
  have y1 : w.cell? ⟨g, 1, none⟩ = some (.int .i64 f.safe) := HFA.out.cell 1
  have f1 : w.frozen? ⟨g, 1, none⟩ = false := HFA.out.frozen 1
  clear h
  cases b
  · go_enter Try.func69, Try.ntmps69
    go_wp2_with (fail)
    go_region
    all_goals
      go_end0
      have hs := H.out.safe f.bs.length
      exact ⟨rfl, hs.1.below (Below.refl _ _).drew, hs.2.trans (DkCh.of_below (Below.refl _ _).drew)⟩
  · go_enter Try.func69, Try.ntmps69
    go_wp2_with (fail)
    go_end0
    exact ⟨rfl, H.out, DkCh.refl _ _ _ _⟩
set_option maxHeartbeats 1000000 in
set_option maxRecDepth 100000 in
theorem dkSync_go {P Q : List Ent} {nm : ByteArray} {g : Nat} {v : Value} {f : Fl} (h : DkAt w B D M d (P ++ ⟨nm, g, v, f⟩ :: Q)) (ok : d.Ok) (ha : d.armedIn ≠ 1) (hfi : ∀ x ∈ P, x.nm ≠ nm) : Calls Try.prog 44 #[pD D, .string nm] w fun e w' => e = .returned (.int .i64 (syncErr (d.failIn == 1))) ∧ DkAt w' B D M d.syncs.begin (P ++ ⟨nm, g, v, syncFl (d.failIn == 1) f⟩ :: Q) ∧ DkCh D M (P ++ ⟨nm, g, v, f⟩ :: Q) (P ++ ⟨nm, g, v, syncFl (d.failIn == 1) f⟩ :: Q) w w' := by
  have c0' : w.cell? ⟨D, 0, none⟩ = some (.map (some M)) := h.cell 0
  have hz : (zeroValue 89).run Try.prog w = .ok (.pointer none) w := by kernel_rfl
  have hmf : ∀ (fn : Fn) (first cap : Array Value) (w : World), (Instr.makeFunc fn first cap).run Try.prog w = .ok (.func fn first cap) w := fun _ _ _ _ => rfl
  have HYES : Hid (aget (mapL (P ++ ⟨nm, g, v, f⟩ :: Q)) nm = some (pf g)) := Lib.hid (aget_at (e := ⟨nm, g, v, f⟩) hfi)
  have H := Lib.hid h
  have OK := Lib.hid ok
  have HA := Lib.hid ha
  have tok1 : Hid True := Lib.hid trivial
  have HB1 : Hid (Below w.heap.size w (w.alloc (.cells #[pf g] 89))) := Lib.hid ((Below.refl _ _).alloc (Nat.le_refl _) _)
  have H1 := Lib.hid (h.below HB1.out)
  have HY1 : Hid ((w.alloc (.cells #[pf g] 89)).heap[w.heap.size]? = some (.cells #[pf g] 89)) := Lib.hid (heap_alloc_new w _)
  have HCH1 : Hid (DkCh D M (P ++ ⟨nm, g, v, f⟩ :: Q) (P ++ ⟨nm, g, v, f⟩ :: Q) w (w.alloc (.cells #[pf g] 89))) := Lib.hid (DkCh.of_below HB1.out)
  have HYD : Hid (D < w.heap.size) := Lib.hid h.lt
  clear h hfi ok ha
  go_enter Try.func44, Try.ntmps44
  go_wp2_with (first | (at_lookup; have _t := tok1; refine wpList_lookupL rfl kS (.tmp 12) (.tmp 13) 83 89 false rfl Try.underlying83 M (mapL (P ++ ⟨nm, g, v, f⟩ :: Q)) rfl H.out.map nm rfl (.pointer none) hz ?_; rw [HYES.out]; simp only [Option.getD_some, Bool.false_eq_true, if_false]; clear tok1 _t))
  refine (dkSyncFails H1.out OK.out).mono ?_
  rintro e w2 ⟨rfl, h2, hc2⟩
  have HY2 := Lib.hid (hc2.row HY1.out (by have := HYD.out; simp only [At1]; omega))
  have HCH2 := Lib.hid (HCH1.out.trans (DkCh.of1 hc2))
  have hb3 : Below w2.heap.size w2 (w2.alloc (.cells #[.bool (d.failIn == 1)] 4)) := (Below.refl _ _).alloc (Nat.le_refl _) _
  have H3 := Lib.hid (h2.below hb3)
  have HY3 : Hid ((w2.alloc (.cells #[.bool (d.failIn == 1)] 4)).heap[w.heap.size]? = some (.cells #[pf g] 89)) := Lib.hid ((hb3.block _ (Array.getElem?_eq_some_iff.1 HY2.out).1).trans HY2.out)
  have HX3 : Hid ((w2.alloc (.cells #[.bool (d.failIn == 1)] 4)).heap[w2.heap.size]? = some (.cells #[.bool (d.failIn == 1)] 4)) := Lib.hid (heap_alloc_new w2 _)
  have HCH3 := Lib.hid (HCH2.out.trans (DkCh.of_below (F := P ++ ⟨nm, g, v, f⟩ :: Q) (D := D) (M := M) hb3))
  have HZ : Hid (D < w2.heap.size ∧ w.heap.size < w2.heap.size) := Lib.hid ⟨h2.lt, (Array.getElem?_eq_some_iff.1 HY2.out).1⟩
  have OK3 : Hid d.syncs.Ok := Lib.hid OK.out.syncs
  have HCL : Hid (∀ k, Foot (P ++ ⟨nm, g, v, f⟩ :: Q) k → k < w2.heap.size) := Lib.hid (fun k hk => (h2.foot_lt (.inr (.inr hk))).2)
  clear h2 hc2 hb3
  go_wp2_with (fail)
  generalize (w2.alloc (.cells #[.bool (d.failIn == 1)] 4)) = w3 at *
  have hy5 : ∀ {w4 : World} (w5 : World), Ch (At1 D) w3 w4 → DkCh D M (P ++ ⟨nm, g, v, f⟩ :: Q) (P ++ ⟨nm, g, v, syncFl (d.failIn == 1) f⟩ :: Q) w4 w5 → w5.heap[w2.heap.size]? = some (.cells #[.bool (d.failIn == 1)] 4) := fun w5 hc4 hc5 => hc5.ch.row (hc4.row HX3.out (by have := HZ.out; simp only [At1]; omega)) (fun hs => by
    have hlt := H3.out
    rcases hs with hs | hs | hs
    · have := HZ.out; omega
    · exact (H3.out.map.ne HX3.out) hs.symm
    · have hcl := HCL.out _ hs
      omega)
  refine (dkChange_go H3.out OK3.out (show d.syncs.armedIn ≠ 1 from HA.out) _ _ okSync1 (fun w' => DkAt w' B D M d.syncs.begin (P ++ ⟨nm, g, v, syncFl (d.failIn == 1) f⟩ :: Q) ∧ w'.heap[w2.heap.size]? = some (.cells #[.bool (d.failIn == 1)] 4) ∧ DkCh D M (P ++ ⟨nm, g, v, f⟩ :: Q) (P ++ ⟨nm, g, v, syncFl (d.failIn == 1) f⟩ :: Q) w w') (fun w4 h4 hc4 => by
    have hx : w4.cell? ⟨w2.heap.size, 0, none⟩ = some (.bool (d.failIn == 1)) := cell_of_row _ _ 0 _ _ _ (hc4.row HX3.out (by have := HZ.out; simp only [At1]; omega))
    have hy : w4.cell? ⟨w.heap.size, 0, none⟩ = some (pf g) := cell_of_row _ _ 0 _ _ _ (hc4.row HY3.out (by have := HYD.out; simp only [At1]; omega))
    refine (dkSync1 h4 _ _ _ hx hy).mono ?_
    rintro e w5 ⟨rfl, h5, hc5⟩
    exact ⟨rfl, h5, (hy5 w5 hc4 hc5), HCH3.out.trans ((DkCh.of1 hc4).trans hc5)⟩)).mono ?_
  rintro e w6 ⟨rfl, h6, hb6, hc6⟩
  have c6 : w6.cell? ⟨w2.heap.size, 0, none⟩ = some (.bool (d.failIn == 1)) := cell_of_row _ _ 0 _ _ _ hb6
  have HR := Lib.hid (And.intro h6 hc6)
  clear h6 hb6 hc6 hy5
  cases hf1 : (d.failIn == 1)
  · rw [hf1] at c6
    have HF1 := Lib.hid hf1
    clear hf1
    go_wp2_with (fail)
    go_ret
    exact ⟨by rw [HF1.out]; rfl, HR.out⟩
  · rw [hf1] at c6
    have HF1 := Lib.hid hf1
    clear hf1
    go_wp2_with (fail)
    go_ret
    exact ⟨by rw [HF1.out]; rfl, HR.out⟩
set_option maxHeartbeats 1000000 in
set_option maxRecDepth 100000 in
theorem dkSync_odd {P Q : List Ent} {nm : ByteArray} {g : Nat} {v : Value} {f : Fl} (h : DkAt w B D M d (P ++ ⟨nm, g, v, f⟩ :: Q)) (ok : d.Ok) (ha : d.armedIn = 1) (ho : dOdd d = true) (hfi : ∀ x ∈ P, x.nm ≠ nm) : Calls Try.prog 44 #[pD D, .string nm] w fun e w' => e = .panicked [{ v := crashI (d.ops + 1), recovered := false }] ∧ DkAt w' B D M d.syncs.begin (P ++ ⟨nm, g, v, syncFl (d.failIn == 1) f⟩ :: Q) ∧ DkCh D M (P ++ ⟨nm, g, v, f⟩ :: Q) (P ++ ⟨nm, g, v, syncFl (d.failIn == 1) f⟩ :: Q) w w' := by
  have c0' : w.cell? ⟨D, 0, none⟩ = some (.map (some M)) := h.cell 0
  have hz : (zeroValue 89).run Try.prog w = .ok (.pointer none) w := by kernel_rfl
  have hmf : ∀ (fn : Fn) (first cap : Array Value) (w : World), (Instr.makeFunc fn first cap).run Try.prog w = .ok (.func fn first cap) w := fun _ _ _ _ => rfl
  have HYES : Hid (aget (mapL (P ++ ⟨nm, g, v, f⟩ :: Q)) nm = some (pf g)) := Lib.hid (aget_at (e := ⟨nm, g, v, f⟩) hfi)
  have H := Lib.hid h
  have OK := Lib.hid ok
  have HA := Lib.hid ha
  have HO := Lib.hid ho
  have tok1 : Hid True := Lib.hid trivial
  have HB1 : Hid (Below w.heap.size w (w.alloc (.cells #[pf g] 89))) := Lib.hid ((Below.refl _ _).alloc (Nat.le_refl _) _)
  have H1 := Lib.hid (h.below HB1.out)
  have HY1 : Hid ((w.alloc (.cells #[pf g] 89)).heap[w.heap.size]? = some (.cells #[pf g] 89)) := Lib.hid (heap_alloc_new w _)
  have HCH1 : Hid (DkCh D M (P ++ ⟨nm, g, v, f⟩ :: Q) (P ++ ⟨nm, g, v, f⟩ :: Q) w (w.alloc (.cells #[pf g] 89))) := Lib.hid (DkCh.of_below HB1.out)
  have HYD : Hid (D < w.heap.size) := Lib.hid h.lt
  clear h hfi ok ha ho
  go_enter Try.func44, Try.ntmps44
  go_wp2_with (first | (at_lookup; have _t := tok1; refine wpList_lookupL rfl kS (.tmp 12) (.tmp 13) 83 89 false rfl Try.underlying83 M (mapL (P ++ ⟨nm, g, v, f⟩ :: Q)) rfl H.out.map nm rfl (.pointer none) hz ?_; rw [HYES.out]; simp only [Option.getD_some, Bool.false_eq_true, if_false]; clear tok1 _t))
  refine (dkSyncFails H1.out OK.out).mono ?_
  rintro e w2 ⟨rfl, h2, hc2⟩
  have HY2 := Lib.hid (hc2.row HY1.out (by have := HYD.out; simp only [At1]; omega))
  have HCH2 := Lib.hid (HCH1.out.trans (DkCh.of1 hc2))
  have hb3 : Below w2.heap.size w2 (w2.alloc (.cells #[.bool (d.failIn == 1)] 4)) := (Below.refl _ _).alloc (Nat.le_refl _) _
  have H3 := Lib.hid (h2.below hb3)
  have HY3 : Hid ((w2.alloc (.cells #[.bool (d.failIn == 1)] 4)).heap[w.heap.size]? = some (.cells #[pf g] 89)) := Lib.hid ((hb3.block _ (Array.getElem?_eq_some_iff.1 HY2.out).1).trans HY2.out)
  have HX3 : Hid ((w2.alloc (.cells #[.bool (d.failIn == 1)] 4)).heap[w2.heap.size]? = some (.cells #[.bool (d.failIn == 1)] 4)) := Lib.hid (heap_alloc_new w2 _)
  have HCH3 := Lib.hid (HCH2.out.trans (DkCh.of_below (F := P ++ ⟨nm, g, v, f⟩ :: Q) (D := D) (M := M) hb3))
  have HZ : Hid (D < w2.heap.size ∧ w.heap.size < w2.heap.size) := Lib.hid ⟨h2.lt, (Array.getElem?_eq_some_iff.1 HY2.out).1⟩
  have OK3 : Hid d.syncs.Ok := Lib.hid OK.out.syncs
  have HCL : Hid (∀ k, Foot (P ++ ⟨nm, g, v, f⟩ :: Q) k → k < w2.heap.size) := Lib.hid (fun k hk => (h2.foot_lt (.inr (.inr hk))).2)
  clear h2 hc2 hb3
  go_wp2_with (fail)
  generalize (w2.alloc (.cells #[.bool (d.failIn == 1)] 4)) = w3 at *
  have hy5 : ∀ {w4 : World} (w5 : World), Ch (At1 D) w3 w4 → DkCh D M (P ++ ⟨nm, g, v, f⟩ :: Q) (P ++ ⟨nm, g, v, syncFl (d.failIn == 1) f⟩ :: Q) w4 w5 → w5.heap[w2.heap.size]? = some (.cells #[.bool (d.failIn == 1)] 4) := fun w5 hc4 hc5 => hc5.ch.row (hc4.row HX3.out (by have := HZ.out; simp only [At1]; omega)) (fun hs => by
    have hlt := H3.out
    rcases hs with hs | hs | hs
    · have := HZ.out; omega
    · exact (H3.out.map.ne HX3.out) hs.symm
    · have hcl := HCL.out _ hs
      omega)
  refine (dkChange_odd H3.out OK3.out (show d.syncs.armedIn = 1 from HA.out) (show dOdd d.syncs = true from HO.out) _ _ okSync1 (fun w' => DkAt w' B D M d.syncs.begin (P ++ ⟨nm, g, v, syncFl (d.failIn == 1) f⟩ :: Q) ∧ w'.heap[w2.heap.size]? = some (.cells #[.bool (d.failIn == 1)] 4) ∧ DkCh D M (P ++ ⟨nm, g, v, f⟩ :: Q) (P ++ ⟨nm, g, v, syncFl (d.failIn == 1) f⟩ :: Q) w w') (fun w4 h4 hc4 => by
    have hx : w4.cell? ⟨w2.heap.size, 0, none⟩ = some (.bool (d.failIn == 1)) := cell_of_row _ _ 0 _ _ _ (hc4.row HX3.out (by have := HZ.out; simp only [At1]; omega))
    have hy : w4.cell? ⟨w.heap.size, 0, none⟩ = some (pf g) := cell_of_row _ _ 0 _ _ _ (hc4.row HY3.out (by have := HYD.out; simp only [At1]; omega))
    refine (dkSync1 h4 _ _ _ hx hy).mono ?_
    rintro e w5 ⟨rfl, h5, hc5⟩
    exact ⟨rfl, h5, (hy5 w5 hc4 hc5), HCH3.out.trans ((DkCh.of1 hc4).trans hc5)⟩) (fun w6 h6 => h6.1.cell 3)).mono ?_
  rintro e w6 ⟨rfl, h6, _, hc6⟩
  have HR := Lib.hid (And.intro h6 hc6)
  clear h6 hc6 hy5
  go_wp2_with (fail)
  exact ⟨rfl, rfl, HR.out⟩
set_option maxHeartbeats 1000000 in
set_option maxRecDepth 100000 in
theorem dkSync_even {P Q : List Ent} {nm : ByteArray} {g : Nat} {v : Value} {f : Fl} (h : DkAt w B D M d (P ++ ⟨nm, g, v, f⟩ :: Q)) (ok : d.Ok) (ha : d.armedIn = 1) (ho : dOdd d = false) (hfi : ∀ x ∈ P, x.nm ≠ nm) : Calls Try.prog 44 #[pD D, .string nm] w fun e w' => e = .panicked [{ v := crashI (d.ops + 1), recovered := false }] ∧ DkAt w' B D M d.syncs.begin (P ++ ⟨nm, g, v, f⟩ :: Q) ∧ DkCh D M (P ++ ⟨nm, g, v, f⟩ :: Q) (P ++ ⟨nm, g, v, f⟩ :: Q) w w' := by
  have c0' : w.cell? ⟨D, 0, none⟩ = some (.map (some M)) := h.cell 0
  have hz : (zeroValue 89).run Try.prog w = .ok (.pointer none) w := by kernel_rfl
  have hmf : ∀ (fn : Fn) (first cap : Array Value) (w : World), (Instr.makeFunc fn first cap).run Try.prog w = .ok (.func fn first cap) w := fun _ _ _ _ => rfl
  have HYES : Hid (aget (mapL (P ++ ⟨nm, g, v, f⟩ :: Q)) nm = some (pf g)) := Lib.hid (aget_at (e := ⟨nm, g, v, f⟩) hfi)
  have H := Lib.hid h
  have OK := Lib.hid ok
  have HA := Lib.hid ha
  have HO := Lib.hid ho
  have tok1 : Hid True := Lib.hid trivial
  have HB1 : Hid (Below w.heap.size w (w.alloc (.cells #[pf g] 89))) := Lib.hid ((Below.refl _ _).alloc (Nat.le_refl _) _)
  have H1 := Lib.hid (h.below HB1.out)
  have HY1 : Hid ((w.alloc (.cells #[pf g] 89)).heap[w.heap.size]? = some (.cells #[pf g] 89)) := Lib.hid (heap_alloc_new w _)
  have HCH1 : Hid (DkCh D M (P ++ ⟨nm, g, v, f⟩ :: Q) (P ++ ⟨nm, g, v, f⟩ :: Q) w (w.alloc (.cells #[pf g] 89))) := Lib.hid (DkCh.of_below HB1.out)
  have HYD : Hid (D < w.heap.size) := Lib.hid h.lt
  clear h hfi ok ha ho
  go_enter Try.func44, Try.ntmps44
  go_wp2_with (first | (at_lookup; have _t := tok1; refine wpList_lookupL rfl kS (.tmp 12) (.tmp 13) 83 89 false rfl Try.underlying83 M (mapL (P ++ ⟨nm, g, v, f⟩ :: Q)) rfl H.out.map nm rfl (.pointer none) hz ?_; rw [HYES.out]; simp only [Option.getD_some, Bool.false_eq_true, if_false]; clear tok1 _t))
  refine (dkSyncFails H1.out OK.out).mono ?_
  rintro e w2 ⟨rfl, h2, hc2⟩
  have HY2 := Lib.hid (hc2.row HY1.out (by have := HYD.out; simp only [At1]; omega))
  have HCH2 := Lib.hid (HCH1.out.trans (DkCh.of1 hc2))
  have hb3 : Below w2.heap.size w2 (w2.alloc (.cells #[.bool (d.failIn == 1)] 4)) := (Below.refl _ _).alloc (Nat.le_refl _) _
  have H3 := Lib.hid (h2.below hb3)
  have HY3 : Hid ((w2.alloc (.cells #[.bool (d.failIn == 1)] 4)).heap[w.heap.size]? = some (.cells #[pf g] 89)) := Lib.hid ((hb3.block _ (Array.getElem?_eq_some_iff.1 HY2.out).1).trans HY2.out)
  have HX3 : Hid ((w2.alloc (.cells #[.bool (d.failIn == 1)] 4)).heap[w2.heap.size]? = some (.cells #[.bool (d.failIn == 1)] 4)) := Lib.hid (heap_alloc_new w2 _)
  have HCH3 := Lib.hid (HCH2.out.trans (DkCh.of_below (F := P ++ ⟨nm, g, v, f⟩ :: Q) (D := D) (M := M) hb3))
  have HZ : Hid (D < w2.heap.size ∧ w.heap.size < w2.heap.size) := Lib.hid ⟨h2.lt, (Array.getElem?_eq_some_iff.1 HY2.out).1⟩
  have OK3 : Hid d.syncs.Ok := Lib.hid OK.out.syncs
  have HCL : Hid (∀ k, Foot (P ++ ⟨nm, g, v, f⟩ :: Q) k → k < w2.heap.size) := Lib.hid (fun k hk => (h2.foot_lt (.inr (.inr hk))).2)
  clear h2 hc2 hb3
  go_wp2_with (fail)
  generalize (w2.alloc (.cells #[.bool (d.failIn == 1)] 4)) = w3 at *
  refine (dkChange_even H3.out OK3.out (show d.syncs.armedIn = 1 from HA.out) (show dOdd d.syncs = false from HO.out) _ _).mono ?_
  rintro e w6 ⟨rfl, h6, hc6⟩
  have HR := Lib.hid (And.intro h6 (HCH3.out.trans (DkCh.of1 hc6)))
  clear h6 hc6
  go_wp2_with (fail)
  exact ⟨rfl, rfl, HR.out⟩
end
end Go.Proofs.Ythblbmbefhlbjaa
