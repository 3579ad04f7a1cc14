/- Laid together: Base, Later, RowsG0, Maps, Maps2, Maps3, Dk0, Dk1, Dk2, Dk3, Dk4, Dk5, Dk6, Dk7, Dk8, Dk11, Dk12, Dk13, Dk14, Dk9, Dk10, Dk15, Dk16, CrcLit, CrcMath, Crc, CrcAlive, CrcSeal, EntryMath, Entry, EntryPut, EntryGet, BytesEqual, EntryAlive, CrcOpen, CrcBursts, CrcTurns, EntryTurnsMath, ScanMath, ScanJoin, CutsMath, RowsG. -/
import Derived.Test.YtodjilljcjkacaaGreatDoorRows
import Derived.WalkKit
import Derived.IntWalk
import Derived.ProofKit
import Derived.Outline
import Derived.Below
import Derived.Lib.Hide
import Derived.WalkLawsBesides
import Derived.WalkSpells
import Derived.BigQuiet
import Derived.Deep.QuietTactic
import Derived.Deep.Draws
import Derived.Maps.AppendAt
import Derived.Laws.CopyOwn
import Derived.Laws.MakeOwn
import Derived.Laws.BytesArg
import Derived.Shelf.Bytes.SlIndexAt
import Derived.Deep.RegionLaw
import Derived.RegionTactic
import Derived.BigRegion
import Derived.Laws.EntriesVeiled
import Derived.LoopTactic
import Derived.MapKept
import Derived.Maps.RangeRun
import Derived.Maps.OwnOps
import Derived.Maps.RangeWalk
import Derived.Tactics
import Derived.Tactics2
import Derived.Defers
import Derived.Recover
import Derived.Laws.Pointers
import Derived.Conc.MuLone
import Derived.Lib.SlBytesConst
import Derived.Laws.BitsAllLaws
import Derived.Deep.RegionWith

/- Words of my own for bytes in memory, over this seat's translation: a slice of bytes that reads as a list, a row of the call's own, and what append, make, copy and string(..) do with them. No condition. -/
namespace Go.Proofs.YtodjilljcjkacaaGreatDoor
open Go.RowKit

theorem drawN_below {B : Nat} {a w : World} (h : Below B a w) (n : Nat) : Below B a (w.drewN n) := ⟨h.os, h.tape, h.output, h.size, h.block⟩

/-- the value of a byte -/
abbrev u8 (x : UInt8) : Value := .int .u8 (x.toNat : Int)
abbrev u8s (l : List UInt8) : List Value := l.map u8

/-- the numbers of bytes -/
def nums (l : List UInt8) : List Int := l.map fun x => (x.toNat : Int)
theorem nums_length (l : List UInt8) : (nums l).length = l.length := by simp [nums]
theorem bytesOf_nums (l : List UInt8) : Lib.bytesOf (nums l) = l := by
  unfold Lib.bytesOf nums
  rw [List.map_map]
  conv => rhs; rw [← List.map_id l]
  exact List.map_congr_left fun x _ => by simp

theorem u8s_one (l : List UInt8) : ∀ u ∈ u8s l, u.oneCell' = true := by
  intro u hu
  obtain ⟨x, _, rfl⟩ := List.mem_map.1 hu
  rfl
theorem u8s_get {l : List UInt8} {j : Nat} {u : Value} (h : (u8s l)[j]? = some u) : ∃ x, l[j]? = some x ∧ u = u8 x := by
  rw [List.getElem?_map] at h
  cases hx : l[j]? with
  | none => rw [hx] at h; cases h
  | some x => rw [hx] at h; exact ⟨x, rfl, (Option.some.inj h).symm⟩

/-- the slice '.slice A n c' reads as the bytes l in the world w -/
def Bs (w : World) (A : Option Addr) (n c : Nat) (l : List UInt8) : Prop :=
  l.length = n ∧ n ≤ c ∧ c ≤ maxLen ∧ (0 < n → ∃ b o, A = some ⟨b, o, none⟩ ∧ ∀ i x, l[i]? = some x → w.cell? ⟨b, o + i, none⟩ = some (u8 x))

section
variable {w w' : World} {A : Option Addr} {n c : Nat} {l : List UInt8}

theorem Bs.len (h : Bs w A n c l) : l.length = n := h.1
theorem Bs.le (h : Bs w A n c l) : n ≤ c := h.2.1
theorem Bs.max (h : Bs w A n c l) : c ≤ 9223372036854775807 := by have := h.2.2.1; simpa only [maxLen] using this
theorem Bs.nmax (h : Bs w A n c l) : n ≤ 9223372036854775807 := Nat.le_trans h.le h.max

/-- where there is a byte, the address and the cells -/
theorem Bs.at_ (h : Bs w A n c l) (hn : 0 < n) : ∃ b o, A = some ⟨b, o, none⟩ ∧ b < w.heap.size ∧ ∀ i x, l[i]? = some x → w.cell? ⟨b, o + i, none⟩ = some (u8 x) := by
  obtain ⟨b, o, e, hc⟩ := h.2.2.2 hn
  have hl : 0 < l.length := by rw [h.1]; exact hn
  exact ⟨b, o, e, World.block_lt_of_cell? w _ (hc 0 _ (List.getElem?_eq_getElem hl)), hc⟩

theorem Bs.below (h : Bs w A n c l) (hb : Below w.heap.size w w') : Bs w' A n c l :=
  ⟨h.1, h.2.1, h.2.2.1, fun hn => by
    obtain ⟨b, o, e, hlt, hc⟩ := h.at_ hn
    exact ⟨b, o, e, fun i x hx => (hb.cell (p := ⟨b, o + i, none⟩) hlt).trans (hc i x hx)⟩⟩
theorem Bs.alloc (h : Bs w A n c l) (o : Obj) : Bs (w.alloc o) A n c l := h.below ((Below.refl _ _).alloc (Nat.le_refl _) o)
theorem Bs.drew (h : Bs w A n c l) : Bs w.drew A n c l := h
theorem Bs.drewN (h : Bs w A n c l) (k : Nat) : Bs (w.drewN k) A n c l := by
  refine ⟨h.1, h.2.1, h.2.2.1, fun hn => ?_⟩
  obtain ⟨b, o, e, _, hc⟩ := h.at_ hn
  exact ⟨b, o, e, fun i x hx => by have := hc i x hx; simpa using this⟩

theorem Bs.nil (w : World) (c : Nat) (A : Option Addr) (hc : c ≤ maxLen) : Bs w A 0 c [] := ⟨rfl, Nat.zero_le _, hc, fun h => absurd h (by omega)⟩
theorem Bs.none_ (w : World) : Bs w none 0 0 [] := Bs.nil w 0 none (by simp [maxLen])
theorem Bs.empty (h : Bs w A 0 c l) : l = [] := List.eq_nil_of_length_eq_zero h.1

/-- a block that holds them -/
theorem Bs.of_block {g : Nat} {t : TypeId} {f : Nat × Nat} {cur : List Value} (hg : w.heap[g]? = some (.cells cur.toArray t f)) (hcur : cur.take l.length = u8s l) (hn : l.length = n) (hnc : n ≤ c) (hc : c ≤ maxLen) :
    Bs w (some ⟨g, 0, none⟩) n c l := by
  subst hn
  refine ⟨rfl, hnc, hc, fun _ => ⟨g, 0, rfl, fun i x hx => ?_⟩⟩
  rw [Nat.zero_add, cell_of_row w g i cur.toArray t f hg]
  have h1 : (u8s l)[i]? = some (u8 x) := by simp [u8s, hx]
  rw [← hcur, List.getElem?_take] at h1
  split at h1
  · simpa using h1
  · cases h1

/-- a new block, written out: the block's number and its cells as the walk spells them -/
theorem Bs.lit (w : World) (l : List UInt8) (t : TypeId) (C : Array Value) (g : Nat) (hg : g = w.heap.size) (hC : C = (u8s l).toArray) (hn : n = l.length) (hl : l.length ≤ maxLen) : Bs (w.alloc (.cells C t)) (some ⟨g, 0, none⟩) n n l := by
  subst hg hC hn
  exact Bs.of_block (heap_alloc_new w _) (by rw [List.take_of_length_le (by simp)]) rfl (Nat.le_refl _) hl

/-- a cut -/
theorem Bs.cut (h : Bs w A n c l) {i j : Nat} (hij : i ≤ j) (hj : j ≤ n) : Bs w (if c = i then A else A.map (·.add i)) (j - i) (c - i) ((l.take j).drop i) := by
  refine ⟨by rw [List.length_drop, List.length_take, h.1]; omega, by have := h.le; omega, Nat.le_trans (Nat.sub_le _ _) h.2.2.1, fun hn => ?_⟩
  obtain ⟨b, o, rfl, hc⟩ := h.2.2.2 (by omega)
  have := h.le
  rw [if_neg (by omega)]
  refine ⟨b, o + i, by simp [Addr.add_lit], fun k x hx => ?_⟩
  rw [Nat.add_assoc]
  refine hc _ x ?_
  rw [← hx, List.getElem?_drop, List.getElem?_take]
  split
  · rfl
  · rw [List.getElem?_drop, List.getElem?_take, if_neg (by assumption)] at hx; cases hx

/-- the numbers, as the library tells them -/
theorem Bs.cells (h : Bs w A n c l) (hn : 0 < n) : ∃ b o, A = some ⟨b, o, none⟩ ∧ ∀ i, i < n → w.cell? ⟨b, o + i, none⟩ = some (.int .u8 ((nums l).getD i 0)) := by
  obtain ⟨b, o, rfl, hc⟩ := h.2.2.2 hn
  refine ⟨b, o, rfl, fun i hi => ?_⟩
  have hl : i < l.length := by rw [h.1]; exact hi
  rw [hc i _ (List.getElem?_eq_getElem hl)]
  simp [nums, hl]
end

/-- the text of bytes -/
abbrev txt (l : List UInt8) : ByteArray := ⟨l.toArray⟩
theorem strOfNums_nums (l : List UInt8) : strOfNums (nums l) = txt l := by
  apply ByteArray.ext
  apply Array.toList_inj.1
  have := bytesOf_nums l
  unfold Lib.bytesOf at this
  simpa [strOfNums] using this

section
variable {P : Program} {w : World} {A : Option Addr} {n c : Nat} {l : List UInt8}

/-- 'string(b)' -/
theorem Bs.str (h : Bs w A n c l) (src e dst : TypeId) (hs : P.underlying src = some (.slice e)) (he : P.underlying e = some (.int .u8)) (hd : P.underlying dst = some .string) :
    (convert src dst (.slice A n c)).run P w = .ok (.string (txt l)) w := by
  rcases Nat.eq_zero_or_pos n with h0 | h0
  · subst h0
    obtain rfl := h.empty
    rcases A with _ | a
    · exact run_convert_bytes_nil (P := P) w src e hs he 0 c dst hd
    · rw [run_convert_bytes_string w src dst e _ 0 c hs he hd]
      simp [Conv.bytesToString, loadCells]
      rfl
  · obtain ⟨b, o, rfl, hc⟩ := h.cells h0
    rw [run_convert_bytes_arg w src e hs he b o n c (nums l) (by rw [nums_length, h.1]) hc dst hd, strOfNums_nums]
end
/-- a row of the call's own, from block 'base' on, that holds the bytes l -/
def Own (E : TypeId) (w : World) (base : Nat) (v : Value) (l : List UInt8) : Prop := w.ownsRow base E 1 v l.length (u8s l)

section
variable {E : TypeId} {w w' : World} {base : Nat} {v : Value} {l : List UInt8}
theorem Own.alloc (h : Own E w base v l) (o : Obj) : Own E (w.alloc o) base v l := World.ownsRow.alloc h o
theorem Own.nil (E : TypeId) (w : World) (base : Nat) : Own E w base (.slice none 0 0) [] := World.ownsRow_nil w base E 1
theorem Own.made (E : TypeId) (w : World) (cur : Array Value) (cap : Nat) (hb : base ≤ w.heap.size) (hm : cap ≤ maxLen) (hs : cur.size = cap) :
    Own E (w.alloc (.cells cur E)) base (.slice (some ⟨w.heap.size, 0, none⟩) 0 cap) [] := World.ownsRow_made w cur cap hb hm (by omega)
/-- a literal of bytes -/
theorem Own.lit (E : TypeId) (w : World) (l : List UInt8) (hb : base ≤ w.heap.size) (hm : l.length ≤ maxLen) :
    Own E (w.alloc (.cells (u8s l).toArray E)) base (.slice (some ⟨w.heap.size, 0, none⟩) l.length l.length) l :=
  ⟨by simp, .inr ⟨w.heap.size, l.length, (u8s l).toArray, rfl, hb, heap_alloc_new w _, Nat.le_refl _, hm, by simp, by rw [Nat.mul_one]; exact List.take_of_length_le (by simp)⟩⟩
theorem Own.below (h : Own E w base v l) (hb : Below w.heap.size w w') : Own E w' base v l := by
  refine ⟨h.1, ?_⟩
  rcases h.2 with hn | ⟨g, cap, cur, e, h1, h2, h3⟩
  · exact .inl hn
  · exact .inr ⟨g, cap, cur, e, h1, (hb.block g (Array.getElem?_eq_some_iff.1 h2).1).trans h2, h3⟩
theorem Own.bs (h : Own E w base v l) : ∃ A c, v = .slice A l.length c ∧ Bs w A l.length c l ∧ ∀ b, A = some b → base ≤ b.block := by
  rcases h.2 with ⟨rfl, h0⟩ | ⟨g, cap, cur, rfl, h1, h2, h3, h4, _, h6⟩
  · have : l = [] := List.eq_nil_of_length_eq_zero h0
    subst this
    exact ⟨none, 0, rfl, Bs.none_ w, fun _ hb => by cases hb⟩
  · refine ⟨_, cap, rfl, Bs.of_block (cur := cur.toList) (f := (0, 0)) (t := E) (by simpa using h2) (by simpa using h6) rfl h3 h4, fun b hb => ?_⟩
    injection hb with hb
    subst hb
    exact h1
end

section
variable {P : Program} {w : World}

/-- 'append(s, x...)' onto a row of the call's own, the source nil, empty or not -/
theorem run_app (base : Nat) (t ty e : TypeId) (ht : P.underlying t = some (.slice e)) (hi : (P.info? e).map (fun i => (i.zero, i.size, i.bytes)) = some (some (.int .u8 0), 1, 1))
    (v : Value) (xs : List UInt8) (hown : Own e w base v xs) (A : Option Addr) (m c : Nat) (l : List UInt8) (hl : Bs w A m c l) (hbytes : xs.length + m ≤ 140737488355328) (hbase : base ≤ w.heap.size) :
    ∃ v' w', (Builtin.append_ #[t, t] ty #[v, .slice A m c]).run P w = .ok v' w' ∧ Own e w' base v' (xs ++ l) ∧ Below base w w' ∧ w.grownBy w' v.ownBlock := by
  obtain ⟨i, hi, hzz⟩ := Option.map_eq_some_iff.1 hi
  simp only [Prod.mk.injEq] at hzz
  obtain ⟨hz, hsz, hby⟩ := hzz
  have hlen := hl.len
  rcases A with _ | a
  · have hm : m = 0 := by
      rcases Nat.eq_zero_or_pos m with h | h
      · exact h
      · obtain ⟨b, o, e, _⟩ := hl.2.2.2 h
        cases e
    subst hm
    obtain rfl := hl.empty
    refine ⟨v, w, ?_, by simpa using hown, Below.refl _ _, World.grownBy.refl w _⟩
    rcases hown.2 with ⟨rfl, _⟩ | ⟨g, cap, cur, rfl, _, _, hnc, _⟩
    · simp [Builtin.append_, run_underlying ht, sizeOf, typeInfo, hi, Builtin.lenOf, Builtin.firstCells]
    · simp [Builtin.append_, run_underlying ht, sizeOf, typeInfo, hi, Builtin.lenOf, Builtin.firstCells, hnc, storeCells]
  · obtain ⟨v', w', hrun, h2, h3, _, _⟩ := run_append_own_at (P := P) w base t ty e i (.int .u8 0) 1 1 ht hi hz hsz hby rfl (by omega) v xs.length (u8s xs) hown a m c (u8s l) (by simp [hlen])
      (fun j u hu => by
        obtain ⟨x, hx, rfl⟩ := u8s_get hu
        have hm : 0 < m := by have := (List.getElem?_eq_some_iff.1 hx).1; omega
        obtain ⟨b, o, e, _, hc⟩ := hl.at_ hm
        injection e with e
        subst e
        rw [Addr.add_lit]
        exact hc j x hx) (u8s_one l) (by simp only [maxLen]; omega) (by omega) hbase
    refine ⟨v', w', hrun, ?_, (Below.refl _ _).grown h3 hbase fun k hk => (World.ownsRow.lt hown k hk).1, h3⟩
    unfold Own
    rw [List.length_append, hlen]
    simpa using h2

theorem wpList_app {ops : Array Oper} {rest : List Oper} {o : Oper} {a : Act} {Q : Exit → Act → World → Prop} (hgd : o.guard = none) (s x : Operand) (t : TypeId)
    (ho : o.op = .call { callee := .builtin .append, args := #[s, x], argTypes := #[t, t] }) (base : Nat) (e : TypeId) (ht : P.underlying t = some (.slice e)) (hi : (P.info? e).map (fun i => (i.zero, i.size, i.bytes)) = some (some (.int .u8 0), 1, 1))
    (v : Value) (xs : List UInt8) (hs : a.eval s = v) (hown : Own e w base v xs) (A : Option Addr) (m c : Nat) (l : List UInt8) (hx : a.eval x = .slice A m c) (hl : Bs w A m c l) (hbytes : xs.length + m ≤ 140737488355328) (hbase : base ≤ w.heap.size)
    (h : ∀ v' w', Own e w' base v' (xs ++ l) → Below base w w' → w.grownBy w' v.ownBlock → wpList P ops Q rest (a.put o.dst v') w') : wpList P ops Q (o :: rest) a w :=
  wpList_plain hgd fun K hK => by
    obtain ⟨v', w', hrun, h2, h3, h4⟩ := run_app (P := P) base t o.type e ht hi v xs hown A m c l hl hbytes hbase
    unfold Oper.wp execOp
    simp only [ho, resolve, invoke, builtin, Sem.run_bind, Sem.run_pure, Result.andThen_ok, List.map_toArray, List.map_cons, List.map_nil, hs, hx, hrun]
    exact hK _ _ (h v' w' h2 h3 h4)
end
section
variable {P : Program}
/-- make([]byte, k, c) -/
theorem run_mk (t e : TypeId) (ht : P.underlying t = some (.slice e)) (hi : (P.info? e).map (fun i => (i.zero, i.size, i.bytes)) = some (some (.int .u8 0), 1, 1)) (k c : Nat) (hk : k ≤ c) (hc : c ≤ 140737488355328) (w : World) :
    (Instr.makeSlice t (.int .i64 (k : Int)) (.int .i64 (c : Int))).run P w = .ok (.slice (some ⟨w.heap.size, 0, none⟩) k c) (w.alloc (.cells (Array.replicate c (.int .u8 0)) e)) := by
  obtain ⟨i, hi, hzz⟩ := Option.map_eq_some_iff.1 hi
  simp only [Prod.mk.injEq] at hzz
  obtain ⟨hz, hsz, hby⟩ := hzz
  have hr := run_make (P := P) w t e i (.int .u8 0) ht hi hz .i64 .i64 (k : Int) (c : Int) (by omega) (by omega) (by rw [hby]; omega) (by omega)
  simp only [Int.toNat_natCast, hsz, Nat.mul_one] at hr
  rw [hr]
  congr 2
  congr 1
  apply Array.toList_inj.1
  simp only [madeCells, Array.toList_map, Array.toList_range, Array.toList_replicate]
  apply List.ext_getElem (by simp)
  intro j h1 h2
  simp [Value.cells, Nat.mod_one]
end

section
variable {P : Program} {w : World}
end
section
variable {E : TypeId} {w w' : World} {base : Nat} {v : Value} {l : List UInt8}
theorem Own.form (h : Own E w base v l) (h0 : 0 < l.length) : ∃ g c, v = .slice (some ⟨g, 0, none⟩) l.length c ∧ base ≤ g ∧ g < w.heap.size := by
  rcases h.2 with ⟨_, h1⟩ | ⟨g, cap, cur, rfl, h1, h2, _⟩
  · omega
  · exact ⟨g, cap, rfl, h1, (Array.getElem?_eq_some_iff.1 h2).1⟩
theorem Own.cell {g c : Nat} (h : Own E w base (.slice (some ⟨g, 0, none⟩) l.length c) l) {j : Nat} {x : UInt8} (hx : l[j]? = some x) : w.cell? ⟨g, j, none⟩ = some (u8 x) := by
  have hj : j < l.length := (List.getElem?_eq_some_iff.1 hx).1
  have := World.ownsRow.cellAt h j (by omega)
  rw [this]
  simp [u8s, hx]
theorem Own.frozen {g c : Nat} (h : Own E w base (.slice (some ⟨g, 0, none⟩) l.length c) l) (j : Nat) : w.frozen? ⟨g, j, none⟩ = false := World.ownsRow.frozenAt h j
theorem Own.store {g c : Nat} (h : Own E w base (.slice (some ⟨g, 0, none⟩) l.length c) l) (j : Nat) (x : UInt8) : Own E (w.setCell ⟨g, j, none⟩ (u8 x)) base (.slice (some ⟨g, 0, none⟩) l.length c) (l.set j x) := by
  have := (World.ownsRow.stored h j (u8 x)).1
  unfold Own
  rw [List.length_set]
  rw [show u8s (l.set j x) = (u8s l).set j (u8 x) from by simp [u8s]]
  exact this
end
end Go.Proofs.YtodjilljcjkacaaGreatDoor
/- A region that draws its order, whose operations only read, and whose callees hand back one value and leave all that was there: one walk, in the order of the text. -/
namespace Go.Proofs.YtodjilljcjkacaaGreatDoor
open Go.RowKit

theorem byteInfo : (Tryz.prog.info? 5).map (fun i => (i.zero, i.size, i.bytes)) = some (some (.int .u8 0), 1, 1) := by kernel_rfl

/-- a world that comes behind w: all that was there is as it was -/
structure Later (w : World) where
  u : World
  h : Below w.heap.size w u
instance (w : World) : Nonempty (Later w) := ⟨⟨w, Below.refl _ _⟩⟩

theorem region_later {P : Program} {id : Nat} {Q : Exit → Act → World → Prop} {a : Act} {w : World} {l : List Oper} (hm : P.follows .mixedOrders = true) (hB : Region.lexB .any l.toArray = true)
    (h : wpQuiet P l.toArray (fun w' => ∃ n : Later w, w' = n.u) (fun a' => ∀ n : Later w, Q .normal a' n.u) l a) : (Code.region id l.toArray true).wp P Q a w :=
  wp_region_quiet (C := fun w' => ∃ n : Later w, w' = n.u) hm hB ⟨⟨{ w with drawn := w.drawn + 1 }, ⟨rfl, rfl, rfl, Nat.le_refl _, fun _ _ => rfl⟩⟩, rfl⟩ (by
    have e : (fun a' => ∀ w', (∃ n : Later w, w' = n.u) → Q .normal a' w') = fun a' => ∀ n : Later w, Q .normal a' n.u :=
      funext fun a' => propext ⟨fun h n => h _ ⟨n, rfl⟩, fun h w' ⟨n, e⟩ => e ▸ h n⟩
    rw [e]
    simpa using h)

theorem Calls.later {P : Program} {f : FuncId} {args : Array Value} {w : World} {n : Later w} {v : Value}
    (h : Calls P f args n.u fun e w' => e = .returned v ∧ Below n.u.heap.size n.u w') : Calls P f args n.u fun e w'' => e = .returned v ∧ ∃ m : Later w, w'' = m.u :=
  h.mono fun _ w' ⟨he, hb⟩ => ⟨he, ⟨w', n.h.trans (hb.mono n.h.size)⟩, rfl⟩
theorem Later.bs {w : World} (n : Later w) {A : Option Addr} {k c : Nat} {l : List UInt8} (h : Bs w A k c l) : Bs n.u A k c l := h.below n.h
theorem Bs.take {w : World} {A : Option Addr} {n c : Nat} {l : List UInt8} (h : Bs w A n c l) {j : Nat} (hj : j ≤ n) : Bs w A j c (l.take j) :=
  ⟨by rw [List.length_take, h.1]; omega, Nat.le_trans hj h.le, h.2.2.1, fun h0 => by
    obtain ⟨b, o, e, hc⟩ := h.2.2.2 (by omega)
    refine ⟨b, o, e, fun i x hx => hc i x ?_⟩
    rw [List.getElem?_take] at hx
    split at hx
    · exact hx
    · cases hx⟩
/-- the whole of a block -/
theorem Bs.block {w : World} {g n : Nat} {t : TypeId} {f : Nat × Nat} {l : List UInt8} (h : w.heap[g]? = some (.cells (u8s l).toArray t f)) (hn : l.length = n) (hm : n ≤ maxLen) : Bs w (some ⟨g, 0, none⟩) n n l :=
  Bs.of_block h (by rw [List.take_of_length_le (by simp)]) hn (Nat.le_refl _) hm
/-- copy(dst, src): dst a block of the call's own from place 'off' on, src of no more bytes than there is place for -/
theorem wpList_cpyTo {P : Program} {w : World} {ops : Array Oper} {rest : List Oper} {o : Oper} {a : Act} {Q : Exit → Act → World → Prop} (hgd : o.guard = none) (d s : Operand) (dT sT : TypeId)
    (ho : o.op = .call { callee := .builtin .copy, args := #[d, s], argTypes := #[dT, sT] }) (e : TypeId) (hu : P.underlying dT = some (.slice e)) (hi : (P.info? e).map (fun i => (i.zero, i.size, i.bytes)) = some (some (.int .u8 0), 1, 1))
    (g off m cap : Nat) (D : Option Addr) (hd : a.eval d = .slice D m cap) (cur : List UInt8) (t : TypeId) (hg : w.heap[g]? = some (.cells (u8s cur).toArray t (0, 0)))
    (A : Option Addr) (n' n c : Nat) (l : List UInt8) (hs : a.eval s = .slice A n' c) (hB : Bs w A n c l) (hD : 0 < n → D = some ⟨g, off, none⟩) (hn : n = min n' m) (hcur : off + n ≤ cur.length)
    (h : ∀ w', Hid (w'.heap[g]? = some (.cells (u8s (cur.take off ++ (l ++ cur.drop (off + n)))).toArray t (0, 0))) → Below g w w' → wpList P ops Q rest (a.put o.dst (.int .i64 (n : Int))) w') : wpList P ops Q (o :: rest) a w := by
  have hl := hB.len
  refine wpList_copy_splice hgd d s dT sT ho e hu (by obtain ⟨i, hi, hzz⟩ := Option.map_eq_some_iff.1 hi; simp only [Prod.mk.injEq] at hzz; rw [hi]; simp [hzz.2.1]) D A m cap n' c hd hs g off (u8s cur) t hg (u8s l) (by simp only [List.length_map, hl]; exact hn)
    (fun hp => ?_) (by simp [hl]; exact hcur) (u8s_one l) g w (Below.refl _ _) (Nat.le_refl _) (fun w' hw' hb => ?_)
  · have h0 : 0 < n := by simpa [hl] using hp
    obtain ⟨b, o', rfl, _, hc⟩ := hB.at_ h0
    refine ⟨hD h0, _, rfl, fun j v hj => ?_⟩
    obtain ⟨x, hx, rfl⟩ := u8s_get hj
    rw [Addr.add_lit]
    exact hc j x hx
  · have hsp : splice (u8s cur) off (u8s l) = u8s (cur.take off ++ (l ++ cur.drop (off + n))) := by
      unfold splice
      simp [u8s, hl]
    have hh := hw'.out
    rw [hsp] at hh
    have := h w' (Lib.hid hh) hb
    simpa [hl, goInt] using this
/-- noughts, as make lays them -/
theorem zero_cells (r : Nat) : Array.replicate r (Value.int .u8 0) = (u8s (List.replicate r 0)).toArray := by simp [u8s]
/-- make([]byte, k) -/
theorem mk_zeros (x : Int) (k : Nat) (hx : x = (k : Int)) (hk : k ≤ 140737488355328) : ∃ Z : List UInt8, Hid (Z = List.replicate k 0) ∧ Z.length = k ∧ ∀ w : World, (Instr.makeSlice 40 (.int .i64 x) (.int .i64 x)).run Tryz.prog w = .ok (.slice (some ⟨w.heap.size, 0, none⟩) k k) (w.alloc (.cells (u8s Z).toArray 5)) := by
  subst hx
  refine ⟨List.replicate k 0, Lib.hid rfl, by simp, fun w => ?_⟩
  rw [← zero_cells]
  exact run_mk 40 5 Tryz.underlying40 byteInfo k k (Nat.le_refl _) (by omega) w
theorem Bs.drop {w : World} {A : Option Addr} {n c : Nat} {l : List UInt8} (h : Bs w A n c l) {i : Nat} (hi : i ≤ n) : Bs w (if c = i then A else A.map (·.add i)) (n - i) (c - i) (l.drop i) := by
  have := h.cut (i := i) (j := n) hi (Nat.le_refl _)
  rwa [List.take_of_length_le (by rw [h.len]; exact Nat.le_refl _)] at this
/-- what a law comes to -/
def True_ (w : World) (e : Ending) (w' : World) : Prop := e = .returned (.bool true) ∧ Below w.heap.size w w'
end Go.Proofs.YtodjilljcjkacaaGreatDoor
/- Rows of bytes in memory: what may change. No condition. -/
namespace Go.Proofs.YtodjilljcjkacaaGreatDoor
open Go.RowKit

/-- only blocks of S may have been written; the others that were there are as they were -/
structure Ch (S : Nat → Prop) (w w' : World) : Prop where
  os : w'.os = w.os
  tape : w'.tape = w.tape
  output : w'.output = w.output
  size : w.heap.size ≤ w'.heap.size
  block : ∀ k, k < w.heap.size → ¬ S k → w'.heap[k]? = w.heap[k]?
theorem Ch.refl (S : Nat → Prop) (w : World) : Ch S w w := ⟨rfl, rfl, rfl, Nat.le_refl _, fun _ _ _ => rfl⟩
theorem Ch.trans {S S' : Nat → Prop} {a b c : World} (h : Ch S a b) (k : Ch S' b c) (hS : ∀ x, x < a.heap.size → S' x → S x) : Ch S a c :=
  ⟨k.os.trans h.os, k.tape.trans h.tape, k.output.trans h.output, Nat.le_trans h.size k.size, fun i hi hn => (k.block i (Nat.lt_of_lt_of_le hi h.size) (fun hs => hn (hS i hi hs))).trans (h.block i hi hn)⟩
theorem Ch.of_below {S : Nat → Prop} {w w' : World} (h : Below w.heap.size w w') : Ch S w w' := ⟨h.os, h.tape, h.output, h.size, fun k hk _ => h.block k hk⟩
theorem Ch.of_grown {S : Nat → Prop} {w w' : World} {row : Option Nat} (h : w.grownBy w' row) (hr : ∀ k, row = some k → S k) : Ch S w w' :=
  ⟨h.os, h.tape, h.output, h.size, fun k hk hn => h.block k hk (fun e => hn (hr k e.symm))⟩
theorem Ch.set {S : Nat → Prop} {w w' : World} (h : Ch S w w') {a : Addr} (ha : S a.block) (u : Value) : Ch S w (w'.setCell a u) :=
  ⟨h.os, h.tape, h.output, Nat.le_trans h.size (by simp [World.setCell]), fun k hk hn => (Below.heap_setCell _ _ _ _ (fun e => hn (by rw [e]; exact ha))).trans (h.block k hk hn)⟩
/-- block D alone -/
abbrev At1 (D : Nat) : Nat → Prop := fun x => x = D
theorem Ch.set1 {D : Nat} {w w' : World} (h : Ch (At1 D) w w') (j : Nat) (u : Value) : Ch (At1 D) w (w'.setCell ⟨D, j, none⟩ u) := h.set (a := ⟨D, j, none⟩) rfl u
theorem Ch.drew {S : Nat → Prop} {w w' : World} (h : Ch S w w') : Ch S w w'.drew := ⟨h.os, h.tape, h.output, h.size, h.block⟩
theorem Ch.below {S : Nat → Prop} {B : Nat} {w w' : World} (h : Ch S w w') (hS : ∀ k, S k → B ≤ k) (hB : B ≤ w.heap.size) : Below B w w' :=
  ⟨h.os, h.tape, h.output, h.size, fun k hk => h.block k (by omega) (fun hs => by have := hS k hs; omega)⟩
theorem Ch.row {S : Nat → Prop} {w w' : World} (h : Ch S w w') {k : Nat} {o : Obj} (hk : w.heap[k]? = some o) (hn : ¬ S k) : w'.heap[k]? = some o :=
  (h.block k (Array.getElem?_eq_some_iff.1 hk).1 hn).trans hk
theorem own_form {w : World} {base n : Nat} {e : TypeId} {v : Value} {xs : List Value} (h : w.ownsRow base e 1 v n xs) : ∃ A c, v = .slice A n c := by
  rcases h.2 with ⟨rfl, rfl⟩ | ⟨g, cap, cur, rfl, _⟩
  · exact ⟨_, _, rfl⟩
  · exact ⟨_, _, rfl⟩
theorem Own.ch {S : Nat → Prop} {w w' : World} {B : Nat} {v : Value} {l : List UInt8} (h : Own 5 w B v l) (c : Ch S w w') (hn : ∀ k, v.ownBlock = some k → ¬ S k) : Own 5 w' B v l := by
  refine ⟨h.1, ?_⟩
  rcases h.2 with hnil | ⟨g, cap, cur, e, h1, h2, h3⟩
  · exact .inl hnil
  · exact .inr ⟨g, cap, cur, e, h1, c.row h2 (hn g (by rw [e]; rfl)), h3⟩
theorem Own.lt {w : World} {B : Nat} {v : Value} {l : List UInt8} (h : Own 5 w B v l) (k : Nat) (hk : v.ownBlock = some k) : B ≤ k ∧ k < w.heap.size := World.ownsRow.lt h k hk
/-- 'append(s, x...)' onto a row of the call's own; where the new row lies -/
theorem wpList_appAt {ops : Array Oper} {rest : List Oper} {o : Oper} {a : Act} {Q : Exit → Act → World → Prop} {w : World} (hgd : o.guard = none) (s x : Operand) (t : TypeId)
    (ho : o.op = .call { callee := .builtin .append, args := #[s, x], argTypes := #[t, t] }) (base : Nat) (e : TypeId) (z : Value) (bytes : Nat) (ht : Tryz.prog.underlying t = some (.slice e)) (hi : (Tryz.prog.info? e).map (fun i => (i.zero, i.size, i.bytes)) = some (some z, 1, bytes))
    (hz : z.cells.size = 1) (hby : bytes ≤ 64) (v : Value) (n : Nat) (xs : List Value) (hs : a.eval s = v) (hown : w.ownsRow base e 1 v n xs) (ad : Addr) (m c : Nat) (news : List Value) (hx : a.eval x = .slice (some ad) m c) (hl : news.length = m)
    (hnews : ∀ (j : Nat) (u : Value), news[j]? = some u → w.cell? (ad.add j) = some u) (h1 : ∀ u ∈ news, u.oneCell' = true) (hn : n + m ≤ 1099511627776) (hbase : base ≤ w.heap.size)
    (h : ∀ v' w', w'.ownsRow base e 1 v' (n + m) (xs ++ news) → w.grownBy w' v.ownBlock → (v'.ownBlock = v.ownBlock ∨ v'.ownBlock = some w.heap.size) → wpList Tryz.prog ops Q rest (a.put o.dst v') w') : wpList Tryz.prog ops Q (o :: rest) a w :=
  wpList_plain hgd fun K hK => by
    obtain ⟨i, hi, hzz⟩ := Option.map_eq_some_iff.1 hi
    simp only [Prod.mk.injEq] at hzz
    obtain ⟨v', w', hrun, h2, h3, _, h5⟩ := run_append_own_at (P := Tryz.prog) w base t o.type e i z 1 bytes ht hi hzz.1 hzz.2.1 hzz.2.2 hz (by decide) v n xs hown ad m c news (by rw [hl, Nat.mul_one]) hnews h1 (by simp only [maxLen]; omega)
      (Nat.le_trans (Nat.mul_le_mul hn hby) (by decide)) hbase
    unfold Oper.wp execOp
    simp only [ho, resolve, invoke, builtin, Sem.run_bind, Sem.run_pure, Result.andThen_ok, List.map_toArray, List.map_cons, List.map_nil, hs, hx, hrun]
    exact hK _ _ (h v' w' h2 h3 h5)
theorem own_ne {w : World} {base n g : Nat} {e t : TypeId} {v : Value} {xs : List Value} {cs : Array Value} {fr : Nat × Nat} (h : w.ownsRow base e 1 v n xs) (hg : w.heap[g]? = some (.cells cs t fr)) (ht : t ≠ e) : some g ≠ v.ownBlock := by
  rcases h.2 with ⟨rfl, _⟩ | ⟨g', cap, cur, rfl, _, hgg, _⟩
  · simp [Value.ownBlock]
  · intro e
    simp [Value.ownBlock] at e
    subst e
    rw [hg] at hgg
    injection hgg with hgg
    injection hgg with _ h2
    exact ht h2
theorem Bs.ch {S : Nat → Prop} {w w' : World} {A : Option Addr} {n c : Nat} {l : List UInt8} (h : Bs w A n c l) (hc : Ch S w w') (hn : 0 < n → ∀ b, A = some b → ¬ S b.block) : Bs w' A n c l :=
  ⟨h.1, h.2.1, h.2.2.1, fun h0 => by
    obtain ⟨b, o, rfl, hlt, hcell⟩ := h.at_ h0
    refine ⟨b, o, rfl, fun i x hx => ?_⟩
    have hb := hc.block b hlt (hn h0 _ rfl)
    exact (World.cell?_of_block (w := w) (a := ⟨b, o + i, none⟩) hb).trans (hcell i x hx)⟩
theorem own_ty {w : World} {B n : Nat} {e : TypeId} {v : Value} {xs : List Value} (h : w.ownsRow B e 1 v n xs) (k : Nat) (hk : v.ownBlock = some k) : ∃ cur, w.heap[k]? = some (.cells cur e (0, 0)) := by
  rcases h.2 with ⟨rfl, _⟩ | ⟨g, cap, cur, rfl, _, h2, _⟩
  · cases hk
  · simp only [Value.ownBlock, Option.some.injEq] at hk
    subst hk
    exact ⟨cur, h2⟩
theorem own_below {w w' : World} {B n : Nat} {e : TypeId} {v : Value} {xs : List Value} (h : w.ownsRow B e 1 v n xs) (hb : Below w.heap.size w w') : w'.ownsRow B e 1 v n xs := by
  refine ⟨h.1, ?_⟩
  rcases h.2 with hn | ⟨g, cap, cur, q, q1, q2, q3⟩
  · exact .inl hn
  · exact .inr ⟨g, cap, cur, q, q1, (hb.block g (Array.getElem?_eq_some_iff.1 q2).1).trans q2, q3⟩
theorem own_ch {w w' : World} {S : Nat → Prop} {B n : Nat} {e : TypeId} {v : Value} {xs : List Value} (h : w.ownsRow B e 1 v n xs) (c : Ch S w w') (hS : ∀ k, v.ownBlock = some k → ¬ S k) : w'.ownsRow B e 1 v n xs := by
  refine ⟨h.1, ?_⟩
  rcases h.2 with hn | ⟨g, cap, cur, q, q1, q2, q3⟩
  · exact .inl hn
  · exact .inr ⟨g, cap, cur, q, q1, c.row q2 (hS g (by rw [q]; rfl)), q3⟩
theorem newRow (wa : World) (y : UInt8) : ∀ (j : Nat) (u : Value), [u8 y][j]? = some u → (wa.alloc (.cells #[u8 y] 5)).cell? ((⟨wa.heap.size, 0, none⟩ : Addr).add j) = some u := fun j u hu => by
  have hj : j = 0 := by
    rcases Nat.lt_or_ge j 1 with h | h
    · omega
    · rw [List.getElem?_eq_none (by simpa using h)] at hu; cases hu
  subst hj
  rw [Addr.add_lit, Nat.zero_add, cell_of_row _ wa.heap.size 0 _ _ _ (heap_alloc_new wa _)]
  exact hu
theorem oneRow (y : UInt8) : ∀ u ∈ [u8 y], u.oneCell' = true := fun u hu => by simp at hu; subst hu; rfl
/-- 'append(s, x...)' of bytes, which tells where the new row lies -/
theorem wpList_appL {ops : Array Oper} {rest : List Oper} {o : Oper} {a : Act} {Q : Exit → Act → World → Prop} {w : World} (hgd : o.guard = none) (s x : Operand)
    (ho : o.op = .call { callee := .builtin .append, args := #[s, x], argTypes := #[40, 40] }) (base : Nat) (v : Value) (xs : List UInt8) (hs : a.eval s = v) (hown : Own 5 w base v xs) (A : Option Addr) (m c : Nat) (l : List UInt8) (hx : a.eval x = .slice A m c) (hl : Bs w A m c l)
    (hn : xs.length + m ≤ 1099511627776) (hbase : base ≤ w.heap.size)
    (h : ∀ v' w', Own 5 w' base v' (xs ++ l) → w.grownBy w' v.ownBlock → (v'.ownBlock = v.ownBlock ∨ v'.ownBlock = some w.heap.size) → wpList Tryz.prog ops Q rest (a.put o.dst v') w') : wpList Tryz.prog ops Q (o :: rest) a w := by
  have hlen := hl.len
  rcases A with _ | ad
  · have hm : m = 0 := by
      rcases Nat.eq_zero_or_pos m with h | h
      · exact h
      · obtain ⟨b, o, e, _⟩ := hl.2.2.2 h
        cases e
    subst hm
    obtain rfl := hl.empty
    refine wpList_plain hgd fun K hK => ?_
    obtain ⟨i, hi, hzz⟩ := Option.map_eq_some_iff.1 (byteInfo : (Tryz.prog.info? 5).map (fun i => (i.zero, i.size, i.bytes)) = some (some (.int .u8 0), 1, 1))
    simp only [Prod.mk.injEq] at hzz
    have hrun : (Builtin.append_ #[40, 40] o.type #[v, .slice none 0 c]).run Tryz.prog w = .ok v w := by
      rcases hown.2 with ⟨rfl, _⟩ | ⟨g, cap, cur, rfl, _, _, hnc, _⟩
      · simp [Builtin.append_, run_underlying Tryz.underlying40, sizeOf, typeInfo, hi, Builtin.lenOf, Builtin.firstCells]
      · simp [Builtin.append_, run_underlying Tryz.underlying40, sizeOf, typeInfo, hi, Builtin.lenOf, Builtin.firstCells, hnc, storeCells]
    unfold Oper.wp execOp
    simp only [ho, resolve, invoke, builtin, Sem.run_bind, Sem.run_pure, Result.andThen_ok, List.map_toArray, List.map_cons, List.map_nil, hs, hx, hrun]
    exact hK _ _ (h v w (by simpa using hown) (World.grownBy.refl w _) (.inl rfl))
  · refine wpList_appAt hgd s x 40 ho base 5 (.int .u8 0) 1 Tryz.underlying40 byteInfo rfl (by decide) v xs.length (u8s xs) hs hown ad m c (u8s l) hx (by simp [hlen]) (fun j u hu => ?_) (fun u hu => ?_) hn hbase (fun v' w' q1 q2 q3 => h v' w' ?_ q2 q3)
    · obtain ⟨y, hy, rfl⟩ := u8s_get hu
      have hm : 0 < m := by have := (List.getElem?_eq_some_iff.1 hy).1; omega
      obtain ⟨b, o', e, hc⟩ := hl.2.2.2 hm
      injection e with e
      subst e
      rw [Addr.add_lit]
      exact hc j y hy
    · obtain ⟨j, hj⟩ := List.getElem?_of_mem hu
      obtain ⟨y, hy, rfl⟩ := u8s_get hj
      rfl
    · unfold Own
      rw [List.length_append, hlen]
      simpa using q1
end Go.Proofs.YtodjilljcjkacaaGreatDoor
/- Maps in memory, as lists of keys and values: look-up, store, delete, range. No condition. -/
namespace Go.Proofs.YtodjilljcjkacaaGreatDoor
open Go.RowKit Go.MapKept

/-- keys of one kind -/
structure KeyK (P : Program) (k : TypeId) (κ : Type) [DecidableEq κ] (kv : κ → Value) where
  d : TypeDesc
  und : P.underlying k = some d
  key : ∀ a, IsKey d (kv a)
  same : ∀ a b, Instr.sameNow d (kv a) (kv b) = some (decide (a = b))
  bits : ∀ a, Instr.sameBits 10000 (kv a) (kv a) = true
noncomputable def keyString {P : Program} {k : TypeId} (h : P.underlying k = some .string) : KeyK P k ByteArray .string :=
  ⟨.string, h, fun _ => trivial, fun a b => by simp only [Instr.sameNow, Option.some.injEq]; rw [Bool.eq_iff_iff, bytes_beq, decide_eq_true_iff], fun a => by simp only [Instr.sameBits]; exact (bytes_beq a a).2 rfl⟩
theorem modify_at {α : Type} (f : α → α) : ∀ (l : List α) (j : Nat) (h : j < l.length), l.modify j f = l.set j (f l[j])
  | _ :: _, 0, _ => rfl
  | a :: l, j + 1, h => by
    have := modify_at f l j (by simpa using h)
    simp [this]
/-- the list's words -/
def aget {κ : Type} [DecidableEq κ] : List (κ × Value) → κ → Option Value
  | [], _ => none
  | (a, v) :: r, k => if k = a then some v else aget r k
def aidx {κ : Type} [DecidableEq κ] : List (κ × Value) → κ → Option Nat
  | [], _ => none
  | (a, _) :: r, k => if k = a then some 0 else (aidx r k).map (· + 1)
def aset {κ : Type} [DecidableEq κ] : List (κ × Value) → κ → Value → List (κ × Value)
  | [], k, v => [(k, v)]
  | (a, u) :: r, k, v => if k = a then (k, v) :: r else (a, u) :: aset r k v
/-- block M is a map that reads as L -/
def MapIs {κ : Type} (kv : κ → Value) (w : World) (M : Nat) (L : List (κ × Value)) : Prop :=
  ∃ es clock, w.heap[M]? = some (.map es clock) ∧ es.toList.map (fun e => (e.key, e.val)) = L.map (fun p => (kv p.1, p.2)) ∧ (∀ x ∈ es.toList, x.born < clock) ∧ (es.toList.map (·.born)).Nodup

section
variable {P : Program} {k : TypeId} {κ : Type} [DecidableEq κ] {kv : κ → Value}
theorem findNow_list (K : KeyK P k κ kv) (x : κ) : ∀ (es : List MapEntry) (L : List (κ × Value)) (i : Nat), es.map (fun e => (e.key, e.val)) = L.map (fun p => (kv p.1, p.2)) →
    Instr.findNow K.d (kv x) es i = some (match aidx L x, aget L x with | some j, some v => some (i + j, v) | _, _ => none)
  | [], [], _, _ => rfl
  | [], _ :: _, _, h => by cases h
  | _ :: _, [], _, h => by cases h
  | e :: es, (a, v) :: L, i, h => by
    simp only [List.map_cons, List.cons.injEq, Prod.mk.injEq] at h
    obtain ⟨⟨h1, h2⟩, h3⟩ := h
    rw [Instr.findNow, h1, K.same]
    by_cases hx : x = a
    · simp [hx, aidx, aget, h2]
    · have ih := findNow_list K x es L (i + 1) h3
      simp only [hx, decide_false, aidx, aget, if_false, ih]
      cases aidx L x <;> cases aget L x <;> simp
      omega
theorem aidx_aget (L : List (κ × Value)) (x : κ) : (aidx L x = none ↔ aget L x = none) := by
  induction L with
  | nil => simp [aidx, aget]
  | cons p r ih =>
    obtain ⟨a, v⟩ := p
    by_cases h : x = a
    · simp [aidx, aget, h]
    · simp [aidx, aget, h, ih]
theorem run_find (K : KeyK P k κ kv) (w : World) (x : κ) (es : List MapEntry) (L : List (κ × Value)) (h : es.map (fun e => (e.key, e.val)) = L.map (fun p => (kv p.1, p.2))) :
    (Instr.findKey k (kv x) es).run P w = .ok (match aidx L x, aget L x with | some j, some v => some (j, v) | _, _ => none) w := by
  have := findNow_list K x es L 0 h
  simp only [Nat.zero_add] at this
  exact run_findKey K.und this
/-- 'm[x]' -/
theorem run_lookupL (K : KeyK P k κ kv) (T e : TypeId) (ht : P.underlying T = some (.map k e)) (w : World) (M : Nat) (L : List (κ × Value)) (h : MapIs kv w M L) (x : κ) (z : Value) (hz : (zeroValue e).run P w = .ok z w) (ok : Bool) :
    (Instr.lookup T (.map (some M)) (kv x) ok).run P w = .ok (if ok then .tuple #[(aget L x).getD z, .bool (aget L x).isSome] else (aget L x).getD z) w := by
  obtain ⟨es, clock, hb, hL, _, _⟩ := h
  have hf := run_find K w x es.toList L hL
  have hc : (Instr.checkKey es.isEmpty 10000 k (kv x)).run P w = .ok () w := run_checkKey (w := w) (e := es.isEmpty) (n := 9999) K.und (K.key x)
  unfold Instr.lookup
  simp only [Sem.run_bind, run_underlying ht, Result.andThen_ok, Go.MapKept.run_getObj_map hb, Sem.run_pure, hc, hf]
  have ha := aidx_aget L x
  cases h1 : aidx L x with
  | none =>
    have h2 := ha.1 h1
    simp [h2, hz, Result.andThen]
  | some j =>
    cases h2 : aget L x with
    | none => rw [ha.2 h2] at h1; cases h1
    | some v => simp
/-- block M anew -/
abbrev reblock (w : World) (M : Nat) (o : Obj) : World := { w with heap := w.heap.setIfInBounds M o }
theorem reblock_row {w : World} {M : Nat} {o o' : Obj} (h : w.heap[M]? = some o) : (reblock w M o').heap[M]? = some o' := (heap_set h).1
theorem reblock_ch {w : World} {M : Nat} {o o' : Obj} (h : w.heap[M]? = some o) : Ch (fun j => j = M) w (reblock w M o') :=
  ⟨rfl, rfl, rfl, by simp, fun j _ hj => (heap_set h).2 j hj⟩
theorem reblock_size (w : World) (M : Nat) (o : Obj) : (reblock w M o).heap.size = w.heap.size := by simp

theorem aidx_set (L : List (κ × Value)) (x : κ) (v : Value) : (∀ j, aidx L x = some j → j < L.length ∧ (L.map (fun p => (kv p.1, p.2))).set j (kv x, v) = (aset L x v).map (fun p => (kv p.1, p.2))) ∧ (aidx L x = none → aset L x v = L ++ [(x, v)]) := by
  induction L with
  | nil => exact ⟨fun j h => by simp [aidx] at h, fun _ => rfl⟩
  | cons p r ih =>
    obtain ⟨a, u⟩ := p
    by_cases h : x = a
    · refine ⟨fun j hj => ?_, fun hj => by simp [aidx, h] at hj⟩
      simp only [aidx, h, if_true, Option.some.injEq] at hj
      subst hj
      simp [aset, h]
    · refine ⟨fun j hj => ?_, fun hj => ?_⟩
      · simp only [aidx, h, if_false, Option.map_eq_some_iff] at hj
        obtain ⟨i, hi, rfl⟩ := hj
        obtain ⟨h1, h2⟩ := ih.1 i hi
        exact ⟨by simp; omega, by simp [aset, h, h2]⟩
      · simp only [aidx, h, if_false, Option.map_eq_none_iff] at hj
        simp [aset, h, ih.2 hj]
/-- 'm[x] = v' -/
theorem run_updateL (K : KeyK P k κ kv) (T e : TypeId) (ht : P.underlying T = some (.map k e)) (w : World) (M : Nat) (L : List (κ × Value)) (h : MapIs kv w M L) (x : κ) (v : Value) :
    ∃ w', (Instr.mapUpdate T (.map (some M)) (kv x) v).run P w = .ok () w' ∧ MapIs kv w' M (aset L x v) ∧ Ch (fun j => j = M) w w' ∧ w'.heap.size = w.heap.size := by
  obtain ⟨es, clock, hb, hL, hbo, hnd⟩ := h
  have hf := run_find K w x es.toList L hL
  have hc : (Instr.checkKey false 10000 k (kv x)).run P w = .ok () w := run_checkKey (w := w) (e := false) (n := 9999) K.und (K.key x)
  have hs := aidx_set (kv := kv) L x v
  have hlen : es.toList.length = L.length := by have := congrArg List.length hL; simpa using this
  have ha := aidx_aget L x
  cases h1 : aidx L x with
  | none =>
    have h2 := ha.1 h1
    rw [h1] at hf
    refine ⟨reblock w M (.map (es.push { key := kv x, val := v, born := clock }) (clock + 1)), ?_, ⟨_, _, reblock_row hb, ?_, ?_, ?_⟩, reblock_ch hb, reblock_size _ _ _⟩
    · unfold Instr.mapUpdate
      simp only [Sem.run_bind, run_underlying ht, Result.andThen_ok, Go.MapKept.run_getObj_map hb, hc, hf]
      exact Go.MapKept.run_setObj_map _ hb
    · rw [hs.2 h1]
      simp [hL]
    · intro y hy
      simp only [Array.toList_push, List.mem_append, List.mem_singleton] at hy
      rcases hy with hy | rfl
      · have := hbo y hy; omega
      · exact Nat.lt_succ_self _
    · simp only [Array.toList_push, List.map_append, List.map_cons, List.map_nil]
      rw [List.nodup_append]
      refine ⟨hnd, by simp, fun a hm b hb' => ?_⟩
      obtain ⟨y, hy, rfl⟩ := List.mem_map.1 hm
      simp only [List.mem_singleton] at hb'
      have := hbo y hy
      omega
  | some j =>
    cases h2 : aget L x with
    | none => rw [ha.2 h2] at h1; cases h1
    | some u =>
      rw [h1, h2] at hf
      obtain ⟨hj, hset⟩ := hs.1 j h1
      have hjs : j < es.size := by have : es.size = es.toList.length := by simp
                                   omega
      have hkey : ((es[j]?).map (·.key)).getD (kv x) = kv x := by
        have e1 : (es.toList.map (fun e => (e.key, e.val)))[j]? = (L.map (fun p => (kv p.1, p.2)))[j]? := by rw [hL]
        rw [List.getElem?_map, List.getElem?_map] at e1
        have e2 : es.toList[j]? = es[j]? := by simp
        rw [e2, Array.getElem?_eq_getElem hjs] at e1
        have e3 : ∀ (L : List (κ × Value)) (j : Nat), aidx L x = some j → ∃ u, L[j]? = some (x, u) := by
          intro L
          induction L with
          | nil => intro j h; simp [aidx] at h
          | cons p r ih =>
            intro j h
            obtain ⟨a, u⟩ := p
            by_cases hx : x = a
            · simp only [aidx, hx, if_true, Option.some.injEq] at h
              subst h
              exact ⟨u, by simp [hx]⟩
            · simp only [aidx, hx, if_false, Option.map_eq_some_iff] at h
              obtain ⟨i, hi, rfl⟩ := h
              obtain ⟨u', hu⟩ := ih i hi
              exact ⟨u', by simpa using hu⟩
        obtain ⟨u', hu⟩ := e3 L j h1
        rw [hu] at e1
        simp only [Option.map_some, Option.some.injEq, Prod.mk.injEq] at e1
        rw [Array.getElem?_eq_getElem hjs]
        simp [e1.1]
      have hks : (Instr.keyThatStays (kv x) (kv x)).run P w = .ok (kv x) w := by unfold Instr.keyThatStays; rw [if_pos (K.bits x)]; rfl
      refine ⟨reblock w M (.map (es.modify j fun e => { e with key := kv x, val := v }) clock), ?_, ⟨_, _, reblock_row hb, ?_, ?_, ?_⟩, reblock_ch hb, reblock_size _ _ _⟩
      · unfold Instr.mapUpdate
        simp only [Sem.run_bind, run_underlying ht, Result.andThen_ok, Go.MapKept.run_getObj_map hb, hc, hf, hkey, hks]
        exact Go.MapKept.run_setObj_map _ hb
      · rw [← hset, ← hL]
        rw [Array.toList_modify, modify_at _ _ _ (by simpa using hjs)]
        simp [List.map_set]
      · intro y hy
        rw [Array.toList_modify, modify_at _ _ _ (by simpa using hjs)] at hy
        rcases List.mem_or_eq_of_mem_set hy with hy | rfl
        · exact hbo y hy
        · exact hbo es.toList[j] (List.getElem_mem _)
      · rw [Array.toList_modify, modify_at _ _ _ (by simpa using hjs)]
        simp only [List.map_set]
        have e3 : (es.toList.map (·.born)).set j es.toList[j].born = es.toList.map (·.born) := by
          apply List.ext_getElem (by simp)
          intro i h3 h4
          rw [List.getElem_set]
          split
          · subst j; simp
          · rfl
        rw [e3]
        exact hnd
end
end Go.Proofs.YtodjilljcjkacaaGreatDoor
/- Maps in memory: the laws at the operations. No condition. -/
namespace Go.Proofs.YtodjilljcjkacaaGreatDoor
open Go.RowKit Go.MapKept

theorem MapIs.new {κ : Type} (kv : κ → Value) (w : World) : MapIs kv (w.alloc (.map #[] 0)) w.heap.size [] := ⟨#[], 0, heap_alloc_new w _, rfl, (fun x hx => by cases hx), List.nodup_nil⟩
theorem MapIs.lt {κ : Type} {kv : κ → Value} {w : World} {M : Nat} {L : List (κ × Value)} (h : MapIs kv w M L) : M < w.heap.size := by
  obtain ⟨es, clock, hb, _⟩ := h
  exact (Array.getElem?_eq_some_iff.1 hb).1
theorem MapIs.row {κ : Type} {kv : κ → Value} {w w' : World} {M : Nat} {L : List (κ × Value)} (h : MapIs kv w M L) (hr : w'.heap[M]? = w.heap[M]?) : MapIs kv w' M L := by
  obtain ⟨es, clock, hb, h1⟩ := h
  exact ⟨es, clock, hr.trans hb, h1⟩
theorem MapIs.ch {κ : Type} {kv : κ → Value} {S : Nat → Prop} {w w' : World} {M : Nat} {L : List (κ × Value)} (h : MapIs kv w M L) (c : Ch S w w') (hn : ¬ S M) : MapIs kv w' M L := h.row (c.block M h.lt hn)
theorem MapIs.below {κ : Type} {kv : κ → Value} {w w' : World} {M : Nat} {L : List (κ × Value)} (h : MapIs kv w M L) (hb : Below w.heap.size w w') : MapIs kv w' M L := h.row (hb.block M h.lt)
/-- a map is no cells -/
theorem MapIs.ne {κ : Type} {kv : κ → Value} {w : World} {M g : Nat} {L : List (κ × Value)} {c : Array Value} {t : TypeId} {f : Nat × Nat} (h : MapIs kv w M L) (hg : w.heap[g]? = some (.cells c t f)) : M ≠ g := fun e => by
  obtain ⟨es, clock, hb, _⟩ := h
  rw [e, hg] at hb
  cases hb

section
variable {P : Program} {k : TypeId} {κ : Type} [DecidableEq κ] {kv : κ → Value} {w : World} {ops : Array Oper} {rest : List Oper} {o : Oper} {a : Act} {Q : Exit → Act → World → Prop}
theorem wpList_lookupL (hg : o.guard = none) (K : KeyK P k κ kv) (m x : Operand) (T e : TypeId) (ok : Bool) (hop : o.op = Op.lookup T m x ok) (ht : P.underlying T = some (.map k e)) (M : Nat) (L : List (κ × Value)) (hm : a.eval m = .map (some M)) (h : MapIs kv w M L) (key : κ) (hx : a.eval x = kv key) (z : Value) (hz : (zeroValue e).run P w = .ok z w)
    (hK : wpList P ops Q rest (a.put o.dst (if ok then .tuple #[(aget L key).getD z, .bool (aget L key).isSome] else (aget L key).getD z)) w) : wpList P ops Q (o :: rest) a w := by
  refine wpList_plain hg fun K' hK' => ?_
  have hrun := run_lookupL K T e ht w M L h key z hz ok
  unfold Oper.wp
  simp only [execOp, hop, hm, hx, Sem.run_bind, hrun, Result.andThen_ok, Sem.run_pure]
  exact hK' _ _ hK
theorem wpList_updateL (hg : o.guard = none) (K : KeyK P k κ kv) (m x v : Operand) (T e : TypeId) (hop : o.op = Op.mapUpdate T m x v ∨ o.op = Op.insert T m x v) (ht : P.underlying T = some (.map k e)) (M : Nat) (L : List (κ × Value)) (hm : a.eval m = .map (some M)) (h : MapIs kv w M L) (key : κ) (hx : a.eval x = kv key) (u : Value) (hv : a.eval v = u)
    (hK : ∀ w', MapIs kv w' M (aset L key u) → Ch (fun j => j = M) w w' → w'.heap.size = w.heap.size → wpList P ops Q rest (a.put o.dst undef) w') : wpList P ops Q (o :: rest) a w := by
  refine wpList_plain hg fun K' hK' => ?_
  obtain ⟨w', hrun, h1, h2, h3⟩ := run_updateL K T e ht w M L h key u
  unfold Oper.wp
  rcases hop with hop | hop
  · simp only [execOp, hop, hm, hx, hv, Sem.run_bind, hrun, Result.andThen_ok, Sem.run_pure]
    exact hK' _ _ (hK w' h1 h2 h3)
  · simp only [execOp, hop, hm, hx, hv, Sem.run_bind, hrun, Result.andThen_ok, Sem.run_pure]
    exact hK' _ _ (hK w' h1 h2 h3)
end
end Go.Proofs.YtodjilljcjkacaaGreatDoor
/- Maps in memory: ranges, in whatever order. No condition. -/
namespace Go.Proofs.YtodjilljcjkacaaGreatDoor
open Go.RowKit Go.MapKept Go.ChangeMaps

/-- iterator I ranges over map M, which reads as L; those of left are still to come -/
def Rng {κ : Type} (kv : κ → Value) (w : World) (M I : Nat) (L left : List (κ × Value)) : Prop :=
  ∃ es clock since seen c0, w.heap[M]? = some (.map es clock) ∧ es.toList.map (fun e => (e.key, e.val)) = L.map (fun p => (kv p.1, p.2)) ∧ (∀ x ∈ es.toList, x.born < clock) ∧ (es.toList.map (·.born)).Nodup ∧
    w.heap[I]? = some (.mapIter (some M) since seen c0) ∧ (∀ x ∈ es.toList, x.born < since) ∧ since ≤ c0 ∧ since ≤ clock ∧ (leftOf es seen).toList.map (fun e => (e.key, e.val)) = left.map (fun p => (kv p.1, p.2))
section
variable {κ : Type} {kv : κ → Value} {w w' : World} {M I : Nat} {L left : List (κ × Value)}
theorem Rng.map (h : Rng kv w M I L left) : MapIs kv w M L := by
  obtain ⟨es, clock, since, seen, c0, h1, h2, h3, h4, _⟩ := h
  exact ⟨es, clock, h1, h2, h3, h4⟩
theorem Rng.lt (h : Rng kv w M I L left) : I < w.heap.size := by
  obtain ⟨es, clock, since, seen, c0, _, _, _, _, h5, _⟩ := h
  exact (Array.getElem?_eq_some_iff.1 h5).1
theorem Rng.ch {S : Nat → Prop} (h : Rng kv w M I L left) (c : Ch S w w') (h1 : ¬ S M) (h2 : ¬ S I) : Rng kv w' M I L left := by
  obtain ⟨es, clock, since, seen, c0, a1, a2, a3, a4, a5, a6⟩ := h
  exact ⟨es, clock, since, seen, c0, c.row a1 h1, a2, a3, a4, c.row a5 h2, a6⟩
theorem Rng.below (h : Rng kv w M I L left) (hb : Below w.heap.size w w') : Rng kv w' M I L left := h.ch (Ch.of_below (S := fun _ => False) hb) (fun h => h) (fun h => h)
/-- an iterator is no cells -/
theorem Rng.ne {g : Nat} {c : Array Value} {t : TypeId} {f : Nat × Nat} (h : Rng kv w M I L left) (hg : w.heap[g]? = some (.cells c t f)) : I ≠ g := fun e => by
  obtain ⟨es, clock, since, seen, c0, _, _, _, _, a5, _⟩ := h
  rw [e, hg] at a5
  cases a5
theorem Rng.neM {M2 : Nat} {κ2 : Type} {kv2 : κ2 → Value} {L2 : List (κ2 × Value)} (h : Rng kv w M I L left) (hm : MapIs kv2 w M2 L2) : I ≠ M2 := fun e => by
  obtain ⟨es, clock, since, seen, c0, _, _, _, _, a5, _⟩ := h
  obtain ⟨es2, clock2, hb, _⟩ := hm
  rw [e, hb] at a5
  cases a5
end
end Go.Proofs.YtodjilljcjkacaaGreatDoor
/- Layer 2: a disk in memory: what it is, and what a change of a part of it leaves. -/
namespace Go.Proofs.YtodjilljcjkacaaGreatDoor
open Go.RowKit Go.MapKept

/-- a file: its bytes, how many are safe -/
structure Fl where
  bs : List UInt8
  safe : Nat
/-- a file where it lies: its name, its block, its row -/
structure Ent where
  nm : ByteArray
  g : Nat
  v : Value
  f : Fl
/-- a disk's numbers -/
structure Dk where
  room : Int
  used : Int
  ops : Int
  failIn : Int
  armedIn : Int
  armKeep : Int
abbrev TD : TypeId := 118
abbrev TF : TypeId := 121
abbrev pf (g : Nat) : Value := .pointer (some ⟨g, 0, none⟩)
abbrev dkCells (M : Nat) (d : Dk) : Array Value := #[.map (some M), .int .i64 d.room, .int .i64 d.used, .int .i64 d.ops, .int .i64 d.failIn, .int .i64 d.armedIn, .int .i64 d.armKeep]
abbrev dkObj (M : Nat) (d : Dk) : Obj := .cells (dkCells M d) TD
abbrev fObj (v : Value) (n : Nat) : Obj := .cells #[v, .int .i64 (n : Int)] TF
abbrev mapL (F : List Ent) : List (ByteArray × Value) := F.map fun e => (e.nm, pf e.g)
/-- two files lie apart -/
def Apart (a b : Ent) : Prop := a.g ≠ b.g ∧ ∀ k, a.v.ownBlock = some k → b.v.ownBlock ≠ some k
theorem Apart.symm {a b : Ent} (h : Apart a b) : Apart b a := ⟨h.1.symm, fun k hb ha => h.2 k ha hb⟩
structure FileAt (w : World) (B : Nat) (e : Ent) : Prop where
  base : B ≤ e.g
  row : w.heap[e.g]? = some (fObj e.v e.f.safe)
  own : Own 5 w B e.v e.f.bs
structure DkAt (w : World) (B D M : Nat) (d : Dk) (F : List Ent) : Prop where
  hD : B ≤ D
  hM : B ≤ M
  row : w.heap[D]? = some (dkObj M d)
  map : MapIs (.string) w M (mapL F)
  files : ∀ e ∈ F, FileAt w B e
  apart : F.Pairwise Apart
  names : (F.map (·.nm)).Nodup
/-- the files' blocks -/
def Foot (F : List Ent) (k : Nat) : Prop := ∃ e ∈ F, k = e.g ∨ e.v.ownBlock = some k
/-- the disk's blocks -/
def DFoot (D M : Nat) (F : List Ent) (k : Nat) : Prop := k = D ∨ k = M ∨ Foot F k
section
variable {w w' : World} {B D M : Nat} {d d' : Dk} {F F' : List Ent}
theorem FileAt.lt {e : Ent} (h : FileAt w B e) : e.g < w.heap.size := (Array.getElem?_eq_some_iff.1 h.row).1
theorem DkAt.lt (h : DkAt w B D M d F) : D < w.heap.size := (Array.getElem?_eq_some_iff.1 h.row).1
theorem FileAt.ch {e : Ent} {S : Nat → Prop} (h : FileAt w B e) (c : Ch S w w') (h1 : ¬ S e.g) (h2 : ∀ k, e.v.ownBlock = some k → ¬ S k) : FileAt w' B e := ⟨h.base, c.row h.row h1, h.own.ch c h2⟩
theorem FileAt.neD {e : Ent} (h : FileAt w B e) (hD : w.heap[D]? = some (dkObj M d)) : e.g ≠ D ∧ e.v.ownBlock ≠ some D := by
  refine ⟨fun h2 => ?_, (own_ne h.own hD (by decide)).symm⟩
  have h3 := h.row
  rw [h2, hD] at h3
  simp only [Option.some.injEq, Obj.cells.injEq] at h3
  exact absurd h3.2.1 (by decide)
theorem FileAt.neM {e : Ent} {L : List (ByteArray × Value)} (h : FileAt w B e) (hM : MapIs (.string) w M L) : e.g ≠ M ∧ e.v.ownBlock ≠ some M := by
  refine ⟨(hM.ne h.row).symm, fun h2 => ?_⟩
  obtain ⟨cur, hc⟩ := own_ty h.own M h2
  exact hM.ne hc rfl
theorem DkAt.neDM (h : DkAt w B D M d F) : M ≠ D := h.map.ne h.row
/-- other blocks changed -/
theorem DkAt.ch {S : Nat → Prop} (h : DkAt w B D M d F) (c : Ch S w w') (hS : ∀ k, DFoot D M F k → ¬ S k) : DkAt w' B D M d F :=
  ⟨h.hD, h.hM, c.row h.row (hS D (.inl rfl)), h.map.ch c (hS M (.inr (.inl rfl))), fun e he => (h.files e he).ch c (hS _ (.inr (.inr ⟨e, he, .inl rfl⟩))) (fun k hk => hS k (.inr (.inr ⟨e, he, .inr hk⟩))), h.apart, h.names⟩
theorem DkAt.foot_lt (h : DkAt w B D M d F) {k : Nat} (hk : DFoot D M F k) : B ≤ k ∧ k < w.heap.size := by
  rcases hk with rfl | rfl | ⟨e, he, rfl | hk⟩
  · exact ⟨h.hD, h.lt⟩
  · exact ⟨h.hM, h.map.lt⟩
  · exact ⟨(h.files e he).base, (h.files e he).lt⟩
  · exact (h.files e he).own.lt k hk
theorem DkAt.below (h : DkAt w B D M d F) (hb : Below w.heap.size w w') : DkAt w' B D M d F :=
  h.ch (Ch.of_below (S := fun k => w.heap.size ≤ k) hb) (fun k hk h2 => by have := (h.foot_lt hk).2; omega)
/-- the disk's own numbers changed -/
theorem DkAt.nums (h : DkAt w B D M d F) (c : Ch (At1 D) w w') (hr : w'.heap[D]? = some (dkObj M d')) : DkAt w' B D M d' F :=
  ⟨h.hD, h.hM, hr, h.map.ch c h.neDM, fun e he => (h.files e he).ch c ((h.files e he).neD h.row).1 (fun k hk h2 => ((h.files e he).neD h.row).2 (by rw [hk, h2])), h.apart, h.names⟩
theorem DkAt.cell (h : DkAt w B D M d F) (j : Nat) : w.cell? ⟨D, j, none⟩ = (dkCells M d)[j]? := cell_of_row w D j _ _ _ h.row
theorem DkAt.frozen (h : DkAt w B D M d F) (j : Nat) : w.frozen? ⟨D, j, none⟩ = false := by
  simp [World.frozen?, h.row]
theorem FileAt.cell {e : Ent} (h : FileAt w B e) (j : Nat) : w.cell? ⟨e.g, j, none⟩ = (#[e.v, Value.int .i64 (e.f.safe : Int)] : Array Value)[j]? := cell_of_row w e.g j _ _ _ h.row
theorem FileAt.frozen {e : Ent} (h : FileAt w B e) (j : Nat) : w.frozen? ⟨e.g, j, none⟩ = false := by
  simp [World.frozen?, h.row]
/-- what a call may do to a disk's blocks: only these were written, and the files' blocks are these, or new ones -/
structure DkCh (D M : Nat) (F F' : List Ent) (w w' : World) : Prop where
  ch : Ch (DFoot D M F) w w'
  foot : ∀ k, Foot F' k → Foot F k ∨ w.heap.size ≤ k
theorem DkCh.refl (D M : Nat) (F : List Ent) (w : World) : DkCh D M F F w w := ⟨Ch.refl _ _, fun _ h => .inl h⟩
theorem DkCh.trans {w1 : World} {F1 : List Ent} (h : DkCh D M F F1 w w1) (k : DkCh D M F1 F' w1 w') : DkCh D M F F' w w' :=
  ⟨h.ch.trans k.ch (fun x hx hf => by
    rcases hf with h1 | h1 | h1
    · exact .inl h1
    · exact .inr (.inl h1)
    · rcases h.foot x h1 with h2 | h2
      · exact .inr (.inr h2)
      · omega), fun x hx => by
    rcases k.foot x hx with h1 | h1
    · exact h.foot x h1
    · exact .inr (Nat.le_trans h.ch.size h1)⟩
theorem DkCh.of_below (hb : Below w.heap.size w w') : DkCh D M F F w w' := ⟨Ch.of_below hb, fun _ h => .inl h⟩
theorem DkCh.of1 (c : Ch (At1 D) w w') : DkCh D M F F w w' := ⟨(Ch.refl (DFoot D M F) w).trans c (fun _ _ h => .inl h), fun _ h => .inl h⟩
theorem DkCh.below (h : DkAt w B D M d F) (c : DkCh D M F F' w w') (hB : B ≤ w.heap.size) : Below B w w' := c.ch.below (fun _ hk => (h.foot_lt hk).1) hB
theorem heap_set_row {w : World} {g j : Nat} {C : Array Value} {t : TypeId} {fz : Nat × Nat} (h : w.heap[g]? = some (.cells C t fz)) (u : Value) : (w.setCell ⟨g, j, none⟩ u).heap[g]? = some (.cells (C.setIfInBounds j u) t fz) := by
  simp [World.setCell, Array.getElem?_modify, h]
end
/-- a name's place -/
theorem aget_split (F : List Ent) (n : ByteArray) : (aget (mapL F) n = none ∧ ∀ e ∈ F, e.nm ≠ n) ∨ ∃ P e Q, F = P ++ e :: Q ∧ e.nm = n ∧ aget (mapL F) n = some (pf e.g) ∧ ∀ x ∈ P, x.nm ≠ n := by
  induction F with
  | nil => exact .inl ⟨rfl, fun _ h => by cases h⟩
  | cons a r ih =>
    by_cases h : n = a.nm
    · exact .inr ⟨[], a, r, rfl, h.symm, by simp [mapL, aget, h], fun _ h => by cases h⟩
    · rcases ih with ⟨h1, h2⟩ | ⟨P, e, Q, rfl, h1, h2, h3⟩
      · refine .inl ⟨by simp only [mapL, List.map_cons, aget]; rw [if_neg h]; exact h1, fun e he => ?_⟩
        rcases List.mem_cons.1 he with rfl | he
        · exact fun e => h e.symm
        · exact h2 e he
      · refine .inr ⟨a :: P, e, Q, rfl, h1, by simp only [mapL, List.map_cons, aget]; rw [if_neg h]; exact h2, fun x hx => ?_⟩
        rcases List.mem_cons.1 hx with rfl | hx
        · exact fun e => h e.symm
        · exact h3 x hx
/-- the files as they are told -/
abbrev Fs := List (ByteArray × Fl)
abbrev fsOf (F : List Ent) : Fs := F.map fun e => (e.nm, e.f)
def fget : Fs → ByteArray → Option Fl
  | [], _ => none
  | (a, v) :: r, k => if k = a then some v else fget r k
/-- a file anew, or behind the others -/
def fput : Fs → ByteArray → Fl → Fs
  | [], k, v => [(k, v)]
  | (a, u) :: r, k, v => if k = a then (k, v) :: r else (a, u) :: fput r k v
def fdel : Fs → ByteArray → Fs
  | [], _ => []
  | (a, u) :: r, k => if k = a then r else (a, u) :: fdel r k
theorem fget_none {F : List Ent} {n : ByteArray} (h : ∀ e ∈ F, e.nm ≠ n) : fget (fsOf F) n = none := by
  induction F with
  | nil => rfl
  | cons a r ih =>
    simp only [fsOf, List.map_cons, fget]
    rw [if_neg (fun e => h a (by simp) e.symm)]
    exact ih (fun e he => h e (by simp [he]))
theorem fget_at {P Q : List Ent} {e : Ent} (h : ∀ x ∈ P, x.nm ≠ e.nm) : fget (fsOf (P ++ e :: Q)) e.nm = some e.f := by
  induction P with
  | nil => simp [fsOf, fget]
  | cons a r ih =>
    simp only [fsOf, List.cons_append, List.map_cons, fget]
    rw [if_neg (fun e2 => h a (by simp) e2.symm)]
    exact ih (fun x hx => h x (by simp [hx]))
theorem fput_none {F : List Ent} {n : ByteArray} (f : Fl) (h : ∀ e ∈ F, e.nm ≠ n) : fput (fsOf F) n f = fsOf F ++ [(n, f)] := by
  induction F with
  | nil => rfl
  | cons a r ih =>
    simp only [fsOf, List.map_cons, fput, List.cons_append]
    rw [if_neg (fun e => h a (by simp) e.symm)]
    rw [ih (fun e he => h e (by simp [he]))]
theorem fput_at {P Q : List Ent} {e : Ent} (f : Fl) (h : ∀ x ∈ P, x.nm ≠ e.nm) (g : Nat) (v : Value) : fput (fsOf (P ++ e :: Q)) e.nm f = fsOf (P ++ ⟨e.nm, g, v, f⟩ :: Q) := by
  induction P with
  | nil => simp [fsOf, fput]
  | cons a r ih =>
    simp only [fsOf, List.cons_append, List.map_cons, fput]
    rw [if_neg (fun e2 => h a (by simp) e2.symm)]
    have := ih (fun x hx => h x (by simp [hx]))
    simp only [fsOf] at this
    rw [this]
section
variable {w w' : World} {B D M : Nat} {d d' : Dk} {F : List Ent}
/-- a file changed -/
theorem DkAt.file {P Q : List Ent} {e : Ent} (h : DkAt w B D M d (P ++ e :: Q)) (c : Ch (fun k => k = e.g ∨ e.v.ownBlock = some k) w w') (v : Value) (f : Fl)
    (hr : w'.heap[e.g]? = some (fObj v f.safe)) (ho : Own 5 w' B v f.bs) (hv : ∀ k, v.ownBlock = some k → e.v.ownBlock = some k ∨ w.heap.size ≤ k) :
    DkAt w' B D M d (P ++ ⟨e.nm, e.g, v, f⟩ :: Q) ∧ DkCh D M (P ++ e :: Q) (P ++ ⟨e.nm, e.g, v, f⟩ :: Q) w w' := by
  have he := h.files e (by simp)
  have hap := h.apart
  have hother : ∀ x ∈ P ++ Q, Apart x e ∧ FileAt w B x := fun x hx => by
    rw [List.pairwise_append] at hap
    rcases List.mem_append.1 hx with hx | hx
    · exact ⟨hap.2.2 x hx e (by simp), h.files x (by simp [hx])⟩
    · exact ⟨((List.pairwise_cons.1 hap.2.1).1 x hx).symm, h.files x (by simp [hx])⟩
  have hnew : ∀ x ∈ P ++ Q, Apart x ⟨e.nm, e.g, v, f⟩ := fun x hx => by
    obtain ⟨⟨h1, h2⟩, h3⟩ := hother x hx
    refine ⟨h1, fun k hk hk2 => ?_⟩
    rcases hv k hk2 with h4 | h4
    · exact h2 k hk h4
    · have := (h3.own.lt k hk).2; omega
  refine ⟨⟨h.hD, h.hM, c.row h.row (fun hs => ?_), h.map.ch c (fun hs => ?_) |> fun hm => by simpa [mapL] using hm, fun x hx => ?_, ?_, by have := h.names; simpa using this⟩, ⟨(Ch.refl _ w).trans c (fun k _ hk => .inr (.inr ⟨e, by simp, hk⟩)), fun k hk => ?_⟩⟩
  · rcases hs with hs | hs
    · exact (he.neD h.row).1 hs.symm
    · exact (he.neD h.row).2 hs
  · rcases hs with hs | hs
    · exact (he.neM h.map).1 hs.symm
    · exact (he.neM h.map).2 hs
  · rcases List.mem_append.1 hx with hx | hx
    · obtain ⟨⟨h1, h2⟩, h3⟩ := hother x (by simp [hx])
      exact h3.ch c (fun hs => by
        rcases hs with hs | hs
        · exact h1 hs
        · exact (own_ne he.own h3.row (by decide)) hs.symm) (fun k hk hs => by
        rcases hs with hs | hs
        · obtain ⟨cur, hc⟩ := own_ty h3.own k hk
          rw [hs, he.row] at hc
          simp only [Option.some.injEq, Obj.cells.injEq] at hc
          exact absurd hc.2.1 (by decide)
        · exact h2 k hk hs)
    · rcases List.mem_cons.1 hx with rfl | hx
      · exact ⟨he.base, hr, ho⟩
      · obtain ⟨⟨h1, h2⟩, h3⟩ := hother x (by simp [hx])
        exact h3.ch c (fun hs => by
          rcases hs with hs | hs
          · exact h1 hs
          · exact (own_ne he.own h3.row (by decide)) hs.symm) (fun k hk hs => by
          rcases hs with hs | hs
          · obtain ⟨cur, hc⟩ := own_ty h3.own k hk
            rw [hs, he.row] at hc
            simp only [Option.some.injEq, Obj.cells.injEq] at hc
            exact absurd hc.2.1 (by decide)
          · exact h2 k hk hs)
  · rw [List.pairwise_append] at hap ⊢
    refine ⟨hap.1, List.pairwise_cons.2 ⟨fun x hx => (hnew x (by simp [hx])).symm, (List.pairwise_cons.1 hap.2.1).2⟩, fun x hx y hy => ?_⟩
    rcases List.mem_cons.1 hy with rfl | hy
    · exact hnew x (by simp [hx])
    · exact hap.2.2 x hx y (by simp [hy])
  · obtain ⟨x, hx, hk⟩ := hk
    rcases List.mem_append.1 hx with hx | hx
    · exact .inl ⟨x, by simp [hx], hk⟩
    · rcases List.mem_cons.1 hx with rfl | hx
      · rcases hk with hk | hk
        · exact .inl ⟨e, by simp, .inl hk⟩
        · rcases hv k hk with h4 | h4
          · exact .inl ⟨e, by simp, .inr h4⟩
          · exact .inr h4
      · exact .inl ⟨x, by simp [hx], hk⟩
end
end Go.Proofs.YtodjilljcjkacaaGreatDoor
/- Layer 2: the disk's small calls, walked. -/
namespace Go.Proofs.YtodjilljcjkacaaGreatDoor
open Go.RowKit Go.MapKept

abbrev crash (op : Int) : Value := .agg #[.int .i64 op]
abbrev crashI (op : Int) : Value := .iface 48 (crash op)
abbrev pD (D : Nat) : Value := .pointer (some ⟨D, 0, none⟩)
def nameB (c : UInt8) : Bool := (decide (97 ≤ c.toNat) && decide (c.toNat ≤ 122)) || (decide (48 ≤ c.toNat) && decide (c.toNat ≤ 57)) || c.toNat == 46
/-- which names there may be -/
def nameD (n : ByteArray) : Bool := decide (1 ≤ n.size) && decide (n.size ≤ 32) && n.data.toList.all nameB

set_option maxRecDepth 100000 in
theorem fnByte (c : UInt8) (w : World) : Calls Tryz.prog 94 #[.int .u8 (c.toNat : Int)] w fun e w' => e = .returned (.bool (nameB c)) ∧ w = w' := by
  have hv : nameB c = ((decide (97 ≤ c.toNat) && decide (c.toNat ≤ 122)) || (decide (48 ≤ c.toNat) && decide (c.toNat ≤ 57)) || c.toNat == 46) := rfl
  generalize c.toNat = n at *
  have h : n = 46 ∨ (n < 48 ∧ n ≠ 46) ∨ (48 ≤ n ∧ n ≤ 57) ∨ (58 ≤ n ∧ n ≤ 96) ∨ (97 ≤ n ∧ n ≤ 122) ∨ 123 ≤ n := by omega
  rcases h with h | h | h | h | h | h
  · have hr : nameB c = true := by rw [hv]; simp [h]
    have d1 : decide ((97 : Int) ≤ (n : Int)) = false := by simp; omega
    have d2 : decide ((n : Int) ≤ 122) = true := by simp; omega
    have d3 : decide ((48 : Int) ≤ (n : Int)) = false := by simp; omega
    have d4 : decide ((n : Int) ≤ 57) = true := by simp; omega
    have d5 : ((n : Int) == 46) = true := by simp; omega
    rw [hr]
    clear hr hv h
    go_enter Tryz.func94, Tryz.ntmps94
    go_wp2
    go_ret
    exact ⟨rfl, rfl⟩
  · have hr : nameB c = false := by rw [hv]; simp; omega
    have d1 : decide ((97 : Int) ≤ (n : Int)) = false := by simp; omega
    have d2 : decide ((n : Int) ≤ 122) = true := by simp; omega
    have d3 : decide ((48 : Int) ≤ (n : Int)) = false := by simp; omega
    have d4 : decide ((n : Int) ≤ 57) = true := by simp; omega
    have d5 : ((n : Int) == 46) = false := by simp; omega
    rw [hr]
    clear hr hv h
    go_enter Tryz.func94, Tryz.ntmps94
    go_wp2
    go_ret
    exact ⟨rfl, rfl⟩
  · have hr : nameB c = true := by rw [hv]; simp; omega
    have d1 : decide ((97 : Int) ≤ (n : Int)) = false := by simp; omega
    have d2 : decide ((n : Int) ≤ 122) = true := by simp; omega
    have d3 : decide ((48 : Int) ≤ (n : Int)) = true := by simp; omega
    have d4 : decide ((n : Int) ≤ 57) = true := by simp; omega
    have d5 : ((n : Int) == 46) = false := by simp; omega
    rw [hr]
    clear hr hv h
    go_enter Tryz.func94, Tryz.ntmps94
    go_wp2
    go_ret
    exact ⟨rfl, rfl⟩
  · have hr : nameB c = false := by rw [hv]; simp; omega
    have d1 : decide ((97 : Int) ≤ (n : Int)) = false := by simp; omega
    have d2 : decide ((n : Int) ≤ 122) = true := by simp; omega
    have d3 : decide ((48 : Int) ≤ (n : Int)) = true := by simp; omega
    have d4 : decide ((n : Int) ≤ 57) = false := by simp; omega
    have d5 : ((n : Int) == 46) = false := by simp; omega
    rw [hr]
    clear hr hv h
    go_enter Tryz.func94, Tryz.ntmps94
    go_wp2
    go_ret
    exact ⟨rfl, rfl⟩
  · have hr : nameB c = true := by rw [hv]; simp; omega
    have d1 : decide ((97 : Int) ≤ (n : Int)) = true := by simp; omega
    have d2 : decide ((n : Int) ≤ 122) = true := by simp; omega
    have d3 : decide ((48 : Int) ≤ (n : Int)) = true := by simp; omega
    have d4 : decide ((n : Int) ≤ 57) = false := by simp; omega
    have d5 : ((n : Int) == 46) = false := by simp; omega
    rw [hr]
    clear hr hv h
    go_enter Tryz.func94, Tryz.ntmps94
    go_wp2
    go_ret
    exact ⟨rfl, rfl⟩
  · have hr : nameB c = false := by rw [hv]; simp; omega
    have d1 : decide ((97 : Int) ≤ (n : Int)) = true := by simp; omega
    have d2 : decide ((n : Int) ≤ 122) = false := by simp; omega
    have d3 : decide ((48 : Int) ≤ (n : Int)) = true := by simp; omega
    have d4 : decide ((n : Int) ≤ 57) = false := by simp; omega
    have d5 : ((n : Int) == 46) = false := by simp; omega
    rw [hr]
    clear hr hv h
    go_enter Tryz.func94, Tryz.ntmps94
    go_wp2
    go_ret
    exact ⟨rfl, rfl⟩

set_option maxRecDepth 100000 in
theorem fnRight (x : ByteArray) (w : World) (hx : x.size ≤ 140737488355328) : Calls Tryz.prog 64 #[.string x] w fun e w' => e = .returned (.bool (nameD x)) ∧ w = w' := by
  go_enter Tryz.func64, Tryz.ntmps64
  by_cases h1 : x.size < 1
  · have d1 : decide ((x.size : Int) < 1) = true := by simp; omega
    have HN : Hid (nameD x = false) := Lib.hid (by unfold nameD; simp; omega)
    clear h1
    go_wp2
    go_ret
    exact ⟨by rw [HN.out]; rfl, rfl⟩
  have d1 : decide ((x.size : Int) < 1) = false := by simp; omega
  by_cases h2 : 32 < x.size
  · have d2 : decide ((32 : Int) < (x.size : Int)) = true := by simp; omega
    have HN : Hid (nameD x = false) := Lib.hid (by unfold nameD; simp; omega)
    clear h1 h2
    go_wp2
    go_ret
    exact ⟨by rw [HN.out]; rfl, rfl⟩
  have d2 : decide ((32 : Int) < (x.size : Int)) = false := by simp; omega
  have HND : Hid (nameD x = x.data.toList.all nameB) := Lib.hid (by
    unfold nameD
    rw [decide_eq_true (show 1 ≤ x.size by omega), decide_eq_true (show x.size ≤ 32 by omega)]
    simp)
  have H32 : Hid (x.size ≤ 32) := Lib.hid (by omega)
  clear h1 h2
  go_wp2_with (fail)
  go_loopw [14, 3] (fun i _ wr => ∃ k : Nat, k ≤ x.size ∧ i = .int .i64 k ∧ (x.data.toList.take k).all nameB = true ∧ wr = w) (fun i _ _ => x.size - (intOf i).toNat)
  case atStart => exact ⟨0, Nat.zero_le _, rfl, rfl, rfl⟩
  case round =>
    obtain ⟨k, hk, rfl, hal, rfl⟩ := hrel
    have HAL := Lib.hid hal
    clear hal
    by_cases hlt : k < x.size
    · skip
      have e1 : (k : Int) < (x.size : Int) := by omega
      have HX : Hid (x.data.toList.take (k + 1) = x.data.toList.take k ++ [x[k]]) := Lib.hid (by rw [List.take_succ_eq_append_getElem (by simpa using hlt)]; rfl)
      have HME : Hid (x[k] ∈ x.data.toList) := Lib.hid (List.getElem_mem (l := x.data.toList) (n := k) (by simpa using hlt))
      cases hb : nameB x[k]
      · have HN : Hid (nameD x = false) := Lib.hid (by rw [HND.out, List.all_eq_false]; exact ⟨x[k], HME.out, by rw [hb]; decide⟩)
        have HB := Lib.hid hb
        clear hb
        go_wp2_with (fail)
        refine (fnByte x[k] wr).mono ?_
        rintro e w2 ⟨rfl, rfl⟩
        rw [HB.out]
        go_wp2_with (fail)
        go_ret
        exact ⟨by rw [HN.out]; rfl, rfl⟩
      · have HN : Hid ((x.data.toList.take (k + 1)).all nameB = true) := Lib.hid (by rw [HX.out, List.all_append, HAL.out]; simp [hb])
        have HB := Lib.hid hb
        clear hb
        go_wp2_with (fail)
        refine (fnByte x[k] wr).mono ?_
        rintro e w2 ⟨rfl, rfl⟩
        rw [HB.out]
        go_wp2_with (fail)
        exact ⟨⟨k + 1, by omega, by go_num, HN.out, by trivial⟩, by simp [intOf]; omega⟩
    · obtain rfl : k = x.size := by omega
      have HN : Hid (nameD x = true) := Lib.hid (by
        have h := HAL.out
        rw [List.take_of_length_le (by simp)] at h
        rw [HND.out, h])
      clear hlt
      go_wp2_with (fail)
      go_ret
      exact ⟨by rw [HN.out]; rfl, rfl⟩

set_option maxRecDepth 100000 in
theorem dkRoomOk (n : Int) (w : World) : Calls Tryz.prog 60 #[.int .i64 n] w fun e w' => e = .returned (.bool (decide (0 ≤ n) && decide (n ≤ 1073741824))) ∧ w = w' := by
  by_cases h1 : 0 ≤ n
  · have d1 : decide ((0 : Int) ≤ n) = true := by simpa using h1
    by_cases h2 : n ≤ 1073741824
    · have d2 : decide (n ≤ (1073741824 : Int)) = true := by simpa using h2
      rw [d1, d2]
      clear h1 h2
      go_enter Tryz.func60, Tryz.ntmps60
      go_wp2
      go_ret
      exact ⟨rfl, rfl⟩
    · have d2 : decide (n ≤ (1073741824 : Int)) = false := by simpa using h2
      rw [d1, d2]
      clear h1 h2
      go_enter Tryz.func60, Tryz.ntmps60
      go_wp2
      go_ret
      exact ⟨rfl, rfl⟩
  · have d1 : decide ((0 : Int) ≤ n) = false := by simpa using h1
    rw [d1]
    clear h1
    go_enter Tryz.func60, Tryz.ntmps60
    go_wp2
    go_ret
    exact ⟨rfl, rfl⟩

def Dk.begin (d : Dk) : Dk := { d with ops := d.ops + 1, armedIn := if d.armedIn = 0 then 0 else d.armedIn - 1 }
/-- numbers as a program's -/
structure Dk.Ok (d : Dk) : Prop where
  room : 0 ≤ d.room ∧ d.room ≤ 1073741824
  used : 0 ≤ d.used ∧ d.used ≤ 1073741824
  ops : 0 ≤ d.ops ∧ d.ops ≤ 1152921504606846976
  failIn : 0 ≤ d.failIn ∧ d.failIn ≤ 9223372036854775807
  armedIn : 0 ≤ d.armedIn ∧ d.armedIn ≤ 9223372036854775807
  armKeep : -9223372036854775808 ≤ d.armKeep ∧ d.armKeep ≤ 9223372036854775807

set_option maxHeartbeats 1000000 in
set_option maxRecDepth 100000 in
theorem dkBegin {w : World} {B D M : Nat} {d : Dk} {F : List Ent} (h : DkAt w B D M d F) (ok : d.Ok) : Calls Tryz.prog 137 #[pD D] w fun e w' => e = .returned (.bool (d.armedIn == 1)) ∧ DkAt w' B D M d.begin F ∧ Ch (At1 D) w w' := by
  have c3 : w.cell? ⟨D, 3, none⟩ = some (.int .i64 d.ops) := h.cell 3
  have c5 : w.cell? ⟨D, 5, none⟩ = some (.int .i64 d.armedIn) := h.cell 5
  have f3 := h.frozen 3
  have f5 := h.frozen 5
  have o1 := ok.ops
  have o2 := ok.armedIn
  have e1 : wrap64 (d.ops + 1) = d.ops + 1 := IntWalk.wrap64_in _ (by omega)
  have H := Lib.hid h
  clear h ok
  by_cases ha : d.armedIn = 0
  · have d1 : (d.armedIn == 0) = true := by simpa using ha
    have HB : Hid (d.begin = { d with ops := d.ops + 1, armedIn := d.armedIn } ∧ (d.armedIn == 1) = false) := Lib.hid ⟨by unfold Dk.begin; rw [if_pos ha, ha], by rw [ha]; rfl⟩
    clear ha
    go_enter Tryz.func137, Tryz.ntmps137
    go_wp2_with (fail)
    go_ret
    rw [HB.out.1, HB.out.2]
    exact ⟨rfl, H.out.nums ((Ch.refl _ w).set1 3 _) (heap_set_row H.out.row _), (Ch.refl _ w).set1 3 _⟩
  · have d1 : (d.armedIn == 0) = false := by simpa using ha
    have e2 : wrap64 (d.armedIn - 1) = d.armedIn - 1 := IntWalk.wrap64_in _ (by omega)
    have HB : Hid (d.begin = { d with ops := d.ops + 1, armedIn := d.armedIn - 1 } ∧ (d.armedIn == 1) = (d.armedIn - 1 == 0)) := Lib.hid ⟨by unfold Dk.begin; rw [if_neg ha], by rw [Bool.eq_iff_iff, beq_iff_eq, beq_iff_eq]; omega⟩
    clear ha
    go_enter Tryz.func137, Tryz.ntmps137
    go_wp2_with (fail)
    go_ret
    rw [HB.out.1, HB.out.2]
    exact ⟨rfl, H.out.nums (((Ch.refl _ w).set1 3 _).set1 5 _) (heap_set_row (heap_set_row H.out.row _) _), ((Ch.refl _ w).set1 3 _).set1 5 _⟩

set_option maxRecDepth 100000 in
theorem dkLose {w : World} {B D M : Nat} {d : Dk} {F : List Ent} (h : DkAt w B D M d F) : Calls Tryz.prog 138 #[pD D] w fun e w' => e = .panicked [{ v := crashI d.ops, recovered := false }] ∧ w = w' := by
  have c3 : w.cell? ⟨D, 3, none⟩ = some (.int .i64 d.ops) := h.cell 3
  clear h
  go_enter Tryz.func138, Tryz.ntmps138
  go_wp2
  exact ⟨rfl, rfl, rfl⟩

set_option maxRecDepth 100000 in
theorem dkNew (n : Int) (hn : 0 ≤ n ∧ n ≤ 1073741824) (w : World) : Calls Tryz.prog 34 #[.int .i64 n] w fun e w' => ∃ D M, e = .returned (.tuple #[pD D, .int .i64 0]) ∧ DkAt w' w.heap.size D M ⟨n, 0, 0, 0, 0, 0⟩ [] ∧ Below w.heap.size w w' := by
  have d1 : decide ((0 : Int) ≤ n) = true := by simpa using hn.1
  have d2 : decide (n ≤ (1073741824 : Int)) = true := by simpa using hn.2
  have hmm := @run_makeMap Tryz.prog
  clear hn
  go_enter Tryz.func34, Tryz.ntmps34
  go_wp2_with (fail)
  refine (dkRoomOk n w).mono ?_
  rintro e w2 ⟨rfl, rfl⟩
  rw [d1, d2]
  go_wp2_with (fail)
  go_ret2
  refine ⟨w.heap.size + 1, w.heap.size, rfl, ⟨by omega, Nat.le_refl _, ?_, ?_, fun e he => (by cases he), List.Pairwise.nil, List.nodup_nil⟩, ((Below.refl _ _).alloc (Nat.le_refl _) _).alloc (by simp) _⟩
  · have := heap_alloc_new (w.alloc (.map #[] 0)) (dkObj w.heap.size ⟨n, 0, 0, 0, 0, 0⟩)
    simpa using this
  · exact (MapIs.new (.string) w).below ((Below.refl _ _).alloc (Nat.le_refl _) _)
end Go.Proofs.YtodjilljcjkacaaGreatDoor
/- Layer 2: lay and Append, walked. -/
namespace Go.Proofs.YtodjilljcjkacaaGreatDoor
open Go.RowKit Go.MapKept

def layF (fs : Fs) (n : ByteArray) (b : List UInt8) : Fs := fput fs n (match fget fs n with | some f => ⟨f.bs ++ b, f.safe⟩ | none => ⟨b, 0⟩)
section
variable {w w1 w2 : World} {B D M : Nat} {d : Dk} {F P Q : List Ent}
theorem aset_new (n : ByteArray) (v : Value) (h : ∀ e ∈ F, e.nm ≠ n) : aset (mapL F) n v = mapL F ++ [(n, v)] := by
  induction F with
  | nil => rfl
  | cons a r ih =>
    simp only [mapL, List.map_cons, aset, List.cons_append]
    rw [if_neg (fun e => h a (by simp) e.symm)]
    rw [ih (fun e he => h e (by simp [he]))]
/-- a new file -/
theorem DkAt.add (h : DkAt w B D M d F) {n : ByteArray} (hn : ∀ e ∈ F, e.nm ≠ n) (hB : B ≤ w.heap.size) (hm : MapIs (.string) w1 M (aset (mapL F) n (pf w.heap.size))) (hch : Ch (fun k => k = M) (w.alloc (fObj (.slice none 0 0) 0)) w1) :
    DkAt w1 B D M d (F ++ ⟨n, w.heap.size, .slice none 0 0, ⟨[], 0⟩⟩ :: []) ∧ DkCh D M F (F ++ ⟨n, w.heap.size, .slice none 0 0, ⟨[], 0⟩⟩ :: []) w w1 := by
  have hb0 : Below w.heap.size w (w.alloc (fObj (.slice none 0 0) 0)) := (Below.refl _ _).alloc (Nat.le_refl _) _
  have h0 := h.below hb0
  have hMlt := h.map.lt
  rw [aset_new n _ hn] at hm
  refine ⟨⟨h.hD, h.hM, hch.row h0.row h.neDM.symm, by simpa [mapL] using hm, fun e he => ?_, ?_, ?_⟩, ⟨(Ch.of_below (S := DFoot D M F) hb0).trans hch (fun k _ hk => .inr (.inl hk)), fun k hk => ?_⟩⟩
  · rcases List.mem_append.1 he with he | he
    · have h2 := h0.files e he
      exact h2.ch hch (h2.neM h0.map).1 (fun k hk hs => (h2.neM h0.map).2 (by rw [hk, hs]))
    · obtain rfl := List.mem_singleton.1 he
      exact ⟨hB, hch.row (heap_alloc_new w _) (by simp only; omega), Own.nil _ _ _⟩
  · rw [List.pairwise_append]
    refine ⟨h.apart, List.pairwise_singleton _ _, fun x hx y hy => ?_⟩
    obtain rfl := List.mem_singleton.1 hy
    refine ⟨by have := (h.files x hx).lt; simp only; omega, fun k _ hk => by simp [Value.ownBlock] at hk⟩
  · rw [List.map_append, List.nodup_append]
    refine ⟨h.names, by simp, fun a ha b hb => ?_⟩
    obtain ⟨e, he, rfl⟩ := List.mem_map.1 ha
    simp only [List.map_cons, List.map_nil, List.mem_singleton] at hb
    subst hb
    exact hn e he
  · obtain ⟨e, he, hk⟩ := hk
    rcases List.mem_append.1 he with he | he
    · exact .inl ⟨e, he, hk⟩
    · obtain rfl := List.mem_singleton.1 he
      rcases hk with hk | hk
      · exact .inr (by rw [hk]; exact Nat.le_refl _)
      · simp [Value.ownBlock] at hk
theorem Bs.neMap {A : Option Addr} {m c : Nat} {l : List UInt8} (h : Bs w A m c l) {L : List (ByteArray × Value)} (hM : MapIs (.string) w M L) (h0 : 0 < m) (b : Addr) (hb : A = some b) : ¬ b.block = M := by
  intro e
  obtain ⟨x, o, rfl, _, hc⟩ := h.at_ h0
  injection hb with hb
  subst hb
  obtain ⟨es, ck, hr, _⟩ := hM
  have h1 := hc 0 _ (List.getElem?_eq_getElem (by rw [h.len]; exact h0))
  simp only at e
  subst e
  simp [World.cell?, hr] at h1
theorem Bs.neDk {A : Option Addr} {m c : Nat} {l : List UInt8} (h : Bs w A m c l) (hD : w.heap[D]? = some (dkObj M d)) (h0 : 0 < m) (b : Addr) (hb : A = some b) : ¬ b.block = D := by
  intro e
  obtain ⟨x, o, rfl, _, hc⟩ := h.at_ h0
  injection hb with hb
  subst hb
  have h1 := hc 0 _ (List.getElem?_eq_getElem (by rw [h.len]; exact h0))
  simp only at e
  subst e
  rw [cell_of_row w x _ _ _ _ hD] at h1
  rcases o with _ | _ | _ | _ | _ | _ | _ | o <;> simp [dkCells] at h1
/-- bytes behind a file's -/
theorem DkAt.laid {nm : ByteArray} {g : Nat} {v v' : Value} {f : Fl} {l : List UInt8} (h : DkAt w1 B D M d (P ++ ⟨nm, g, v, f⟩ :: Q)) (ho : Own 5 w2 B v' (f.bs ++ l)) (hgr : w1.grownBy w2 v.ownBlock) (hfr : v'.ownBlock = v.ownBlock ∨ v'.ownBlock = some w1.heap.size) :
    (w2.heap[g]? = some (fObj v f.safe) ∧ w2.heap[D]? = some (dkObj M d)) ∧ ∀ u : Int, DkAt ((w2.setCell ⟨g, 0, none⟩ v').setCell ⟨D, 2, none⟩ (.int .i64 u)) B D M { d with used := u } (P ++ ⟨nm, g, v', ⟨f.bs ++ l, f.safe⟩⟩ :: Q) ∧
      DkCh D M (P ++ ⟨nm, g, v, f⟩ :: Q) (P ++ ⟨nm, g, v', ⟨f.bs ++ l, f.safe⟩⟩ :: Q) w1 ((w2.setCell ⟨g, 0, none⟩ v').setCell ⟨D, 2, none⟩ (.int .i64 u)) := by
  have he := h.files ⟨nm, g, v, f⟩ (by simp)
  have hne := own_ne he.own he.row (by decide)
  have hch0 : Ch (fun k => v.ownBlock = some k) w1 w2 := Ch.of_grown hgr (fun k hk => hk)
  have hr2 : w2.heap[g]? = some (fObj v f.safe) := hch0.row he.row (fun hs => hne hs.symm)
  have hch : Ch (fun k => k = g ∨ v.ownBlock = some k) w1 (w2.setCell ⟨g, 0, none⟩ v') := ((Ch.refl (fun k => k = g ∨ v.ownBlock = some k) w1).trans hch0 (fun _ _ hk => .inr hk)).set (a := ⟨g, 0, none⟩) (.inl rfl) v'
  have hne2 : v'.ownBlock ≠ some g := by
    rcases hfr with hf | hf
    · rw [hf]; exact hne.symm
    · rw [hf]; intro e; injection e with e; have := he.lt; simp only at this; omega
  obtain ⟨h1, h2⟩ := h.file hch v' ⟨f.bs ++ l, f.safe⟩ (heap_set_row hr2 v') (ho.ch ((Ch.refl (fun k => k = g) w2).set (a := ⟨g, 0, none⟩) rfl v') (fun k hk hs => hne2 (by rw [hk, hs]))) (fun k hk => by
    rcases hfr with hf | hf
    · exact .inl (by rw [← hf]; exact hk)
    · rw [hf] at hk; injection hk with hk; exact .inr (by omega))
  have hr3 : w2.heap[D]? = some (dkObj M d) := hch0.row h.row (fun hs => (he.neD h.row).2 hs)
  refine ⟨⟨hr2, hr3⟩, fun u => ?_⟩
  have h3 := h1.nums (d' := { d with used := u }) ((Ch.refl (At1 D) _).set1 2 (.int .i64 u)) (heap_set_row h1.row _)
  exact ⟨h3, h2.trans (DkCh.of1 ((Ch.refl (At1 D) _).set1 2 _))⟩
end

set_option maxHeartbeats 2000000 in
set_option maxRecDepth 100000 in
theorem dkLay {w : World} {B D M : Nat} {d : Dk} {F : List Ent} (h : DkAt w B D M d F) (hu : 0 ≤ d.used ∧ d.used ≤ 1073741824) (nm : ByteArray) (A : Option Addr) (m c : Nat) (l : List UInt8) (hl : Bs w A m c l) (hm : d.used + (m : Int) ≤ 1073741824) (hlen : ∀ e ∈ F, e.f.bs.length ≤ 1073741824) (hBw : B ≤ w.heap.size) :
    Calls Tryz.prog 177 #[pD D, .string nm, .slice A m c] w fun e w' => e = .returned (.tuple #[]) ∧ ∃ F', DkAt w' B D M { d with used := d.used + (m : Int) } F' ∧ DkCh D M F F' w w' ∧ fsOf F' = layF (fsOf F) nm l := by
  have c0' : w.cell? ⟨D, 0, none⟩ = some (.map (some M)) := h.cell 0
  have hz : (zeroValue 119).run Tryz.prog w = .ok (.pointer none) w := by kernel_rfl
  have e1 : wrap64 (d.used + (m : Int)) = d.used + (m : Int) := IntWalk.wrap64_in _ (by omega)
  have HM := Lib.hid hm
  have HBS := Lib.hid hl
  have HBW := Lib.hid hBw
  have H := Lib.hid h
  have HU := Lib.hid hu
  have tok1 : Hid True := Lib.hid trivial
  have tok2 : Hid True := Lib.hid trivial
  have tok3 : Hid True := Lib.hid trivial
  rcases aget_split F nm with ⟨hno, hne⟩ | ⟨P, e, Q, rfl, rfl, hyes, hfirst⟩
  · have HNO := Lib.hid hno
    have HNE := Lib.hid hne
    have hDlt := h.lt
    have hDne : D ≠ w.heap.size := by omega
    have hMr : (w.alloc (.cells #[.slice none 0 0, .int .i64 0] 121)).cell? ⟨D, 0, none⟩ = some (.map (some M)) := (h.below ((Below.refl _ _).alloc (Nat.le_refl _) _)).cell 0
    have HMA : Hid (MapIs (.string) (w.alloc (fObj (.slice none 0 0) 0)) M (mapL F)) := Lib.hid (h.map.below ((Below.refl _ _).alloc (Nat.le_refl _) _))
    clear h hno hne hlen hm hl hBw hu
    go_enter Tryz.func177, Tryz.ntmps177
    go_wp2_with (first
      | (at_lookup; have _t := tok1; refine wpList_lookupL rfl (keyString Tryz.underlying9) (.tmp 10) (.tmp 11) 116 119 false rfl Tryz.underlying116 M (mapL F) rfl H.out.map nm rfl (.pointer none) hz ?_; rw [HNO.out]; simp only [Option.getD_none, Bool.false_eq_true, if_false]; clear tok1 _t)
      | (have _t := tok2; refine wpList_updateL rfl (keyString Tryz.underlying9) (.tmp 20) (.tmp 21) (.tmp 22) 116 119 (.inl rfl) Tryz.underlying116 M (mapL F) rfl HMA.out nm rfl (pf w.heap.size) rfl ?_; intro w1 hm1 hch1 hsz1; have HAD := Lib.hid (H.out.add HNE.out HBW.out hm1 hch1); have HSZ : Hid (B ≤ w1.heap.size) := Lib.hid (by have := HAD.out.2.ch.size; have := HBW.out; omega); have HB1 : Hid (Bs w1 A m c l) := Lib.hid ((HBS.out.alloc _).ch hch1 (fun h0 b hb => (HBS.out.alloc _).neMap HMA.out h0 b hb)); have HFA := Lib.hid (HAD.out.1.files ⟨nm, w.heap.size, .slice none 0 0, ⟨[], 0⟩⟩ (by simp)); have y0 : w1.cell? ⟨w.heap.size, 0, none⟩ = some (.slice none 0 0) := HFA.out.cell 0; have y1 : w1.frozen? ⟨w.heap.size, 0, none⟩ = false := HFA.out.frozen 0; clear tok2 hm1 hch1 hsz1 _t)
      | (at_builtin; have _t := tok3; go_loud ((refine wpList_appL rfl (.tmp 27) (.tmp 28) rfl B (.slice none 0 0) [] rfl HFA.out.own A m c l rfl HB1.out (by have := HM.out; have := HU.out; rw [List.length_nil]; omega) HSZ.out ?_; intro v' w2 hown hgr hfr; have HLD := Lib.hid (HAD.out.1.laid (l := l) hown hgr hfr); obtain ⟨A2, c2, rfl⟩ := own_form hown; have z0 : w2.cell? ⟨w.heap.size, 0, none⟩ = some (.slice none 0 0) := cell_of_row _ _ 0 _ _ _ HLD.out.1.1; have z1 : w2.frozen? ⟨w.heap.size, 0, none⟩ = false := (by simp [World.frozen?, HLD.out.1.1]); have z2 : w2.cell? ⟨D, 2, none⟩ = some (.int .i64 d.used) := cell_of_row _ _ 2 _ _ _ HLD.out.1.2; have z3 : w2.frozen? ⟨D, 2, none⟩ = false := (by simp [World.frozen?, HLD.out.1.2]); clear tok3 hown hgr hfr _t))))
    go_end0
    refine ⟨rfl, _, (HLD.out.2 (d.used + (m : Int))).1, HAD.out.2.trans (HLD.out.2 (d.used + (m : Int))).2, ?_⟩
    unfold layF
    rw [fget_none HNE.out, fput_none _ HNE.out]
    simp
  · obtain ⟨nm, g, v, f⟩ := e
    simp only at *
    have HYES := Lib.hid hyes
    have HLEN : Hid (f.bs.length ≤ 1073741824) := Lib.hid (hlen ⟨nm, g, v, f⟩ (by simp))
    have HFA := Lib.hid (h.files ⟨nm, g, v, f⟩ (by simp))
    obtain ⟨A0, c0, hv⟩ := own_form (show w.ownsRow B 5 1 v f.bs.length (u8s f.bs) from HFA.out.own)
    subst hv
    have y0 : w.cell? ⟨g, 0, none⟩ = some (.slice A0 f.bs.length c0) := HFA.out.cell 0
    have HFI := Lib.hid hfirst
    clear h hyes hfirst hlen hm hl hBw hu
    go_enter Tryz.func177, Tryz.ntmps177
    go_wp2_with (first
      | (at_lookup; have _t := tok1; refine wpList_lookupL rfl (keyString Tryz.underlying9) (.tmp 10) (.tmp 11) 116 119 false rfl Tryz.underlying116 M (mapL (P ++ ⟨nm, g, .slice A0 f.bs.length c0, f⟩ :: Q)) rfl H.out.map nm rfl (.pointer none) hz ?_; rw [HYES.out]; simp only [Option.getD_some, Bool.false_eq_true, if_false]; clear tok1 _t)
      | (at_builtin; have _t := tok3; go_loud ((refine wpList_appL rfl (.tmp 27) (.tmp 28) rfl B (.slice A0 f.bs.length c0) f.bs rfl HFA.out.own A m c l rfl HBS.out (by have := HM.out; have := HU.out; have := HLEN.out; omega) HBW.out ?_; intro v' w2 hown hgr hfr; have HLD := Lib.hid (H.out.laid (l := l) hown hgr hfr); obtain ⟨A2, c2, rfl⟩ := own_form hown; have z0 : w2.cell? ⟨g, 0, none⟩ = some (.slice A0 f.bs.length c0) := cell_of_row _ _ 0 _ _ _ HLD.out.1.1; have z1 : w2.frozen? ⟨g, 0, none⟩ = false := (by simp [World.frozen?, HLD.out.1.1]); have z2 : w2.cell? ⟨D, 2, none⟩ = some (.int .i64 d.used) := cell_of_row _ _ 2 _ _ _ HLD.out.1.2; have z3 : w2.frozen? ⟨D, 2, none⟩ = false := (by simp [World.frozen?, HLD.out.1.2]); clear tok3 hown hgr hfr _t))))
    go_end0
    have hld := HLD.out.2 (d.used + (m : Int))
    rw [List.length_append] at hld
    refine ⟨rfl, _, hld.1, hld.2, ?_⟩
    unfold layF
    rw [fget_at HFI.out, fput_at (e := ⟨nm, g, _, f⟩) _ HFI.out]

/-- how many bytes are laid -/
def appN (d : Dk) (m : Nat) : Nat := min m (d.room - d.used).toNat
/-- and, when the power goes -/
def appK (d : Dk) (m : Nat) : Nat := min (appN d m) d.armKeep.toNat
def FileLens (F : List Ent) : Prop := ∀ e ∈ F, e.f.bs.length ≤ 1073741824
set_option maxHeartbeats 2000000 in
set_option maxRecDepth 100000 in
theorem dkAppend_name (w : World) (D : Nat) (nm : ByteArray) (hs : nm.size ≤ 140737488355328) (hn : nameD nm = false) (A : Option Addr) (m c : Nat) :
    Calls Tryz.prog 155 #[pD D, .string nm, .slice A m c] w fun e w' => e = .returned (.tuple #[.int .i64 0, .int .i64 16]) ∧ w = w' := by
  have HN := Lib.hid hn
  clear hn
  go_enter Tryz.func155, Tryz.ntmps155
  go_wp2_with (fail)
  refine (fnRight nm w hs).mono ?_
  rintro e w1 ⟨rfl, rfl⟩
  rw [HN.out]
  go_wp2_with (fail)
  go_ret2
  exact ⟨rfl, rfl⟩
set_option maxHeartbeats 2000000 in
set_option maxRecDepth 100000 in
theorem dkAppend_ok {w : World} {B D M : Nat} {d : Dk} {F : List Ent} (h : DkAt w B D M d F) (ok : d.Ok) (hlen : FileLens F) (nm : ByteArray) (hn : nameD nm = true) (hs : nm.size ≤ 140737488355328) (A : Option Addr) (m c : Nat) (l : List UInt8) (hl : Bs w A m c l) (hBw : B ≤ w.heap.size) (ha : d.armedIn ≠ 1) :
    Calls Tryz.prog 155 #[pD D, .string nm, .slice A m c] w fun e w' => e = .returned (.tuple #[.int .i64 (appN d m), .int .i64 (if appN d m < m then 4 else 0)]) ∧ ∃ F', DkAt w' B D M { d.begin with used := d.used + (appN d m : Int) } F' ∧ DkCh D M F F' w w' ∧ fsOf F' = layF (fsOf F) nm (l.take (appN d m)) := by
  have c1 : w.cell? ⟨D, 1, none⟩ = some (.int .i64 d.room) := h.cell 1
  have c2 : w.cell? ⟨D, 2, none⟩ = some (.int .i64 d.used) := h.cell 2
  have o1 := ok.room
  have o2 := ok.used
  have e1 : wrap64 (d.room - d.used) = d.room - d.used := IntWalk.wrap64_in _ (by omega)
  obtain ⟨n, hnn⟩ : ∃ n, n = appN d m := ⟨_, rfl⟩
  have hmn : min (m : Int) (max 0 (d.room - d.used)) = (n : Int) := by rw [hnn]; unfold appN; omega
  have hnm : n ≤ m := by rw [hnn]; unfold appN; omega
  have hnu : d.used + (n : Int) ≤ 1073741824 := by rw [hnn]; unfold appN; omega
  rw [← hnn]
  have hml := hl.nmax
  have hmc := hl.le
  have HN := Lib.hid hn
  have H := Lib.hid h
  have OK := Lib.hid ok
  have HBS := Lib.hid hl
  have HBW := Lib.hid hBw
  have HLEN := Lib.hid hlen
  have HA : Hid ((d.armedIn == 1) = false) := Lib.hid (by simpa using ha)
  have HNU := Lib.hid hnu
  have HNM := Lib.hid hnm
  clear h ok hl hBw hlen ha hn hnn hnu
  go_enter Tryz.func155, Tryz.ntmps155
  go_wp2_with (fail)
  refine (fnRight nm w hs).mono ?_
  rintro e w1 ⟨rfl, rfl⟩
  rw [HN.out]
  go_wp2_with (fail)
  go_region
  all_goals
    have hdr : Below w.heap.size w w.drew := (Below.refl _ w).drew
    have H0 := Lib.hid (H.out.below hdr)
    have HBS0 := Lib.hid (HBS.out.below hdr)
    have HSZ0 : Hid (B ≤ w.drew.heap.size) := HBW
    have HCH0 : Hid (DkCh D M F F w w.drew) := Lib.hid (DkCh.of_below hdr)
    clear c1 c2
    generalize w.drew = w0 at *
    go_wp2_with (fail)
    refine (dkBegin H0.out OK.out).mono ?_
    rintro e w2 ⟨rfl, h2, hc2⟩
    rw [HA.out]
    have H2 := Lib.hid h2
    have HBS2 := Lib.hid ((HBS0.out.ch hc2 (HBS0.out.neDk H0.out.row)).take HNM.out)
    have HSZ2 : Hid (B ≤ w2.heap.size) := Lib.hid (Nat.le_trans HSZ0.out hc2.size)
    have HCH2 := Lib.hid (HCH0.out.trans (DkCh.of1 hc2))
    clear h2 hc2
    have hnc : (n : Int) ≤ (c : Int) := by omega
    go_wp2_with (fail)
    refine (dkLay H2.out (show 0 ≤ d.begin.used ∧ d.begin.used ≤ 1073741824 from OK.out.used) nm A n c (l.take n) HBS2.out HNU.out HLEN.out HSZ2.out).mono ?_
    rintro e w3 ⟨rfl, F', h3, hc3, hf3⟩
    have HR : Hid (∃ F', DkAt w3 B D M { d.begin with used := d.used + (n : Int) } F' ∧ DkCh D M F F' w w3 ∧ fsOf F' = layF (fsOf F) nm (l.take n)) := Lib.hid ⟨F', h3, HCH2.out.trans hc3, hf3⟩
    clear h3 hc3 hf3
    by_cases hlt : n < m
    · have d1 : decide ((n : Int) < (m : Int)) = true := by simpa using hlt
      have HLT := Lib.hid hlt
      clear hlt
      go_wp2_with (fail)
      go_ret2
      exact ⟨rfl, HR.out⟩
    · have d1 : decide ((n : Int) < (m : Int)) = false := by simpa using hlt
      have HLT := Lib.hid hlt
      clear hlt
      go_wp2_with (fail)
      go_ret2
      exact ⟨rfl, HR.out⟩
set_option maxHeartbeats 2000000 in
set_option maxRecDepth 100000 in
theorem dkAppend_lost {w : World} {B D M : Nat} {d : Dk} {F : List Ent} (h : DkAt w B D M d F) (ok : d.Ok) (hlen : FileLens F) (nm : ByteArray) (hn : nameD nm = true) (hs : nm.size ≤ 140737488355328) (A : Option Addr) (m c : Nat) (l : List UInt8) (hl : Bs w A m c l) (hBw : B ≤ w.heap.size) (ha : d.armedIn = 1) :
    Calls Tryz.prog 155 #[pD D, .string nm, .slice A m c] w fun e w' => e = .panicked [{ v := crashI (d.ops + 1), recovered := false }] ∧ ∃ F', DkAt w' B D M { d.begin with used := d.used + (appK d m : Int) } F' ∧ DkCh D M F F' w w' ∧ fsOf F' = layF (fsOf F) nm (l.take (appK d m)) := by
  have c1 : w.cell? ⟨D, 1, none⟩ = some (.int .i64 d.room) := h.cell 1
  have c2 : w.cell? ⟨D, 2, none⟩ = some (.int .i64 d.used) := h.cell 2
  have o1 := ok.room
  have o2 := ok.used
  have e1 : wrap64 (d.room - d.used) = d.room - d.used := IntWalk.wrap64_in _ (by omega)
  obtain ⟨n, hnn⟩ : ∃ n, n = appN d m := ⟨_, rfl⟩
  have hmn : min (m : Int) (max 0 (d.room - d.used)) = (n : Int) := by rw [hnn]; unfold appN; omega
  have hnm : n ≤ m := by rw [hnn]; unfold appN; omega
  have hnu : d.used + (n : Int) ≤ 1073741824 := by rw [hnn]; unfold appN; omega
  obtain ⟨q, hq⟩ : ∃ q, q = appK d m := ⟨_, rfl⟩
  have hmq : min (n : Int) (max 0 d.armKeep) = (q : Int) := by rw [hq]; unfold appK; rw [← hnn]; omega
  have hqn : q ≤ n := by rw [hq, hnn]; unfold appK; omega
  have HQN := Lib.hid hqn
  have HQU : Hid (d.used + (q : Int) ≤ 1073741824) := Lib.hid (by omega)
  rw [← hq]
  clear hq
  have hml := hl.nmax
  have hmc := hl.le
  have HN := Lib.hid hn
  have H := Lib.hid h
  have OK := Lib.hid ok
  have HBS := Lib.hid hl
  have HBW := Lib.hid hBw
  have HLEN := Lib.hid hlen
  have HA : Hid ((d.armedIn == 1) = true) := Lib.hid (by simpa using ha)
  have HNU := Lib.hid hnu
  have HNM := Lib.hid hnm
  clear h ok hl hBw hlen ha hn hnn hnu
  go_enter Tryz.func155, Tryz.ntmps155
  go_wp2_with (fail)
  refine (fnRight nm w hs).mono ?_
  rintro e w1 ⟨rfl, rfl⟩
  rw [HN.out]
  go_wp2_with (fail)
  go_region
  all_goals
    have hdr : Below w.heap.size w w.drew := (Below.refl _ w).drew
    have H0 := Lib.hid (H.out.below hdr)
    have HBS0 := Lib.hid (HBS.out.below hdr)
    have HSZ0 : Hid (B ≤ w.drew.heap.size) := HBW
    have HCH0 : Hid (DkCh D M F F w w.drew) := Lib.hid (DkCh.of_below hdr)
    clear c1 c2
    generalize w.drew = w0 at *
    go_wp2_with (fail)
    refine (dkBegin H0.out OK.out).mono ?_
    rintro e w2 ⟨rfl, h2, hc2⟩
    rw [HA.out]
    have H2 := Lib.hid h2
    have HBS2 := Lib.hid ((HBS0.out.ch hc2 (HBS0.out.neDk H0.out.row)).take (Nat.le_trans HQN.out HNM.out))
    have HSZ2 : Hid (B ≤ w2.heap.size) := Lib.hid (Nat.le_trans HSZ0.out hc2.size)
    have HCH2 := Lib.hid (HCH0.out.trans (DkCh.of1 hc2))
    have c6 : w2.cell? ⟨D, 6, none⟩ = some (.int .i64 d.armKeep) := h2.cell 6
    clear h2 hc2
    have hqc : (q : Int) ≤ (c : Int) := by omega
    go_wp2_with (fail)
    refine (dkLay H2.out (show 0 ≤ d.begin.used ∧ d.begin.used ≤ 1073741824 from OK.out.used) nm A q c (l.take q) HBS2.out HQU.out HLEN.out HSZ2.out).mono ?_
    rintro e w3 ⟨rfl, F', h3, hc3, hf3⟩
    have HR : Hid (∃ F', DkAt w3 B D M { d.begin with used := d.used + (q : Int) } F' ∧ DkCh D M F F' w w3 ∧ fsOf F' = layF (fsOf F) nm (l.take q)) := Lib.hid ⟨F', h3, HCH2.out.trans hc3, hf3⟩
    have H3 := Lib.hid h3
    clear h3 hc3 hf3 c6
    go_wp2_with (fail)
    refine (dkLose H3.out).mono ?_
    rintro e w4 ⟨rfl, rfl⟩
    go_wp2_with (fail)
    exact ⟨rfl, rfl, HR.out⟩
end Go.Proofs.YtodjilljcjkacaaGreatDoor
/- Layer 2: what a disk tells, and its small changes, walked. -/
namespace Go.Proofs.YtodjilljcjkacaaGreatDoor
open Go.RowKit Go.MapKept

noncomputable abbrev kS : KeyK Tryz.prog 9 ByteArray .string := keyString Tryz.underlying9
theorem fget_split (F : List Ent) (n : ByteArray) : (fget (fsOf F) n = none ∧ ∀ e ∈ F, e.nm ≠ n) ∨ ∃ P e Q, F = P ++ e :: Q ∧ e.nm = n ∧ fget (fsOf F) n = some e.f ∧ ∀ x ∈ P, x.nm ≠ n := by
  rcases aget_split F n with ⟨_, h⟩ | ⟨P, e, Q, rfl, rfl, _, h⟩
  · exact .inl ⟨fget_none h, h⟩
  · exact .inr ⟨P, e, Q, rfl, rfl, fget_at h, h⟩
theorem aget_none {F : List Ent} {n : ByteArray} (h : ∀ e ∈ F, e.nm ≠ n) : aget (mapL F) n = none := by
  rcases aget_split F n with ⟨h1, _⟩ | ⟨P, e, Q, rfl, rfl, _, _⟩
  · exact h1
  · exact absurd rfl (h e (by simp))
theorem aget_at {P Q : List Ent} {e : Ent} (h : ∀ x ∈ P, x.nm ≠ e.nm) : aget (mapL (P ++ e :: Q)) e.nm = some (pf e.g) := by
  induction P with
  | nil => simp [mapL, aget]
  | cons a r ih =>
    have := ih (fun x hx => h x (by simp [hx]))
    simp only [mapL, List.cons_append, List.map_cons, aget] at this ⊢
    rw [if_neg (fun e2 => h a (by simp) e2.symm)]
    exact this
/-- a row, cut -/
theorem Own.shrink {E : TypeId} {w : World} {B c n : Nat} {A : Option Addr} {l : List UInt8} (h : Own E w B (.slice A l.length c) l) (hn : n ≤ l.length) : Own E w B (.slice A n c) (l.take n) := by
  have hl : (l.take n).length = n := by rw [List.length_take]; omega
  refine ⟨by simp [hn], ?_⟩
  rcases h.2 with ⟨he, h0⟩ | ⟨g, cap, cur, he, h1, h2, h3, h4, h5, h6⟩
  · left
    rw [hl]
    injection he with e1 e2 e3
    subst e1 e3
    have : n = 0 := by omega
    subst this
    exact ⟨rfl, rfl⟩
  · right
    injection he with e1 e2 e3
    subst e1 e3
    refine ⟨g, c, cur, by rw [hl], h1, h2, by rw [hl]; omega, h4, h5, ?_⟩
    rw [hl, u8s, List.map_take]
    have h7 : (u8s l).take n = (cur.toList.take (l.length * 1)).take n := by rw [h6]
    rw [List.take_take, Nat.mul_one, Nat.min_eq_left hn] at h7
    rw [Nat.mul_one]
    exact h7.symm
set_option maxRecDepth 100000 in
theorem dkLoseC {w : World} {D : Nat} {n : Int} (c3 : w.cell? ⟨D, 3, none⟩ = some (.int .i64 n)) : Calls Tryz.prog 138 #[pD D] w fun e w' => e = .panicked [{ v := crashI n, recovered := false }] ∧ w = w' := by
  go_enter Tryz.func138, Tryz.ntmps138
  go_wp2
  exact ⟨rfl, rfl, rfl⟩
def FreshB (w : World) (l : List UInt8) (e : Ending) (w' : World) : Prop := ∃ g, e = .returned (.tuple #[.slice (some ⟨g, 0, none⟩) l.length l.length, .int .i64 0]) ∧ w.heap.size ≤ g ∧ w'.heap[g]? = some (.cells (u8s l).toArray 5) ∧ Below w.heap.size w w'
section
variable {w : World} {B D M : Nat} {d : Dk} {F : List Ent}

set_option maxHeartbeats 1000000 in
set_option maxRecDepth 100000 in
theorem dkRead_none (h : DkAt w B D M d F) (nm : ByteArray) (hn : ∀ e ∈ F, e.nm ≠ nm) : Calls Tryz.prog 26 #[pD D, .string nm] w fun e w' => e = .returned (.tuple #[.slice none 0 0, .int .i64 6]) ∧ w = w' := by
  have c0' : w.cell? ⟨D, 0, none⟩ = some (.map (some M)) := h.cell 0
  have hz : (zeroValue 119).run Tryz.prog w = .ok (.pointer none) w := by kernel_rfl
  have HNO := Lib.hid (aget_none hn)
  have H := Lib.hid h
  have tok1 : Hid True := Lib.hid trivial
  clear h hn
  go_enter Tryz.func26, Tryz.ntmps26
  go_wp2_with (first | (at_lookup; have _t := tok1; refine wpList_lookupL rfl kS (.tmp 13) (.tmp 14) 116 119 false rfl Tryz.underlying116 M (mapL F) rfl H.out.map nm rfl (.pointer none) hz ?_; rw [HNO.out]; simp only [Option.getD_none, Bool.false_eq_true, if_false]; clear tok1 _t))
  go_ret2
  exact ⟨rfl, rfl⟩

set_option maxHeartbeats 1000000 in
set_option maxRecDepth 100000 in
theorem dkRead_some (h : DkAt w B D M d F) (hlen : FileLens F) (nm : ByteArray) (f : Fl) (hf : fget (fsOf F) nm = some f) : Calls Tryz.prog 26 #[pD D, .string nm] w (FreshB w f.bs) := by
  rcases fget_split F nm with ⟨h0, _⟩ | ⟨P, e, Q, rfl, rfl, h1, hfi⟩
  · rw [h0] at hf; cases hf
  rw [h1] at hf
  injection hf with hf
  subst hf
  obtain ⟨nm, g, v, f⟩ := e
  simp only at *
  have c0' : w.cell? ⟨D, 0, none⟩ = some (.map (some M)) := h.cell 0
  have hz : (zeroValue 119).run Tryz.prog w = .ok (.pointer none) w := by kernel_rfl
  have HYES : Hid (aget (mapL (P ++ ⟨nm, g, v, f⟩ :: Q)) nm = some (pf g)) := Lib.hid (aget_at (e := ⟨nm, g, v, f⟩) hfi)
  have H := Lib.hid h
  have HFA := Lib.hid (h.files ⟨nm, g, v, f⟩ (by simp))
  have hl : f.bs.length ≤ 1073741824 := hlen ⟨nm, g, v, f⟩ (by simp)
  obtain ⟨A, cp, hv, hfb, _⟩ := Own.bs (show Own 5 w B v f.bs from HFA.out.own)
  subst hv
  have HB := Lib.hid hfb
  have hfm := hfb.nmax
  have y0 : w.cell? ⟨g, 0, none⟩ = some (.slice A f.bs.length cp) := HFA.out.cell 0
  obtain ⟨Z, HZ, hzl, hmk⟩ := mk_zeros ((f.bs.length : Nat) : Int) f.bs.length rfl (by omega)
  have HZL := Lib.hid hzl
  have y0' : ∀ o, (w.alloc o).cell? ⟨g, 0, none⟩ = some (.slice A f.bs.length cp) := fun o => (((Below.refl w.heap.size w).alloc (Nat.le_refl _) o).cell (p := ⟨g, 0, none⟩) HFA.out.lt).trans y0
  have tok1 : Hid True := Lib.hid trivial
  have tok2 : Hid True := Lib.hid trivial
  clear h h1 hfi hfb hzl hlen
  go_enter Tryz.func26, Tryz.ntmps26
  go_wp2_with (first | (at_lookup; have _t := tok1; refine wpList_lookupL rfl kS (.tmp 13) (.tmp 14) 116 119 false rfl Tryz.underlying116 M (mapL (P ++ ⟨nm, g, .slice A f.bs.length cp, f⟩ :: Q)) rfl H.out.map nm rfl (.pointer none) hz ?_; rw [HYES.out]; simp only [Option.getD_some, Bool.false_eq_true, if_false]; clear tok1 _t) | (have _t := tok2; with_reducible show wpList _ _ _ _ _ _; refine wpList_cpyTo rfl (.tmp 24) (.tmp 28) 40 40 rfl 5 Tryz.underlying40 byteInfo w.heap.size 0 _ _ _ rfl Z 5 (heap_alloc_new w _) A f.bs.length f.bs.length cp f.bs rfl (HB.out.alloc _) (fun _ => rfl) (by omega) (by rw [HZL.out]; omega) ?_; intro w1 hw1 hb1; have HB1 := Lib.hid hb1; clear hb1 tok2 _t))
  go_ret2
  have hr := hw1.out
  rw [List.take_zero, List.nil_append, List.drop_of_length_le (by rw [HZL.out]; omega), List.append_nil] at hr
  exact ⟨w.heap.size, rfl, Nat.le_refl _, hr, ((Below.refl _ w).alloc (Nat.le_refl _) _).trans (HB1.out.mono (Nat.le_refl _))⟩

def Dk.syncs (d : Dk) : Dk := { d with failIn := if d.failIn = 0 then 0 else d.failIn - 1 }
set_option maxHeartbeats 1000000 in
set_option maxRecDepth 100000 in
theorem dkSyncFails (h : DkAt w B D M d F) (ok : d.Ok) : Calls Tryz.prog 98 #[pD D] w fun e w' => e = .returned (.bool (d.failIn == 1)) ∧ DkAt w' B D M d.syncs F ∧ Ch (At1 D) w w' := by
  have c4 : w.cell? ⟨D, 4, none⟩ = some (.int .i64 d.failIn) := h.cell 4
  have f4 := h.frozen 4
  have o2 := ok.failIn
  have H := Lib.hid h
  clear h ok
  by_cases ha : d.failIn = 0
  · have d1 : (d.failIn == 0) = true := by simpa using ha
    have HB : Hid (d.syncs = d ∧ (d.failIn == 1) = false) := Lib.hid ⟨by unfold Dk.syncs; rw [if_pos ha]; cases d; simp_all, by rw [ha]; rfl⟩
    clear ha
    go_enter Tryz.func98, Tryz.ntmps98
    go_wp2_with (fail)
    go_ret
    rw [HB.out.1, HB.out.2]
    exact ⟨rfl, H.out, Ch.refl _ w⟩
  · have d1 : (d.failIn == 0) = false := by simpa using ha
    have e2 : wrap64 (d.failIn - 1) = d.failIn - 1 := IntWalk.wrap64_in _ (by omega)
    have HB : Hid (d.syncs = { d with failIn := d.failIn - 1 } ∧ (d.failIn == 1) = (d.failIn - 1 == 0)) := Lib.hid ⟨by unfold Dk.syncs; rw [if_neg ha], by rw [Bool.eq_iff_iff, beq_iff_eq, beq_iff_eq]; omega⟩
    clear ha
    go_enter Tryz.func98, Tryz.ntmps98
    go_wp2_with (fail)
    go_ret
    rw [HB.out.1, HB.out.2]
    exact ⟨rfl, H.out.nums ((Ch.refl _ w).set1 4 _) (heap_set_row H.out.row _), (Ch.refl _ w).set1 4 _⟩

/-- a function that is entered as it stands -/
def FnOk (k : FuncId) : Prop := ∀ (args : Array Value) (w : World), (callFunc k args).run Tryz.prog w = .ok (.enter k args) w
abbrev fnV (k : FuncId) (caps : Array Value) : Value := .func (.func k) #[] caps
def dOdd (d : Dk) : Bool := d.armKeep.tmod 2 != 0
set_option maxHeartbeats 1000000 in
set_option maxRecDepth 100000 in
theorem dkChange_go (h : DkAt w B D M d F) (ok : d.Ok) (ha : d.armedIn ≠ 1) (k : FuncId) (caps : Array Value) (hk : FnOk k) (R : World → Prop)
    (hdo : ∀ w1, DkAt w1 B D M d.begin F → Ch (At1 D) w w1 → Calls Tryz.prog k caps w1 fun e w2 => e = .returned (.tuple #[]) ∧ R w2) :
    Calls Tryz.prog 99 #[pD D, fnV k caps] w fun e w' => e = .returned (.tuple #[]) ∧ R w' := by
  have HA : Hid ((d.armedIn == 1) = false) := Lib.hid (by simpa using ha)
  have H := Lib.hid h
  have OK := Lib.hid ok
  have HDO := Lib.hid hdo
  have hkk : ∀ (args : Array Value) (w : World), (callFunc k args).run Tryz.prog w = .ok (.enter k args) w := hk
  clear h ok ha hdo hk
  go_enter Tryz.func99, Tryz.ntmps99
  go_wp2_with (fail)
  refine (dkBegin H.out OK.out).mono ?_
  rintro e w2 ⟨rfl, h2, hc2⟩
  rw [HA.out]
  have HD2 := Lib.hid (HDO.out w2 h2 hc2)
  clear h2 hc2
  go_wp2_with (fail)
  refine HD2.out.mono ?_
  rintro e w3 ⟨rfl, hr⟩
  have HR := Lib.hid hr
  clear hr
  go_wp2_with (fail)
  go_end0
  exact ⟨rfl, HR.out⟩
set_option maxHeartbeats 1000000 in
set_option maxRecDepth 100000 in
theorem dkChange_odd (h : DkAt w B D M d F) (ok : d.Ok) (ha : d.armedIn = 1) (ho : dOdd d = true) (k : FuncId) (caps : Array Value) (hk : FnOk k) (R : World → Prop)
    (hdo : ∀ w1, DkAt w1 B D M d.begin F → Ch (At1 D) w w1 → Calls Tryz.prog k caps w1 fun e w2 => e = .returned (.tuple #[]) ∧ R w2) (hR : ∀ w2, R w2 → w2.cell? ⟨D, 3, none⟩ = some (.int .i64 (d.ops + 1))) :
    Calls Tryz.prog 99 #[pD D, fnV k caps] w fun e w' => e = .panicked [{ v := crashI (d.ops + 1), recovered := false }] ∧ R w' := by
  have HA : Hid ((d.armedIn == 1) = true) := Lib.hid (by simpa using ha)
  have H := Lib.hid h
  have OK := Lib.hid ok
  have HDO := Lib.hid hdo
  have HRC := Lib.hid hR
  have hodd : (d.armKeep.tmod 2 != 0) = true := ho
  have hkk : ∀ (args : Array Value) (w : World), (callFunc k args).run Tryz.prog w = .ok (.enter k args) w := hk
  clear h ok ha hdo hk hR ho
  go_enter Tryz.func99, Tryz.ntmps99
  go_wp2_with (fail)
  refine (dkBegin H.out OK.out).mono ?_
  rintro e w2 ⟨rfl, h2, hc2⟩
  rw [HA.out]
  have HD2 := Lib.hid (HDO.out w2 h2 hc2)
  have c6 : w2.cell? ⟨D, 6, none⟩ = some (.int .i64 d.armKeep) := h2.cell 6
  clear h2 hc2
  go_wp2_with (fail)
  refine HD2.out.mono ?_
  rintro e w3 ⟨rfl, hr⟩
  have HR := Lib.hid hr
  have c3 := HRC.out w3 hr
  clear hr c6
  go_wp2_with (fail)
  refine (dkLoseC c3).mono ?_
  rintro e w4 ⟨rfl, rfl⟩
  go_wp2_with (fail)
  exact ⟨rfl, rfl, HR.out⟩
set_option maxHeartbeats 1000000 in
set_option maxRecDepth 100000 in
theorem dkChange_even (h : DkAt w B D M d F) (ok : d.Ok) (ha : d.armedIn = 1) (ho : dOdd d = false) (k : FuncId) (caps : Array Value) :
    Calls Tryz.prog 99 #[pD D, fnV k caps] w fun e w' => e = .panicked [{ v := crashI (d.ops + 1), recovered := false }] ∧ DkAt w' B D M d.begin F ∧ Ch (At1 D) w w' := by
  have HA : Hid ((d.armedIn == 1) = true) := Lib.hid (by simpa using ha)
  have H := Lib.hid h
  have OK := Lib.hid ok
  have hodd : (d.armKeep.tmod 2 != 0) = false := ho
  clear h ok ha ho
  go_enter Tryz.func99, Tryz.ntmps99
  go_wp2_with (fail)
  refine (dkBegin H.out OK.out).mono ?_
  rintro e w2 ⟨rfl, h2, hc2⟩
  rw [HA.out]
  have c6 : w2.cell? ⟨D, 6, none⟩ = some (.int .i64 d.armKeep) := h2.cell 6
  have H2 := Lib.hid h2
  have HC2 := Lib.hid hc2
  have c3 : w2.cell? ⟨D, 3, none⟩ = some (.int .i64 (d.ops + 1)) := h2.cell 3
  clear h2 hc2
  go_wp2_with (fail)
  refine (dkLoseC c3).mono ?_
  rintro e w4 ⟨rfl, rfl⟩
  go_wp2_with (fail)
  exact ⟨rfl, rfl, H2.out, HC2.out⟩
end
end Go.Proofs.YtodjilljcjkacaaGreatDoor
/- Layer 2: Sync, walked. -/
namespace Go.Proofs.YtodjilljcjkacaaGreatDoor
open Go.RowKit Go.MapKept

section
variable {w : World} {B D M : Nat} {d : Dk} {F : List Ent}
/-- a file that is synced, or that fails to be -/
def syncErr (failed : Bool) : Int := if failed then 5 else 0
def syncFl (failed : Bool) (f : Fl) : Fl := if failed then f else ⟨f.bs, f.bs.length⟩
theorem DkAt.safe {P Q : List Ent} {nm : ByteArray} {g : Nat} {v : Value} {f : Fl} (h : DkAt w B D M d (P ++ ⟨nm, g, v, f⟩ :: Q)) (n : Nat) :
    DkAt (w.setCell ⟨g, 1, none⟩ (.int .i64 (n : Int))) B D M d (P ++ ⟨nm, g, v, ⟨f.bs, n⟩⟩ :: Q) ∧ DkCh D M (P ++ ⟨nm, g, v, f⟩ :: Q) (P ++ ⟨nm, g, v, ⟨f.bs, n⟩⟩ :: Q) w (w.setCell ⟨g, 1, none⟩ (.int .i64 (n : Int))) := by
  have he := h.files ⟨nm, g, v, f⟩ (by simp)
  exact h.file ((Ch.refl _ w).set (a := ⟨g, 1, none⟩) (.inl rfl) _) v ⟨f.bs, n⟩ (heap_set_row he.row _) (he.own.ch ((Ch.refl (fun k => k = g) w).set (a := ⟨g, 1, none⟩) rfl _) (fun k hk hs => (own_ne he.own he.row (by decide)) (by rw [hk, hs]))) (fun k hk => .inl hk)
theorem Dk.Ok.syncs {d : Dk} (ok : d.Ok) : d.syncs.Ok := ⟨ok.room, ok.used, ok.ops, by
  have := ok.failIn
  unfold Dk.syncs
  simp only
  by_cases h : d.failIn = 0
  · rw [if_pos h]; omega
  · rw [if_neg h]; omega, ok.armedIn, ok.armKeep⟩
theorem okSync1 : FnOk 100 := fun args w => Go.MuLone.run_callFunc_enter Tryz.func100 (by kernel_rfl) rfl args w

set_option maxHeartbeats 1000000 in
set_option maxRecDepth 100000 in
theorem dkSync_none (h : DkAt w B D M d F) (nm : ByteArray) (hn : ∀ e ∈ F, e.nm ≠ nm) : Calls Tryz.prog 67 #[pD D, .string nm] w fun e w' => e = .returned (.int .i64 6) ∧ Below w.heap.size w w' := by
  have c0' : w.cell? ⟨D, 0, none⟩ = some (.map (some M)) := h.cell 0
  have hz : (zeroValue 119).run Tryz.prog w = .ok (.pointer none) w := by kernel_rfl
  have HNO := Lib.hid (aget_none hn)
  have H := Lib.hid h
  have tok1 : Hid True := Lib.hid trivial
  clear h hn
  go_enter Tryz.func67, Tryz.ntmps67
  go_wp2_with (first | (at_lookup; have _t := tok1; refine wpList_lookupL rfl kS (.tmp 12) (.tmp 13) 116 119 false rfl Tryz.underlying116 M (mapL F) rfl H.out.map nm rfl (.pointer none) hz ?_; rw [HNO.out]; simp only [Option.getD_none, Bool.false_eq_true, if_false]; clear tok1 _t))
  go_ret
  exact ⟨rfl, (Below.refl _ _).alloc (Nat.le_refl _) _⟩
/-- what Sync's closure does -/
theorem dkSync1 {P Q : List Ent} {nm : ByteArray} {g : Nat} {v : Value} {f : Fl} (h : DkAt w B D M d (P ++ ⟨nm, g, v, f⟩ :: Q)) (X Y : Nat) (b : Bool) (hx : w.cell? ⟨X, 0, none⟩ = some (.bool b)) (hy : w.cell? ⟨Y, 0, none⟩ = some (pf g)) :
    Calls Tryz.prog 100 #[.pointer (some ⟨X, 0, none⟩), .pointer (some ⟨Y, 0, none⟩)] w fun e w' => e = .returned (.tuple #[]) ∧ DkAt w' B D M d (P ++ ⟨nm, g, v, syncFl b f⟩ :: Q) ∧ DkCh D M (P ++ ⟨nm, g, v, f⟩ :: Q) (P ++ ⟨nm, g, v, syncFl b f⟩ :: Q) w w' := by
  have HFA := Lib.hid (h.files ⟨nm, g, v, f⟩ (by simp))
  have H := Lib.hid h
  obtain ⟨A0, c0, hv⟩ := own_form (show w.ownsRow B 5 1 v f.bs.length (u8s f.bs) from HFA.out.own)
  subst hv
  have y0 : w.cell? ⟨g, 0, none⟩ = some (.slice A0 f.bs.length c0) := HFA.out.cell 0
  have y1 : w.cell? ⟨g, 1, none⟩ = some (.int .i64 f.safe) := HFA.out.cell 1
  have f1 : w.frozen? ⟨g, 1, none⟩ = false := HFA.out.frozen 1
  clear h
  cases b
  · go_enter Tryz.func100, Tryz.ntmps100
    go_wp2_with (fail)
    go_region
    all_goals
      go_end0
      have hs := H.out.safe f.bs.length
      exact ⟨rfl, hs.1.below (Below.refl _ _).drew, hs.2.trans (DkCh.of_below (Below.refl _ _).drew)⟩
  · go_enter Tryz.func100, Tryz.ntmps100
    go_wp2_with (fail)
    go_end0
    exact ⟨rfl, H.out, DkCh.refl _ _ _ _⟩
set_option maxHeartbeats 1000000 in
set_option maxRecDepth 100000 in
theorem dkSync_go {P Q : List Ent} {nm : ByteArray} {g : Nat} {v : Value} {f : Fl} (h : DkAt w B D M d (P ++ ⟨nm, g, v, f⟩ :: Q)) (ok : d.Ok) (ha : d.armedIn ≠ 1) (hfi : ∀ x ∈ P, x.nm ≠ nm) : Calls Tryz.prog 67 #[pD D, .string nm] w fun e w' => e = .returned (.int .i64 (syncErr (d.failIn == 1))) ∧ DkAt w' B D M d.syncs.begin (P ++ ⟨nm, g, v, syncFl (d.failIn == 1) f⟩ :: Q) ∧ DkCh D M (P ++ ⟨nm, g, v, f⟩ :: Q) (P ++ ⟨nm, g, v, syncFl (d.failIn == 1) f⟩ :: Q) w w' := by
  have c0' : w.cell? ⟨D, 0, none⟩ = some (.map (some M)) := h.cell 0
  have hz : (zeroValue 119).run Tryz.prog w = .ok (.pointer none) w := by kernel_rfl
  have hmf : ∀ (fn : Fn) (first cap : Array Value) (w : World), (Instr.makeFunc fn first cap).run Tryz.prog w = .ok (.func fn first cap) w := fun _ _ _ _ => rfl
  have HYES : Hid (aget (mapL (P ++ ⟨nm, g, v, f⟩ :: Q)) nm = some (pf g)) := Lib.hid (aget_at (e := ⟨nm, g, v, f⟩) hfi)
  have H := Lib.hid h
  have OK := Lib.hid ok
  have HA := Lib.hid ha
  have tok1 : Hid True := Lib.hid trivial
  have HB1 : Hid (Below w.heap.size w (w.alloc (.cells #[pf g] 119))) := Lib.hid ((Below.refl _ _).alloc (Nat.le_refl _) _)
  have H1 := Lib.hid (h.below HB1.out)
  have HY1 : Hid ((w.alloc (.cells #[pf g] 119)).heap[w.heap.size]? = some (.cells #[pf g] 119)) := Lib.hid (heap_alloc_new w _)
  have HCH1 : Hid (DkCh D M (P ++ ⟨nm, g, v, f⟩ :: Q) (P ++ ⟨nm, g, v, f⟩ :: Q) w (w.alloc (.cells #[pf g] 119))) := Lib.hid (DkCh.of_below HB1.out)
  have HYD : Hid (D < w.heap.size) := Lib.hid h.lt
  clear h hfi ok ha
  go_enter Tryz.func67, Tryz.ntmps67
  go_wp2_with (first | (at_lookup; have _t := tok1; refine wpList_lookupL rfl kS (.tmp 12) (.tmp 13) 116 119 false rfl Tryz.underlying116 M (mapL (P ++ ⟨nm, g, v, f⟩ :: Q)) rfl H.out.map nm rfl (.pointer none) hz ?_; rw [HYES.out]; simp only [Option.getD_some, Bool.false_eq_true, if_false]; clear tok1 _t))
  refine (dkSyncFails H1.out OK.out).mono ?_
  rintro e w2 ⟨rfl, h2, hc2⟩
  have HY2 := Lib.hid (hc2.row HY1.out (by have := HYD.out; simp only [At1]; omega))
  have HCH2 := Lib.hid (HCH1.out.trans (DkCh.of1 hc2))
  have hb3 : Below w2.heap.size w2 (w2.alloc (.cells #[.bool (d.failIn == 1)] 4)) := (Below.refl _ _).alloc (Nat.le_refl _) _
  have H3 := Lib.hid (h2.below hb3)
  have HY3 : Hid ((w2.alloc (.cells #[.bool (d.failIn == 1)] 4)).heap[w.heap.size]? = some (.cells #[pf g] 119)) := Lib.hid ((hb3.block _ (Array.getElem?_eq_some_iff.1 HY2.out).1).trans HY2.out)
  have HX3 : Hid ((w2.alloc (.cells #[.bool (d.failIn == 1)] 4)).heap[w2.heap.size]? = some (.cells #[.bool (d.failIn == 1)] 4)) := Lib.hid (heap_alloc_new w2 _)
  have HCH3 := Lib.hid (HCH2.out.trans (DkCh.of_below (F := P ++ ⟨nm, g, v, f⟩ :: Q) (D := D) (M := M) hb3))
  have HZ : Hid (D < w2.heap.size ∧ w.heap.size < w2.heap.size) := Lib.hid ⟨h2.lt, (Array.getElem?_eq_some_iff.1 HY2.out).1⟩
  have OK3 : Hid d.syncs.Ok := Lib.hid OK.out.syncs
  have HCL : Hid (∀ k, Foot (P ++ ⟨nm, g, v, f⟩ :: Q) k → k < w2.heap.size) := Lib.hid (fun k hk => (h2.foot_lt (.inr (.inr hk))).2)
  clear h2 hc2 hb3
  go_wp2_with (fail)
  generalize (w2.alloc (.cells #[.bool (d.failIn == 1)] 4)) = w3 at *
  have hy5 : ∀ {w4 : World} (w5 : World), Ch (At1 D) w3 w4 → DkCh D M (P ++ ⟨nm, g, v, f⟩ :: Q) (P ++ ⟨nm, g, v, syncFl (d.failIn == 1) f⟩ :: Q) w4 w5 → w5.heap[w2.heap.size]? = some (.cells #[.bool (d.failIn == 1)] 4) := fun w5 hc4 hc5 => hc5.ch.row (hc4.row HX3.out (by have := HZ.out; simp only [At1]; omega)) (fun hs => by
    have hlt := H3.out
    rcases hs with hs | hs | hs
    · have := HZ.out; omega
    · exact (H3.out.map.ne HX3.out) hs.symm
    · have hcl := HCL.out _ hs
      omega)
  refine (dkChange_go H3.out OK3.out (show d.syncs.armedIn ≠ 1 from HA.out) _ _ okSync1 (fun w' => DkAt w' B D M d.syncs.begin (P ++ ⟨nm, g, v, syncFl (d.failIn == 1) f⟩ :: Q) ∧ w'.heap[w2.heap.size]? = some (.cells #[.bool (d.failIn == 1)] 4) ∧ DkCh D M (P ++ ⟨nm, g, v, f⟩ :: Q) (P ++ ⟨nm, g, v, syncFl (d.failIn == 1) f⟩ :: Q) w w') (fun w4 h4 hc4 => by
    have hx : w4.cell? ⟨w2.heap.size, 0, none⟩ = some (.bool (d.failIn == 1)) := cell_of_row _ _ 0 _ _ _ (hc4.row HX3.out (by have := HZ.out; simp only [At1]; omega))
    have hy : w4.cell? ⟨w.heap.size, 0, none⟩ = some (pf g) := cell_of_row _ _ 0 _ _ _ (hc4.row HY3.out (by have := HYD.out; simp only [At1]; omega))
    refine (dkSync1 h4 _ _ _ hx hy).mono ?_
    rintro e w5 ⟨rfl, h5, hc5⟩
    exact ⟨rfl, h5, (hy5 w5 hc4 hc5), HCH3.out.trans ((DkCh.of1 hc4).trans hc5)⟩)).mono ?_
  rintro e w6 ⟨rfl, h6, hb6, hc6⟩
  have c6 : w6.cell? ⟨w2.heap.size, 0, none⟩ = some (.bool (d.failIn == 1)) := cell_of_row _ _ 0 _ _ _ hb6
  have HR := Lib.hid (And.intro h6 hc6)
  clear h6 hb6 hc6 hy5
  cases hf1 : (d.failIn == 1)
  · rw [hf1] at c6
    have HF1 := Lib.hid hf1
    clear hf1
    go_wp2_with (fail)
    go_ret
    exact ⟨by rw [HF1.out]; rfl, HR.out⟩
  · rw [hf1] at c6
    have HF1 := Lib.hid hf1
    clear hf1
    go_wp2_with (fail)
    go_ret
    exact ⟨by rw [HF1.out]; rfl, HR.out⟩
set_option maxHeartbeats 1000000 in
set_option maxRecDepth 100000 in
theorem dkSync_odd {P Q : List Ent} {nm : ByteArray} {g : Nat} {v : Value} {f : Fl} (h : DkAt w B D M d (P ++ ⟨nm, g, v, f⟩ :: Q)) (ok : d.Ok) (ha : d.armedIn = 1) (ho : dOdd d = true) (hfi : ∀ x ∈ P, x.nm ≠ nm) : Calls Tryz.prog 67 #[pD D, .string nm] w fun e w' => e = .panicked [{ v := crashI (d.ops + 1), recovered := false }] ∧ DkAt w' B D M d.syncs.begin (P ++ ⟨nm, g, v, syncFl (d.failIn == 1) f⟩ :: Q) ∧ DkCh D M (P ++ ⟨nm, g, v, f⟩ :: Q) (P ++ ⟨nm, g, v, syncFl (d.failIn == 1) f⟩ :: Q) w w' := by
  have c0' : w.cell? ⟨D, 0, none⟩ = some (.map (some M)) := h.cell 0
  have hz : (zeroValue 119).run Tryz.prog w = .ok (.pointer none) w := by kernel_rfl
  have hmf : ∀ (fn : Fn) (first cap : Array Value) (w : World), (Instr.makeFunc fn first cap).run Tryz.prog w = .ok (.func fn first cap) w := fun _ _ _ _ => rfl
  have HYES : Hid (aget (mapL (P ++ ⟨nm, g, v, f⟩ :: Q)) nm = some (pf g)) := Lib.hid (aget_at (e := ⟨nm, g, v, f⟩) hfi)
  have H := Lib.hid h
  have OK := Lib.hid ok
  have HA := Lib.hid ha
  have HO := Lib.hid ho
  have tok1 : Hid True := Lib.hid trivial
  have HB1 : Hid (Below w.heap.size w (w.alloc (.cells #[pf g] 119))) := Lib.hid ((Below.refl _ _).alloc (Nat.le_refl _) _)
  have H1 := Lib.hid (h.below HB1.out)
  have HY1 : Hid ((w.alloc (.cells #[pf g] 119)).heap[w.heap.size]? = some (.cells #[pf g] 119)) := Lib.hid (heap_alloc_new w _)
  have HCH1 : Hid (DkCh D M (P ++ ⟨nm, g, v, f⟩ :: Q) (P ++ ⟨nm, g, v, f⟩ :: Q) w (w.alloc (.cells #[pf g] 119))) := Lib.hid (DkCh.of_below HB1.out)
  have HYD : Hid (D < w.heap.size) := Lib.hid h.lt
  clear h hfi ok ha ho
  go_enter Tryz.func67, Tryz.ntmps67
  go_wp2_with (first | (at_lookup; have _t := tok1; refine wpList_lookupL rfl kS (.tmp 12) (.tmp 13) 116 119 false rfl Tryz.underlying116 M (mapL (P ++ ⟨nm, g, v, f⟩ :: Q)) rfl H.out.map nm rfl (.pointer none) hz ?_; rw [HYES.out]; simp only [Option.getD_some, Bool.false_eq_true, if_false]; clear tok1 _t))
  refine (dkSyncFails H1.out OK.out).mono ?_
  rintro e w2 ⟨rfl, h2, hc2⟩
  have HY2 := Lib.hid (hc2.row HY1.out (by have := HYD.out; simp only [At1]; omega))
  have HCH2 := Lib.hid (HCH1.out.trans (DkCh.of1 hc2))
  have hb3 : Below w2.heap.size w2 (w2.alloc (.cells #[.bool (d.failIn == 1)] 4)) := (Below.refl _ _).alloc (Nat.le_refl _) _
  have H3 := Lib.hid (h2.below hb3)
  have HY3 : Hid ((w2.alloc (.cells #[.bool (d.failIn == 1)] 4)).heap[w.heap.size]? = some (.cells #[pf g] 119)) := Lib.hid ((hb3.block _ (Array.getElem?_eq_some_iff.1 HY2.out).1).trans HY2.out)
  have HX3 : Hid ((w2.alloc (.cells #[.bool (d.failIn == 1)] 4)).heap[w2.heap.size]? = some (.cells #[.bool (d.failIn == 1)] 4)) := Lib.hid (heap_alloc_new w2 _)
  have HCH3 := Lib.hid (HCH2.out.trans (DkCh.of_below (F := P ++ ⟨nm, g, v, f⟩ :: Q) (D := D) (M := M) hb3))
  have HZ : Hid (D < w2.heap.size ∧ w.heap.size < w2.heap.size) := Lib.hid ⟨h2.lt, (Array.getElem?_eq_some_iff.1 HY2.out).1⟩
  have OK3 : Hid d.syncs.Ok := Lib.hid OK.out.syncs
  have HCL : Hid (∀ k, Foot (P ++ ⟨nm, g, v, f⟩ :: Q) k → k < w2.heap.size) := Lib.hid (fun k hk => (h2.foot_lt (.inr (.inr hk))).2)
  clear h2 hc2 hb3
  go_wp2_with (fail)
  generalize (w2.alloc (.cells #[.bool (d.failIn == 1)] 4)) = w3 at *
  have hy5 : ∀ {w4 : World} (w5 : World), Ch (At1 D) w3 w4 → DkCh D M (P ++ ⟨nm, g, v, f⟩ :: Q) (P ++ ⟨nm, g, v, syncFl (d.failIn == 1) f⟩ :: Q) w4 w5 → w5.heap[w2.heap.size]? = some (.cells #[.bool (d.failIn == 1)] 4) := fun w5 hc4 hc5 => hc5.ch.row (hc4.row HX3.out (by have := HZ.out; simp only [At1]; omega)) (fun hs => by
    have hlt := H3.out
    rcases hs with hs | hs | hs
    · have := HZ.out; omega
    · exact (H3.out.map.ne HX3.out) hs.symm
    · have hcl := HCL.out _ hs
      omega)
  refine (dkChange_odd H3.out OK3.out (show d.syncs.armedIn = 1 from HA.out) (show dOdd d.syncs = true from HO.out) _ _ okSync1 (fun w' => DkAt w' B D M d.syncs.begin (P ++ ⟨nm, g, v, syncFl (d.failIn == 1) f⟩ :: Q) ∧ w'.heap[w2.heap.size]? = some (.cells #[.bool (d.failIn == 1)] 4) ∧ DkCh D M (P ++ ⟨nm, g, v, f⟩ :: Q) (P ++ ⟨nm, g, v, syncFl (d.failIn == 1) f⟩ :: Q) w w') (fun w4 h4 hc4 => by
    have hx : w4.cell? ⟨w2.heap.size, 0, none⟩ = some (.bool (d.failIn == 1)) := cell_of_row _ _ 0 _ _ _ (hc4.row HX3.out (by have := HZ.out; simp only [At1]; omega))
    have hy : w4.cell? ⟨w.heap.size, 0, none⟩ = some (pf g) := cell_of_row _ _ 0 _ _ _ (hc4.row HY3.out (by have := HYD.out; simp only [At1]; omega))
    refine (dkSync1 h4 _ _ _ hx hy).mono ?_
    rintro e w5 ⟨rfl, h5, hc5⟩
    exact ⟨rfl, h5, (hy5 w5 hc4 hc5), HCH3.out.trans ((DkCh.of1 hc4).trans hc5)⟩) (fun w6 h6 => h6.1.cell 3)).mono ?_
  rintro e w6 ⟨rfl, h6, _, hc6⟩
  have HR := Lib.hid (And.intro h6 hc6)
  clear h6 hc6 hy5
  go_wp2_with (fail)
  exact ⟨rfl, rfl, HR.out⟩
set_option maxHeartbeats 1000000 in
set_option maxRecDepth 100000 in
theorem dkSync_even {P Q : List Ent} {nm : ByteArray} {g : Nat} {v : Value} {f : Fl} (h : DkAt w B D M d (P ++ ⟨nm, g, v, f⟩ :: Q)) (ok : d.Ok) (ha : d.armedIn = 1) (ho : dOdd d = false) (hfi : ∀ x ∈ P, x.nm ≠ nm) : Calls Tryz.prog 67 #[pD D, .string nm] w fun e w' => e = .panicked [{ v := crashI (d.ops + 1), recovered := false }] ∧ DkAt w' B D M d.syncs.begin (P ++ ⟨nm, g, v, f⟩ :: Q) ∧ DkCh D M (P ++ ⟨nm, g, v, f⟩ :: Q) (P ++ ⟨nm, g, v, f⟩ :: Q) w w' := by
  have c0' : w.cell? ⟨D, 0, none⟩ = some (.map (some M)) := h.cell 0
  have hz : (zeroValue 119).run Tryz.prog w = .ok (.pointer none) w := by kernel_rfl
  have hmf : ∀ (fn : Fn) (first cap : Array Value) (w : World), (Instr.makeFunc fn first cap).run Tryz.prog w = .ok (.func fn first cap) w := fun _ _ _ _ => rfl
  have HYES : Hid (aget (mapL (P ++ ⟨nm, g, v, f⟩ :: Q)) nm = some (pf g)) := Lib.hid (aget_at (e := ⟨nm, g, v, f⟩) hfi)
  have H := Lib.hid h
  have OK := Lib.hid ok
  have HA := Lib.hid ha
  have HO := Lib.hid ho
  have tok1 : Hid True := Lib.hid trivial
  have HB1 : Hid (Below w.heap.size w (w.alloc (.cells #[pf g] 119))) := Lib.hid ((Below.refl _ _).alloc (Nat.le_refl _) _)
  have H1 := Lib.hid (h.below HB1.out)
  have HY1 : Hid ((w.alloc (.cells #[pf g] 119)).heap[w.heap.size]? = some (.cells #[pf g] 119)) := Lib.hid (heap_alloc_new w _)
  have HCH1 : Hid (DkCh D M (P ++ ⟨nm, g, v, f⟩ :: Q) (P ++ ⟨nm, g, v, f⟩ :: Q) w (w.alloc (.cells #[pf g] 119))) := Lib.hid (DkCh.of_below HB1.out)
  have HYD : Hid (D < w.heap.size) := Lib.hid h.lt
  clear h hfi ok ha ho
  go_enter Tryz.func67, Tryz.ntmps67
  go_wp2_with (first | (at_lookup; have _t := tok1; refine wpList_lookupL rfl kS (.tmp 12) (.tmp 13) 116 119 false rfl Tryz.underlying116 M (mapL (P ++ ⟨nm, g, v, f⟩ :: Q)) rfl H.out.map nm rfl (.pointer none) hz ?_; rw [HYES.out]; simp only [Option.getD_some, Bool.false_eq_true, if_false]; clear tok1 _t))
  refine (dkSyncFails H1.out OK.out).mono ?_
  rintro e w2 ⟨rfl, h2, hc2⟩
  have HY2 := Lib.hid (hc2.row HY1.out (by have := HYD.out; simp only [At1]; omega))
  have HCH2 := Lib.hid (HCH1.out.trans (DkCh.of1 hc2))
  have hb3 : Below w2.heap.size w2 (w2.alloc (.cells #[.bool (d.failIn == 1)] 4)) := (Below.refl _ _).alloc (Nat.le_refl _) _
  have H3 := Lib.hid (h2.below hb3)
  have HY3 : Hid ((w2.alloc (.cells #[.bool (d.failIn == 1)] 4)).heap[w.heap.size]? = some (.cells #[pf g] 119)) := Lib.hid ((hb3.block _ (Array.getElem?_eq_some_iff.1 HY2.out).1).trans HY2.out)
  have HX3 : Hid ((w2.alloc (.cells #[.bool (d.failIn == 1)] 4)).heap[w2.heap.size]? = some (.cells #[.bool (d.failIn == 1)] 4)) := Lib.hid (heap_alloc_new w2 _)
  have HCH3 := Lib.hid (HCH2.out.trans (DkCh.of_below (F := P ++ ⟨nm, g, v, f⟩ :: Q) (D := D) (M := M) hb3))
  have HZ : Hid (D < w2.heap.size ∧ w.heap.size < w2.heap.size) := Lib.hid ⟨h2.lt, (Array.getElem?_eq_some_iff.1 HY2.out).1⟩
  have OK3 : Hid d.syncs.Ok := Lib.hid OK.out.syncs
  have HCL : Hid (∀ k, Foot (P ++ ⟨nm, g, v, f⟩ :: Q) k → k < w2.heap.size) := Lib.hid (fun k hk => (h2.foot_lt (.inr (.inr hk))).2)
  clear h2 hc2 hb3
  go_wp2_with (fail)
  generalize (w2.alloc (.cells #[.bool (d.failIn == 1)] 4)) = w3 at *
  refine (dkChange_even H3.out OK3.out (show d.syncs.armedIn = 1 from HA.out) (show dOdd d.syncs = false from HO.out) _ _).mono ?_
  rintro e w6 ⟨rfl, h6, hc6⟩
  have HR := Lib.hid (And.intro h6 (HCH3.out.trans (DkCh.of1 hc6)))
  clear h6 hc6
  go_wp2_with (fail)
  exact ⟨rfl, rfl, HR.out⟩
end
end Go.Proofs.YtodjilljcjkacaaGreatDoor
/- Layer 2: Power, walked. -/
namespace Go.Proofs.YtodjilljcjkacaaGreatDoor
open Go.RowKit Go.MapKept

def total (F : List Ent) : Nat := (F.map fun e => e.f.bs.length).sum
theorem total_mid (P Q : List Ent) (e : Ent) : total (P ++ e :: Q) = total P + e.f.bs.length + total Q := by simp [total]; omega
/-- numbers that fit the files -/
structure DkOk (d : Dk) (F : List Ent) : Prop where
  ok : d.Ok
  tot : d.used = (total F : Int)
  safe : ∀ e ∈ F, e.f.safe ≤ e.f.bs.length
theorem DkOk.lens {d : Dk} {F : List Ent} (h : DkOk d F) : FileLens F := fun e he => by
  obtain ⟨P, Q, rfl⟩ := List.append_of_mem he
  have h1 := h.tot
  have h2 := h.ok.used
  rw [total_mid] at h1
  omega
def cutV : Value → Nat → Value
  | .slice A _ c, k => .slice A k c
  | v, _ => v
/-- how many bytes are left -/
def powN (keep : Int) (f : Fl) : Nat := f.safe + min (f.bs.length - f.safe) keep.toNat
def powFl (keep : Int) (f : Fl) : Fl := ⟨f.bs.take (powN keep f), powN keep f⟩
def powE (keep : Int) (e : Ent) : Ent := ⟨e.nm, e.g, cutV e.v (powN keep e.f), powFl keep e.f⟩
open Classical in
/-- all but those that are still to come -/
noncomputable def pows (keep : Int) (lb F : List Ent) : List Ent := F.map fun e => if e.nm ∈ lb.map (·.nm) then e else powE keep e
section
variable {w : World} {B D M : Nat} {d : Dk} {F : List Ent}
theorem powN_le {keep : Int} {f : Fl} (h : f.safe ≤ f.bs.length) : powN keep f ≤ f.bs.length := by unfold powN; omega
/-- a file, cut -/
theorem DkAt.cut {P Q : List Ent} {nm : ByteArray} {g : Nat} {A : Option Addr} {n c : Nat} {f : Fl} (h : DkAt w B D M d (P ++ ⟨nm, g, .slice A n c, f⟩ :: Q)) (hn : n = f.bs.length) (k : Nat) (hk : k ≤ f.bs.length) :
    DkAt (w.setCell ⟨g, 0, none⟩ (.slice A k c)) B D M d (P ++ ⟨nm, g, .slice A k c, ⟨f.bs.take k, f.safe⟩⟩ :: Q) ∧ DkCh D M (P ++ ⟨nm, g, .slice A n c, f⟩ :: Q) (P ++ ⟨nm, g, .slice A k c, ⟨f.bs.take k, f.safe⟩⟩ :: Q) w (w.setCell ⟨g, 0, none⟩ (.slice A k c)) := by
  subst hn
  have he := h.files ⟨nm, g, .slice A f.bs.length c, f⟩ (by simp)
  have hob : (Value.slice A k c).ownBlock = (Value.slice A f.bs.length c).ownBlock := by cases A <;> rfl
  exact h.file ((Ch.refl _ w).set (a := ⟨g, 0, none⟩) (.inl rfl) _) (.slice A k c) ⟨f.bs.take k, f.safe⟩ (heap_set_row he.row _) ((Own.shrink he.own hk).ch ((Ch.refl (fun k => k = g) w).set (a := ⟨g, 0, none⟩) rfl _) (fun j hj hs => (own_ne he.own he.row (by decide)) (by rw [hob] at hj; rw [hj, hs]))) (fun j hj => .inl (by rw [← hob]; exact hj))
theorem DkCh.later {F1 : List Ent} {w1 w2 : World} {S : Nat → Prop} (h : DkCh D M F F1 w w1) (c : Ch S w1 w2) (hS : ∀ k, S k → w.heap.size ≤ k) : DkCh D M F F1 w w2 :=
  ⟨h.ch.trans c (fun k hk hs => by have := hS k hs; omega), h.foot⟩
/-- Power's round: where it stands -/
structure PowSt (w : World) (B D M I : Nat) (d : Dk) (F : List Ent) (keep : Int) (lb : List Ent) (wr : World) : Prop where
  sub : lb.Sublist F
  rng : Rng (.string) wr M I (mapL F) (mapL lb)
  at_ : DkAt wr B D M { d with used := (total (pows keep lb F) : Int) } (pows keep lb F)
  ch : DkCh D M F (pows keep lb F) w wr
theorem Rng.neDk {I : Nat} {L left : List (ByteArray × Value)} (hr : Rng (.string) w M I L left) (h : DkAt w B D M d F) : ∀ k, DFoot D M F k → ¬ k = I := fun k hk he => by
  subst he
  rcases hk with hk | hk | ⟨e, he, hk | hk⟩
  · exact hr.ne h.row hk
  · exact hr.neM h.map hk
  · exact hr.ne (h.files e he).row hk
  · obtain ⟨cur, hc⟩ := own_ty (h.files e he).own _ hk
    exact hr.ne hc rfl
end
end Go.Proofs.YtodjilljcjkacaaGreatDoor
/- Layer 2: drop, Remove, Rename, Truncate, Synced, walked. -/
namespace Go.Proofs.YtodjilljcjkacaaGreatDoor
open Go.RowKit Go.MapKept

section
variable {w w' : World} {B D M : Nat} {d : Dk} {F : List Ent}
theorem okTruncate1 : FnOk 136 := fun args w => Go.MuLone.run_callFunc_enter Tryz.func136 (by kernel_rfl) rfl args w
end
end Go.Proofs.YtodjilljcjkacaaGreatDoor
/- Layer 2: Remove and Truncate, walked. -/
namespace Go.Proofs.YtodjilljcjkacaaGreatDoor
open Go.RowKit Go.MapKept

/-- how a change ends: done, or lost: then it is done, or isn't -/
def ChOut (ok : Value) (d : Dk) (Rgo Rno : World → Prop) (e : Ending) (w' : World) : Prop :=
  (d.armedIn ≠ 1 ∧ e = .returned ok ∧ Rgo w') ∨ (d.armedIn = 1 ∧ e = .panicked [{ v := crashI (d.ops + 1), recovered := false }] ∧ ((dOdd d = true ∧ Rgo w') ∨ (dOdd d = false ∧ Rno w')))
section
variable {w w' : World} {B D M : Nat} {d : Dk} {F : List Ent}
theorem dkChange (h : DkAt w B D M d F) (ok : d.Ok) (k : FuncId) (caps : Array Value) (hk : FnOk k) (R : World → Prop)
    (hdo : ∀ w1, DkAt w1 B D M d.begin F → Ch (At1 D) w w1 → Calls Tryz.prog k caps w1 fun e w2 => e = .returned (.tuple #[]) ∧ R w2) (hR : ∀ w2, R w2 → w2.cell? ⟨D, 3, none⟩ = some (.int .i64 (d.ops + 1))) :
    Calls Tryz.prog 99 #[pD D, fnV k caps] w (ChOut (.tuple #[]) d R fun w' => DkAt w' B D M d.begin F ∧ Ch (At1 D) w w') := by
  by_cases ha : d.armedIn = 1
  · cases ho : dOdd d
    · exact (dkChange_even h ok ha ho k caps).mono fun e w' ⟨h1, h2⟩ => .inr ⟨ha, h1, .inr ⟨ho, h2⟩⟩
    · exact (dkChange_odd h ok ha ho k caps hk R hdo hR).mono fun e w' ⟨h1, h2⟩ => .inr ⟨ha, h1, .inl ⟨ho, h2⟩⟩
  · exact (dkChange_go h ok ha k caps hk R hdo).mono fun e w' ⟨h1, h2⟩ => .inl ⟨ha, h1, h2⟩

/-- nothing done -/
def NoR (B D M : Nat) (d : Dk) (F : List Ent) (w : World) (w' : World) : Prop := DkAt w' B D M d.begin F ∧ DkCh D M F F w w'

end
end Go.Proofs.YtodjilljcjkacaaGreatDoor
/- Layer 2: Truncate and Rename, walked. -/
namespace Go.Proofs.YtodjilljcjkacaaGreatDoor
open Go.RowKit Go.MapKept

section
variable {w w' : World} {B D M : Nat} {d : Dk} {F : List Ent}
def trFl (n : Nat) (f : Fl) : Fl := ⟨f.bs.take n, min f.safe n⟩
set_option maxHeartbeats 2000000 in
set_option maxRecDepth 100000 in
theorem dkTruncate1 {P Q : List Ent} {nm : ByteArray} {g : Nat} {A0 : Option Addr} {c0 : Nat} {f : Fl} (h : DkAt w B D M d (P ++ ⟨nm, g, .slice A0 f.bs.length c0, f⟩ :: Q)) (n : Nat) (hn : n ≤ f.bs.length) (hu : (f.bs.length : Int) ≤ d.used ∧ d.used ≤ 1073741824) (X Y Z : Nat) (hX : X ≠ D ∧ X ≠ g) (hY : Y ≠ D ∧ Y ≠ g) (hZ : Z ≠ D ∧ Z ≠ g)
    (hx : w.cell? ⟨X, 0, none⟩ = some (pD D)) (hy : w.cell? ⟨Y, 0, none⟩ = some (pf g)) (hz : w.cell? ⟨Z, 0, none⟩ = some (.int .i64 (n : Int))) :
    Calls Tryz.prog 136 #[.pointer (some ⟨X, 0, none⟩), .pointer (some ⟨Y, 0, none⟩), .pointer (some ⟨Z, 0, none⟩)] w fun e w' => e = .returned (.tuple #[]) ∧ DkAt w' B D M { d with used := d.used - ((f.bs.length : Int) - (n : Int)) } (P ++ ⟨nm, g, .slice A0 n c0, trFl n f⟩ :: Q) ∧ DkCh D M (P ++ ⟨nm, g, .slice A0 f.bs.length c0, f⟩ :: Q) (P ++ ⟨nm, g, .slice A0 n c0, trFl n f⟩ :: Q) w w' := by
  have H := Lib.hid h
  have HFA := Lib.hid (h.files ⟨nm, g, .slice A0 f.bs.length c0, f⟩ (by simp))
  have y0 : w.cell? ⟨g, 0, none⟩ = some (.slice A0 f.bs.length c0) := HFA.out.cell 0
  have y1 : w.cell? ⟨g, 1, none⟩ = some (.int .i64 f.safe) := HFA.out.cell 1
  have c2 : w.cell? ⟨D, 2, none⟩ = some (.int .i64 d.used) := h.cell 2
  have f2 := h.frozen 2
  have hgd := (HFA.out.neD h.row).1
  simp only at hgd
  have hdg : D ≠ g := fun e => hgd e.symm
  obtain ⟨r, hr⟩ : ∃ r : Int, r = (f.bs.length : Int) - (n : Int) := ⟨_, rfl⟩
  obtain ⟨u, hu'⟩ : ∃ u : Int, u = d.used - r := ⟨_, rfl⟩
  have e1 : (f.bs.length : Int) - (n : Int) = r := hr.symm
  have e2 : d.used - r = u := hu'.symm
  have hu1 := hu.1
  have hu2 := hu.2
  rw [e1, e2]
  have HN := Lib.hid hn
  have hrb : 0 ≤ r ∧ r ≤ d.used := by omega
  have hX1 := hX.1
  have hX2 := hX.2
  have hY1 := hY.1
  have hY2 := hY.2
  have hZ1 := hZ.1
  have hZ2 := hZ.2
  clear h hu hr hu' hX hY hZ
  go_enter Tryz.func136, Tryz.ntmps136
  go_wp2_with (fail)
  go_region
  all_goals
    have hch : Ch (At1 D) w (w.setCell ⟨D, 2, none⟩ (.int .i64 u)).drew := ((Ch.refl _ w).set1 2 _).drew
    have H2 : Hid (DkAt (w.setCell ⟨D, 2, none⟩ (.int .i64 u)).drew B D M { d with used := u } (P ++ ⟨nm, g, .slice A0 f.bs.length c0, f⟩ :: Q)) := Lib.hid (H.out.nums hch (heap_set_row H.out.row _))
    have HCH2 : Hid (DkCh D M (P ++ ⟨nm, g, .slice A0 f.bs.length c0, f⟩ :: Q) (P ++ ⟨nm, g, .slice A0 f.bs.length c0, f⟩ :: Q) w (w.setCell ⟨D, 2, none⟩ (.int .i64 u)).drew) := Lib.hid (DkCh.of1 hch)
    have x2 : ∀ (V : Nat) (x : Value), V ≠ D → w.cell? ⟨V, 0, none⟩ = some x → (w.setCell ⟨D, 2, none⟩ (.int .i64 u)).drew.cell? ⟨V, 0, none⟩ = some x := fun V x hV hx => by
      rw [World.cell?_of_block (w := w) (a := ⟨V, 0, none⟩) (hch.block V (World.block_lt_of_cell? w _ hx) hV)]; exact hx
    have x20 := x2 X _ hX1 hx
    have x21 := x2 Y _ hY1 hy
    have x22 := x2 Z _ hZ1 hz
    clear x2 hch hx hy hz y0 y1 c2 f2
    generalize (w.setCell ⟨D, 2, none⟩ (.int .i64 u)).drew = w2 at *
    have HFA2 := Lib.hid (H2.out.files ⟨nm, g, .slice A0 f.bs.length c0, f⟩ (by simp))
    have y0 : w2.cell? ⟨g, 0, none⟩ = some (.slice A0 f.bs.length c0) := HFA2.out.cell 0
    have y1 : w2.cell? ⟨g, 1, none⟩ = some (.int .i64 f.safe) := HFA2.out.cell 1
    have f0 : w2.frozen? ⟨g, 0, none⟩ = false := HFA2.out.frozen 0
    have hnc : (n : Int) ≤ (c0 : Int) := by
      obtain ⟨A', c', hv', hb', _⟩ := Own.bs HFA2.out.own
      injection hv' with hv1 hv2 hv3
      have := hb'.le
      omega
    have HC3 := Lib.hid (H2.out.cut rfl n HN.out)
    go_wp2_with (fail)
    go_region
    all_goals
      have H3 : Hid (DkAt (w2.setCell ⟨g, 0, none⟩ (.slice A0 n c0)).drew B D M { d with used := u } (P ++ ⟨nm, g, .slice A0 n c0, ⟨f.bs.take n, f.safe⟩⟩ :: Q)) := Lib.hid (HC3.out.1.below (Below.refl _ _).drew)
      have HCH3 : Hid (DkCh D M (P ++ ⟨nm, g, .slice A0 f.bs.length c0, f⟩ :: Q) (P ++ ⟨nm, g, .slice A0 n c0, ⟨f.bs.take n, f.safe⟩⟩ :: Q) w (w2.setCell ⟨g, 0, none⟩ (.slice A0 n c0)).drew) := Lib.hid (HCH2.out.trans (HC3.out.2.trans (DkCh.of_below (Below.refl _ _).drew)))
      have x3 : ∀ (V : Nat) (x : Value), V ≠ g → w2.cell? ⟨V, 0, none⟩ = some x → (w2.setCell ⟨g, 0, none⟩ (.slice A0 n c0)).drew.cell? ⟨V, 0, none⟩ = some x := fun V x hV hx => by
        rw [World.cell?_of_block (w := w2) (a := ⟨V, 0, none⟩) (((Ch.refl (fun k => k = g) w2).set (a := ⟨g, 0, none⟩) rfl (.slice A0 n c0)).drew.block V (World.block_lt_of_cell? w2 _ hx) hV)]; exact hx
      have x30 := x3 X _ hX2 x20
      have x31 := x3 Y _ hY2 x21
      have x32 := x3 Z _ hZ2 x22
      clear x3 x20 x21 x22 y0 y1 f0
      generalize (w2.setCell ⟨g, 0, none⟩ (.slice A0 n c0)).drew = w3 at *
      have HFA3 := Lib.hid (H3.out.files ⟨nm, g, .slice A0 n c0, ⟨f.bs.take n, f.safe⟩⟩ (by simp))
      have y1 : w3.cell? ⟨g, 1, none⟩ = some (.int .i64 f.safe) := HFA3.out.cell 1
      have f1 : w3.frozen? ⟨g, 1, none⟩ = false := HFA3.out.frozen 1
      obtain ⟨s, hsm⟩ : ∃ s, s = min f.safe n := ⟨_, rfl⟩
      have e3 : min (f.safe : Int) (n : Int) = (s : Int) := by rw [hsm]; omega
      have HS : Hid (trFl n f = ⟨f.bs.take n, s⟩) := Lib.hid (by unfold trFl; rw [hsm])
      have HC4 := Lib.hid (H3.out.safe s)
      clear hsm
      go_wp2_with (fail)
      go_region
      all_goals
        go_end0
        rw [HS.out]
        exact ⟨rfl, HC4.out.1.below (Below.refl _ _).drew, HCH3.out.trans (HC4.out.2.trans (DkCh.of_below (Below.refl _ _).drew))⟩

set_option maxHeartbeats 2000000 in
set_option maxRecDepth 100000 in
theorem dkTruncate_none (h : DkAt w B D M d F) (nm : ByteArray) (n : Int) (hn : ∀ e ∈ F, e.nm ≠ nm) : Calls Tryz.prog 97 #[pD D, .string nm, .int .i64 n] w fun e w' => e = .returned (.int .i64 6) ∧ Below w.heap.size w w' := by
  have hb1 : Below w.heap.size w ((w.alloc (.cells #[pD D] 26)).alloc (.cells #[.int .i64 n] 3)) := ((Below.refl _ _).alloc (Nat.le_refl _) _).alloc (by simp) _
  have hr1 : ((w.alloc (.cells #[pD D] 26)).alloc (.cells #[.int .i64 n] 3)).heap[w.heap.size]? = some (.cells #[pD D] 26) ∧ ((w.alloc (.cells #[pD D] 26)).alloc (.cells #[.int .i64 n] 3)).heap[w.heap.size + 1]? = some (.cells #[.int .i64 n] 3) ∧ ((w.alloc (.cells #[pD D] 26)).alloc (.cells #[.int .i64 n] 3)).heap.size = w.heap.size + 2 := by
    have h1 := heap_alloc_new w (.cells #[pD D] 26)
    have h2 := heap_alloc_new (w.alloc (.cells #[pD D] 26)) (.cells #[.int .i64 n] 3)
    refine ⟨?_, by simpa using h2, by simp⟩
    rw [((Below.refl (w.alloc (.cells #[pD D] 26)).heap.size (w.alloc (.cells #[pD D] 26))).alloc (Nat.le_refl _) _).block _ (by simp)]
    exact h1
  have h1 := h.below hb1
  have c0' : ((w.alloc (.cells #[pD D] 26)).alloc (.cells #[.int .i64 n] 3)).cell? ⟨D, 0, none⟩ = some (.map (some M)) := h1.cell 0
  have x0 : ((w.alloc (.cells #[pD D] 26)).alloc (.cells #[.int .i64 n] 3)).cell? ⟨w.heap.size, 0, none⟩ = some (pD D) := cell_of_row _ _ 0 _ _ _ hr1.1
  have hz : (zeroValue 119).run Tryz.prog ((w.alloc (.cells #[pD D] 26)).alloc (.cells #[.int .i64 n] 3)) = .ok (.pointer none) ((w.alloc (.cells #[pD D] 26)).alloc (.cells #[.int .i64 n] 3)) := by kernel_rfl
  have HNO := Lib.hid (aget_none hn)
  have H := Lib.hid h1
  have HB1 := Lib.hid hb1
  have tok1 : Hid True := Lib.hid trivial
  clear h hn h1 hb1 hr1
  go_enter Tryz.func97, Tryz.ntmps97
  go_wp2_with (first | (at_lookup; have _t := tok1; refine wpList_lookupL rfl kS (.tmp 13) (.tmp 14) 116 119 false rfl Tryz.underlying116 M (mapL F) rfl H.out.map nm rfl (.pointer none) hz ?_; rw [HNO.out]; simp only [Option.getD_none, Bool.false_eq_true, if_false]; clear tok1 _t))
  go_ret
  exact ⟨rfl, HB1.out.alloc HB1.out.size _⟩

set_option maxHeartbeats 2000000 in
set_option maxRecDepth 100000 in
theorem dkTruncate_neg {P Q : List Ent} {nm : ByteArray} {g : Nat} {A0 : Option Addr} {c0 : Nat} {f : Fl} (h : DkAt w B D M d (P ++ ⟨nm, g, .slice A0 f.bs.length c0, f⟩ :: Q)) (hfi : ∀ x ∈ P, x.nm ≠ nm) (n : Int) (hn : n < 0) :
    Calls Tryz.prog 97 #[pD D, .string nm, .int .i64 n] w fun e w' => e = .returned (.int .i64 3) ∧ Below w.heap.size w w' := by
  have d1 : decide (n < 0) = true := by simpa using hn
  clear hn
  have hb1 : Below w.heap.size w ((w.alloc (.cells #[pD D] 26)).alloc (.cells #[.int .i64 n] 3)) := ((Below.refl _ _).alloc (Nat.le_refl _) _).alloc (by simp) _
  have hr1 : ((w.alloc (.cells #[pD D] 26)).alloc (.cells #[.int .i64 n] 3)).heap[w.heap.size]? = some (.cells #[pD D] 26) ∧ ((w.alloc (.cells #[pD D] 26)).alloc (.cells #[.int .i64 n] 3)).heap[w.heap.size + 1]? = some (.cells #[.int .i64 n] 3) ∧ ((w.alloc (.cells #[pD D] 26)).alloc (.cells #[.int .i64 n] 3)).heap.size = w.heap.size + 2 := by
    have h1 := heap_alloc_new w (.cells #[pD D] 26)
    have h2 := heap_alloc_new (w.alloc (.cells #[pD D] 26)) (.cells #[.int .i64 n] 3)
    refine ⟨?_, by simpa using h2, by simp⟩
    rw [((Below.refl (w.alloc (.cells #[pD D] 26)).heap.size (w.alloc (.cells #[pD D] 26))).alloc (Nat.le_refl _) _).block _ (by simp)]
    exact h1
  have h1 := h.below hb1
  have c0' : ((w.alloc (.cells #[pD D] 26)).alloc (.cells #[.int .i64 n] 3)).cell? ⟨D, 0, none⟩ = some (.map (some M)) := h1.cell 0
  have x0 : ((w.alloc (.cells #[pD D] 26)).alloc (.cells #[.int .i64 n] 3)).cell? ⟨w.heap.size, 0, none⟩ = some (pD D) := cell_of_row _ _ 0 _ _ _ hr1.1
  have hz : (zeroValue 119).run Tryz.prog ((w.alloc (.cells #[pD D] 26)).alloc (.cells #[.int .i64 n] 3)) = .ok (.pointer none) ((w.alloc (.cells #[pD D] 26)).alloc (.cells #[.int .i64 n] 3)) := by kernel_rfl
  have HYES : Hid (aget (mapL (P ++ ⟨nm, g, .slice A0 f.bs.length c0, f⟩ :: Q)) nm = some (pf g)) := Lib.hid (aget_at (e := ⟨nm, g, .slice A0 f.bs.length c0, f⟩) hfi)
  have H := Lib.hid h1
  have hb2 : Below ((w.alloc (.cells #[pD D] 26)).alloc (.cells #[.int .i64 n] 3)).heap.size ((w.alloc (.cells #[pD D] 26)).alloc (.cells #[.int .i64 n] 3)) (((w.alloc (.cells #[pD D] 26)).alloc (.cells #[.int .i64 n] 3)).alloc (.cells #[pf g] 119)) := (Below.refl _ _).alloc (Nat.le_refl _) _
  have H2 := Lib.hid (h1.below hb2)
  have HB2 : Hid (Below w.heap.size w (((w.alloc (.cells #[pD D] 26)).alloc (.cells #[.int .i64 n] 3)).alloc (.cells #[pf g] 119))) := Lib.hid (hb1.trans (hb2.mono hb1.size))
  have HR2 : Hid ((((w.alloc (.cells #[pD D] 26)).alloc (.cells #[.int .i64 n] 3)).alloc (.cells #[pf g] 119)).heap[w.heap.size]? = some (.cells #[pD D] 26) ∧ (((w.alloc (.cells #[pD D] 26)).alloc (.cells #[.int .i64 n] 3)).alloc (.cells #[pf g] 119)).heap[w.heap.size + 1]? = some (.cells #[.int .i64 n] 3) ∧ (((w.alloc (.cells #[pD D] 26)).alloc (.cells #[.int .i64 n] 3)).alloc (.cells #[pf g] 119)).heap[w.heap.size + 2]? = some (.cells #[pf g] 119)) := Lib.hid (by
    have h3 := heap_alloc_new ((w.alloc (.cells #[pD D] 26)).alloc (.cells #[.int .i64 n] 3)) (.cells #[pf g] 119)
    rw [hr1.2.2] at h3
    exact ⟨(hb2.block _ (by rw [hr1.2.2]; omega)).trans hr1.1, (hb2.block _ (by rw [hr1.2.2]; omega)).trans hr1.2.1, h3⟩)
  have HDL : Hid (D < w.heap.size ∧ g < w.heap.size) := Lib.hid ⟨h.lt, (h.files ⟨nm, g, .slice A0 f.bs.length c0, f⟩ (by simp)).lt⟩
  have tok1 : Hid True := Lib.hid trivial
  clear h hfi h1 hb1 hr1 hb2
  go_enter Tryz.func97, Tryz.ntmps97
  go_wp2_with (first | (at_lookup; have _t := tok1; refine wpList_lookupL rfl kS (.tmp 13) (.tmp 14) 116 119 false rfl Tryz.underlying116 M (mapL (P ++ ⟨nm, g, .slice A0 f.bs.length c0, f⟩ :: Q)) rfl H.out.map nm rfl (.pointer none) hz ?_; rw [HYES.out]; simp only [Option.getD_some, Bool.false_eq_true, if_false]; clear tok1 _t))
  generalize (((w.alloc (.cells #[pD D] 26)).alloc (.cells #[.int .i64 n] 3)).alloc (.cells #[pf g] 119)) = w2 at *
  have x0 : w2.cell? ⟨w.heap.size, 0, none⟩ = some (pD D) := cell_of_row _ _ 0 _ _ _ HR2.out.1
  have x1 : w2.cell? ⟨w.heap.size + 1, 0, none⟩ = some (.int .i64 n) := cell_of_row _ _ 0 _ _ _ HR2.out.2.1
  have x2 : w2.cell? ⟨w.heap.size + 2, 0, none⟩ = some (pf g) := cell_of_row _ _ 0 _ _ _ HR2.out.2.2
  have y0 : w2.cell? ⟨g, 0, none⟩ = some (.slice A0 f.bs.length c0) := (H2.out.files ⟨nm, g, .slice A0 f.bs.length c0, f⟩ (by simp)).cell 0
  go_wp2_with (fail)
  go_quiet (fail)
  go_wp2_with (fail)
  go_ret
  exact ⟨rfl, HB2.out.trans (drawN_below ((Below.refl _ _).mono HB2.out.size) _)⟩

set_option maxHeartbeats 2000000 in
set_option maxRecDepth 100000 in
theorem dkTruncate_far {P Q : List Ent} {nm : ByteArray} {g : Nat} {A0 : Option Addr} {c0 : Nat} {f : Fl} (h : DkAt w B D M d (P ++ ⟨nm, g, .slice A0 f.bs.length c0, f⟩ :: Q)) (hfi : ∀ x ∈ P, x.nm ≠ nm) (n : Int) (hn : (f.bs.length : Int) < n) :
    Calls Tryz.prog 97 #[pD D, .string nm, .int .i64 n] w fun e w' => e = .returned (.int .i64 3) ∧ Below w.heap.size w w' := by
  have d1 : decide (n < 0) = false := by simp; omega
  have d2 : decide ((f.bs.length : Int) < n) = true := by simpa using hn
  clear hn
  have hb1 : Below w.heap.size w ((w.alloc (.cells #[pD D] 26)).alloc (.cells #[.int .i64 n] 3)) := ((Below.refl _ _).alloc (Nat.le_refl _) _).alloc (by simp) _
  have hr1 : ((w.alloc (.cells #[pD D] 26)).alloc (.cells #[.int .i64 n] 3)).heap[w.heap.size]? = some (.cells #[pD D] 26) ∧ ((w.alloc (.cells #[pD D] 26)).alloc (.cells #[.int .i64 n] 3)).heap[w.heap.size + 1]? = some (.cells #[.int .i64 n] 3) ∧ ((w.alloc (.cells #[pD D] 26)).alloc (.cells #[.int .i64 n] 3)).heap.size = w.heap.size + 2 := by
    have h1 := heap_alloc_new w (.cells #[pD D] 26)
    have h2 := heap_alloc_new (w.alloc (.cells #[pD D] 26)) (.cells #[.int .i64 n] 3)
    refine ⟨?_, by simpa using h2, by simp⟩
    rw [((Below.refl (w.alloc (.cells #[pD D] 26)).heap.size (w.alloc (.cells #[pD D] 26))).alloc (Nat.le_refl _) _).block _ (by simp)]
    exact h1
  have h1 := h.below hb1
  have c0' : ((w.alloc (.cells #[pD D] 26)).alloc (.cells #[.int .i64 n] 3)).cell? ⟨D, 0, none⟩ = some (.map (some M)) := h1.cell 0
  have x0 : ((w.alloc (.cells #[pD D] 26)).alloc (.cells #[.int .i64 n] 3)).cell? ⟨w.heap.size, 0, none⟩ = some (pD D) := cell_of_row _ _ 0 _ _ _ hr1.1
  have hz : (zeroValue 119).run Tryz.prog ((w.alloc (.cells #[pD D] 26)).alloc (.cells #[.int .i64 n] 3)) = .ok (.pointer none) ((w.alloc (.cells #[pD D] 26)).alloc (.cells #[.int .i64 n] 3)) := by kernel_rfl
  have HYES : Hid (aget (mapL (P ++ ⟨nm, g, .slice A0 f.bs.length c0, f⟩ :: Q)) nm = some (pf g)) := Lib.hid (aget_at (e := ⟨nm, g, .slice A0 f.bs.length c0, f⟩) hfi)
  have H := Lib.hid h1
  have hb2 : Below ((w.alloc (.cells #[pD D] 26)).alloc (.cells #[.int .i64 n] 3)).heap.size ((w.alloc (.cells #[pD D] 26)).alloc (.cells #[.int .i64 n] 3)) (((w.alloc (.cells #[pD D] 26)).alloc (.cells #[.int .i64 n] 3)).alloc (.cells #[pf g] 119)) := (Below.refl _ _).alloc (Nat.le_refl _) _
  have H2 := Lib.hid (h1.below hb2)
  have HB2 : Hid (Below w.heap.size w (((w.alloc (.cells #[pD D] 26)).alloc (.cells #[.int .i64 n] 3)).alloc (.cells #[pf g] 119))) := Lib.hid (hb1.trans (hb2.mono hb1.size))
  have HR2 : Hid ((((w.alloc (.cells #[pD D] 26)).alloc (.cells #[.int .i64 n] 3)).alloc (.cells #[pf g] 119)).heap[w.heap.size]? = some (.cells #[pD D] 26) ∧ (((w.alloc (.cells #[pD D] 26)).alloc (.cells #[.int .i64 n] 3)).alloc (.cells #[pf g] 119)).heap[w.heap.size + 1]? = some (.cells #[.int .i64 n] 3) ∧ (((w.alloc (.cells #[pD D] 26)).alloc (.cells #[.int .i64 n] 3)).alloc (.cells #[pf g] 119)).heap[w.heap.size + 2]? = some (.cells #[pf g] 119)) := Lib.hid (by
    have h3 := heap_alloc_new ((w.alloc (.cells #[pD D] 26)).alloc (.cells #[.int .i64 n] 3)) (.cells #[pf g] 119)
    rw [hr1.2.2] at h3
    exact ⟨(hb2.block _ (by rw [hr1.2.2]; omega)).trans hr1.1, (hb2.block _ (by rw [hr1.2.2]; omega)).trans hr1.2.1, h3⟩)
  have HDL : Hid (D < w.heap.size ∧ g < w.heap.size) := Lib.hid ⟨h.lt, (h.files ⟨nm, g, .slice A0 f.bs.length c0, f⟩ (by simp)).lt⟩
  have tok1 : Hid True := Lib.hid trivial
  clear h hfi h1 hb1 hr1 hb2
  go_enter Tryz.func97, Tryz.ntmps97
  go_wp2_with (first | (at_lookup; have _t := tok1; refine wpList_lookupL rfl kS (.tmp 13) (.tmp 14) 116 119 false rfl Tryz.underlying116 M (mapL (P ++ ⟨nm, g, .slice A0 f.bs.length c0, f⟩ :: Q)) rfl H.out.map nm rfl (.pointer none) hz ?_; rw [HYES.out]; simp only [Option.getD_some, Bool.false_eq_true, if_false]; clear tok1 _t))
  generalize (((w.alloc (.cells #[pD D] 26)).alloc (.cells #[.int .i64 n] 3)).alloc (.cells #[pf g] 119)) = w2 at *
  have x0 : w2.cell? ⟨w.heap.size, 0, none⟩ = some (pD D) := cell_of_row _ _ 0 _ _ _ HR2.out.1
  have x1 : w2.cell? ⟨w.heap.size + 1, 0, none⟩ = some (.int .i64 n) := cell_of_row _ _ 0 _ _ _ HR2.out.2.1
  have x2 : w2.cell? ⟨w.heap.size + 2, 0, none⟩ = some (pf g) := cell_of_row _ _ 0 _ _ _ HR2.out.2.2
  have y0 : w2.cell? ⟨g, 0, none⟩ = some (.slice A0 f.bs.length c0) := (H2.out.files ⟨nm, g, .slice A0 f.bs.length c0, f⟩ (by simp)).cell 0
  go_wp2_with (fail)
  go_quiet (fail)
  go_wp2_with (fail)
  go_ret
  exact ⟨rfl, HB2.out.trans (drawN_below ((Below.refl _ _).mono HB2.out.size) _)⟩

def TrR (B D M : Nat) (d : Dk) (P Q : List Ent) (nm : ByteArray) (g : Nat) (A0 : Option Addr) (c0 : Nat) (f : Fl) (k : Nat) (w w' : World) : Prop := DkAt w' B D M { d.begin with used := d.used - ((f.bs.length : Int) - (k : Int)) } (P ++ ⟨nm, g, .slice A0 k c0, trFl k f⟩ :: Q) ∧ DkCh D M (P ++ ⟨nm, g, .slice A0 f.bs.length c0, f⟩ :: Q) (P ++ ⟨nm, g, .slice A0 k c0, trFl k f⟩ :: Q) w w'

set_option maxHeartbeats 2000000 in
set_option maxRecDepth 100000 in
theorem dkTruncate {P Q : List Ent} {nm : ByteArray} {g : Nat} {A0 : Option Addr} {c0 : Nat} {f : Fl} (h : DkAt w B D M d (P ++ ⟨nm, g, .slice A0 f.bs.length c0, f⟩ :: Q)) (hfi : ∀ x ∈ P, x.nm ≠ nm) (k : Nat) (hk : k ≤ f.bs.length) (ok : d.Ok) (hu : (f.bs.length : Int) ≤ d.used) :
    Calls Tryz.prog 97 #[pD D, .string nm, .int .i64 (k : Int)] w (ChOut (.int .i64 0) d (TrR B D M d P Q nm g A0 c0 f k w) (NoR B D M d (P ++ ⟨nm, g, .slice A0 f.bs.length c0, f⟩ :: Q) w)) := by
  have d1 : decide ((k : Int) < 0) = false := by rw [decide_eq_false_iff_not]; omega
  have d2 : decide (f.bs.length < k) = false := by rw [decide_eq_false_iff_not]; omega
  have HK := Lib.hid hk
  have OK := Lib.hid ok
  have HU := Lib.hid hu
  clear hk ok hu
  have hb1 : Below w.heap.size w ((w.alloc (.cells #[pD D] 26)).alloc (.cells #[.int .i64 (k : Int)] 3)) := ((Below.refl _ _).alloc (Nat.le_refl _) _).alloc (by simp) _
  have hr1 : ((w.alloc (.cells #[pD D] 26)).alloc (.cells #[.int .i64 (k : Int)] 3)).heap[w.heap.size]? = some (.cells #[pD D] 26) ∧ ((w.alloc (.cells #[pD D] 26)).alloc (.cells #[.int .i64 (k : Int)] 3)).heap[w.heap.size + 1]? = some (.cells #[.int .i64 (k : Int)] 3) ∧ ((w.alloc (.cells #[pD D] 26)).alloc (.cells #[.int .i64 (k : Int)] 3)).heap.size = w.heap.size + 2 := by
    have h1 := heap_alloc_new w (.cells #[pD D] 26)
    have h2 := heap_alloc_new (w.alloc (.cells #[pD D] 26)) (.cells #[.int .i64 (k : Int)] 3)
    refine ⟨?_, by simpa using h2, by simp⟩
    rw [((Below.refl (w.alloc (.cells #[pD D] 26)).heap.size (w.alloc (.cells #[pD D] 26))).alloc (Nat.le_refl _) _).block _ (by simp)]
    exact h1
  have h1 := h.below hb1
  have c0' : ((w.alloc (.cells #[pD D] 26)).alloc (.cells #[.int .i64 (k : Int)] 3)).cell? ⟨D, 0, none⟩ = some (.map (some M)) := h1.cell 0
  have x0 : ((w.alloc (.cells #[pD D] 26)).alloc (.cells #[.int .i64 (k : Int)] 3)).cell? ⟨w.heap.size, 0, none⟩ = some (pD D) := cell_of_row _ _ 0 _ _ _ hr1.1
  have hz : (zeroValue 119).run Tryz.prog ((w.alloc (.cells #[pD D] 26)).alloc (.cells #[.int .i64 (k : Int)] 3)) = .ok (.pointer none) ((w.alloc (.cells #[pD D] 26)).alloc (.cells #[.int .i64 (k : Int)] 3)) := by kernel_rfl
  have HYES : Hid (aget (mapL (P ++ ⟨nm, g, .slice A0 f.bs.length c0, f⟩ :: Q)) nm = some (pf g)) := Lib.hid (aget_at (e := ⟨nm, g, .slice A0 f.bs.length c0, f⟩) hfi)
  have H := Lib.hid h1
  have hb2 : Below ((w.alloc (.cells #[pD D] 26)).alloc (.cells #[.int .i64 (k : Int)] 3)).heap.size ((w.alloc (.cells #[pD D] 26)).alloc (.cells #[.int .i64 (k : Int)] 3)) (((w.alloc (.cells #[pD D] 26)).alloc (.cells #[.int .i64 (k : Int)] 3)).alloc (.cells #[pf g] 119)) := (Below.refl _ _).alloc (Nat.le_refl _) _
  have H2 := Lib.hid (h1.below hb2)
  have HB2 : Hid (Below w.heap.size w (((w.alloc (.cells #[pD D] 26)).alloc (.cells #[.int .i64 (k : Int)] 3)).alloc (.cells #[pf g] 119))) := Lib.hid (hb1.trans (hb2.mono hb1.size))
  have HR2 : Hid ((((w.alloc (.cells #[pD D] 26)).alloc (.cells #[.int .i64 (k : Int)] 3)).alloc (.cells #[pf g] 119)).heap[w.heap.size]? = some (.cells #[pD D] 26) ∧ (((w.alloc (.cells #[pD D] 26)).alloc (.cells #[.int .i64 (k : Int)] 3)).alloc (.cells #[pf g] 119)).heap[w.heap.size + 1]? = some (.cells #[.int .i64 (k : Int)] 3) ∧ (((w.alloc (.cells #[pD D] 26)).alloc (.cells #[.int .i64 (k : Int)] 3)).alloc (.cells #[pf g] 119)).heap[w.heap.size + 2]? = some (.cells #[pf g] 119)) := Lib.hid (by
    have h3 := heap_alloc_new ((w.alloc (.cells #[pD D] 26)).alloc (.cells #[.int .i64 (k : Int)] 3)) (.cells #[pf g] 119)
    rw [hr1.2.2] at h3
    exact ⟨(hb2.block _ (by rw [hr1.2.2]; omega)).trans hr1.1, (hb2.block _ (by rw [hr1.2.2]; omega)).trans hr1.2.1, h3⟩)
  have HDL : Hid (D < w.heap.size ∧ g < w.heap.size) := Lib.hid ⟨h.lt, (h.files ⟨nm, g, .slice A0 f.bs.length c0, f⟩ (by simp)).lt⟩
  have tok1 : Hid True := Lib.hid trivial
  clear h hfi h1 hb1 hr1 hb2
  go_enter Tryz.func97, Tryz.ntmps97
  go_wp2_with (first | (at_lookup; have _t := tok1; refine wpList_lookupL rfl kS (.tmp 13) (.tmp 14) 116 119 false rfl Tryz.underlying116 M (mapL (P ++ ⟨nm, g, .slice A0 f.bs.length c0, f⟩ :: Q)) rfl H.out.map nm rfl (.pointer none) hz ?_; rw [HYES.out]; simp only [Option.getD_some, Bool.false_eq_true, if_false]; clear tok1 _t))
  generalize (((w.alloc (.cells #[pD D] 26)).alloc (.cells #[.int .i64 (k : Int)] 3)).alloc (.cells #[pf g] 119)) = w2 at *
  have x0 : w2.cell? ⟨w.heap.size, 0, none⟩ = some (pD D) := cell_of_row _ _ 0 _ _ _ HR2.out.1
  have x1 : w2.cell? ⟨w.heap.size + 1, 0, none⟩ = some (.int .i64 (k : Int)) := cell_of_row _ _ 0 _ _ _ HR2.out.2.1
  have x2 : w2.cell? ⟨w.heap.size + 2, 0, none⟩ = some (pf g) := cell_of_row _ _ 0 _ _ _ HR2.out.2.2
  have y0 : w2.cell? ⟨g, 0, none⟩ = some (.slice A0 f.bs.length c0) := (H2.out.files ⟨nm, g, .slice A0 f.bs.length c0, f⟩ (by simp)).cell 0
  go_wp2_with (fail)
  go_quiet (fail)
  have hdr : Below w2.heap.size w2 (w2.drewN nq) := drawN_below (Below.refl _ w2) nq
  have H3 := Lib.hid (H2.out.below hdr)
  have HCH3 : Hid (DkCh D M (P ++ ⟨nm, g, .slice A0 f.bs.length c0, f⟩ :: Q) (P ++ ⟨nm, g, .slice A0 f.bs.length c0, f⟩ :: Q) w (w2.drewN nq)) := Lib.hid ((DkCh.of_below HB2.out).trans (DkCh.of_below hdr))
  have HR3 : Hid ((w2.drewN nq).heap[w.heap.size]? = some (.cells #[pD D] 26) ∧ (w2.drewN nq).heap[w.heap.size + 1]? = some (.cells #[.int .i64 (k : Int)] 3) ∧ (w2.drewN nq).heap[w.heap.size + 2]? = some (.cells #[pf g] 119)) := HR2
  have z0 : (w2.drewN nq).cell? ⟨w.heap.size, 0, none⟩ = some (pD D) := cell_of_row _ _ 0 _ _ _ HR3.out.1
  clear x0 x1 x2 y0 hdr c0'
  generalize w2.drewN nq = w3 at *
  go_wp2_with (fail)
  refine (dkChange H3.out OK.out _ _ okTruncate1 (TrR B D M d P Q nm g A0 c0 f k w) (fun w4 h4 hc4 => ?_) (fun w5 h5 => h5.1.cell 3)).mono ?_
  · have hdl := HDL.out
    have hx : w4.cell? ⟨w.heap.size, 0, none⟩ = some (pD D) := cell_of_row _ _ 0 _ _ _ (hc4.row HR3.out.1 (by simp only [At1]; omega))
    have hy : w4.cell? ⟨w.heap.size + 2, 0, none⟩ = some (pf g) := cell_of_row _ _ 0 _ _ _ (hc4.row HR3.out.2.2 (by simp only [At1]; omega))
    have hz : w4.cell? ⟨w.heap.size + 1, 0, none⟩ = some (.int .i64 (k : Int)) := cell_of_row _ _ 0 _ _ _ (hc4.row HR3.out.2.1 (by simp only [At1]; omega))
    refine (dkTruncate1 h4 k HK.out ⟨HU.out, OK.out.used.2⟩ _ _ _ ⟨by omega, by omega⟩ ⟨by omega, by omega⟩ ⟨by omega, by omega⟩ hx hy hz).mono ?_
    rintro e w5 ⟨rfl, h5, hc5⟩
    exact ⟨rfl, h5, HCH3.out.trans ((DkCh.of1 hc4).trans hc5)⟩
  · rintro e w6 h6
    rcases h6 with ⟨ha, rfl, hr⟩ | ⟨ha, rfl, hr⟩
    · have HR := Lib.hid (And.intro ha hr)
      clear ha hr
      go_wp2_with (fail)
      go_ret
      exact .inl ⟨HR.out.1, rfl, HR.out.2⟩
    · have HR : Hid (d.armedIn = 1 ∧ ((dOdd d = true ∧ TrR B D M d P Q nm g A0 c0 f k w w6) ∨ (dOdd d = false ∧ NoR B D M d (P ++ ⟨nm, g, .slice A0 f.bs.length c0, f⟩ :: Q) w w6))) := Lib.hid ⟨ha, hr.imp id (fun h => ⟨h.1, h.2.1, HCH3.out.trans (DkCh.of1 h.2.2)⟩)⟩
      clear ha hr
      go_wp2_with (fail)
      exact ⟨rfl, .inr ⟨HR.out.1, rfl, HR.out.2⟩⟩
end
end Go.Proofs.YtodjilljcjkacaaGreatDoor
/- Layer 2: Synced and Rename, walked. -/
namespace Go.Proofs.YtodjilljcjkacaaGreatDoor
open Go.RowKit Go.MapKept

section
variable {P : Program} {k : TypeId} {κ : Type} [DecidableEq κ] {kv : κ → Value} {w : World} {ops : Array Oper} {rest : List Oper} {o : Oper} {a : Act} {Q : Exit → Act → World → Prop}
end
section
variable {w w' : World} {B D M : Nat} {d : Dk} {F : List Ent}
end
end Go.Proofs.YtodjilljcjkacaaGreatDoor
/- Layer 2: Rename, walked. -/
namespace Go.Proofs.YtodjilljcjkacaaGreatDoor
open Go.RowKit Go.MapKept

section
variable {w w' : World} {B D M : Nat} {d d1 : Dk} {F : List Ent}
end
end Go.Proofs.YtodjilljcjkacaaGreatDoor
/- Layer 2: Rename, walked to its end. -/
namespace Go.Proofs.YtodjilljcjkacaaGreatDoor
open Go.RowKit Go.MapKept

section
variable {w w' : World} {B D M : Nat} {d d1 : Dk}
end
end Go.Proofs.YtodjilljcjkacaaGreatDoor
/- Layer 2: what each change does, told of the files and numbers alone; the contracts in these words. -/
namespace Go.Proofs.YtodjilljcjkacaaGreatDoor
open Go.RowKit Go.MapKept

def ftotal (fs : Fs) : Nat := (fs.map fun e => e.2.bs.length).sum
theorem ftotal_of (F : List Ent) : ftotal (fsOf F) = total F := by
  unfold ftotal total fsOf
  rw [List.map_map]; rfl
theorem ftotal_app (a b : Fs) : ftotal (a ++ b) = ftotal a + ftotal b := by simp [ftotal]
theorem ftotal_cons (a : ByteArray × Fl) (b : Fs) : ftotal (a :: b) = a.2.bs.length + ftotal b := by simp [ftotal]
/-- numbers that fit the files -/
structure FsOk (d : Dk) (fs : Fs) : Prop where
  ok : d.Ok
  tot : d.used = (ftotal fs : Int)
  safe : ∀ e ∈ fs, e.2.safe ≤ e.2.bs.length
  names : (fs.map (·.1)).Nodup
theorem FsOk.dk {d : Dk} {F : List Ent} (h : FsOk d (fsOf F)) : DkOk d F :=
  ⟨h.ok, by rw [h.tot, ftotal_of], fun e he => h.safe (e.nm, e.f) (List.mem_map.2 ⟨e, he, rfl⟩)⟩
theorem FsOk.len {d : Dk} {fs : Fs} (h : FsOk d fs) {n : ByteArray} {f : Fl} (hf : fget fs n = some f) : (f.bs.length : Int) ≤ d.used := by
  rw [h.tot]
  have : f.bs.length ≤ ftotal fs := by
    clear h
    induction fs with
    | nil => cases hf
    | cons a r ih =>
      rw [ftotal_cons]
      unfold fget at hf
      split at hf
      · injection hf with hf; subst hf; omega
      · have := ih hf; omega
  omega
theorem fget_mid {F : List Ent} {n : ByteArray} {f : Fl} (h : fget (fsOf F) n = some f) : ∃ P g v Q, F = P ++ ⟨n, g, v, f⟩ :: Q ∧ ∀ x ∈ P, x.nm ≠ n := by
  rcases aget_split F n with ⟨_, h2⟩ | ⟨P, e, Q, rfl, rfl, _, h3⟩
  · rw [fget_none h2] at h; cases h
  · rw [fget_at h3] at h
    injection h with h
    subst h
    exact ⟨P, e.g, e.v, Q, rfl, h3⟩
theorem fget_no {F : List Ent} {n : ByteArray} (h : fget (fsOf F) n = none) : ∀ e ∈ F, e.nm ≠ n := by
  rcases aget_split F n with ⟨_, h2⟩ | ⟨P, e, Q, rfl, rfl, _, h3⟩
  · exact h2
  · rw [fget_at h3] at h; cases h
abbrev Out := (Int ⊕ Int) × Dk × Fs
/-- a change that is done as a whole, or not at all -/
def opChange (d : Dk) (fs : Fs) (x : Int) (d1 d2 : Dk) (done : Fs) : Out :=
  if d.armedIn = 1 then (.inr (d.ops + 1), if dOdd d then (d1, done) else (d2, fs)) else (.inl x, d1, done)
def opTrunc (d : Dk) (fs : Fs) (nm : ByteArray) (n : Int) : Out :=
  match fget fs nm with
  | none => (.inl 6, d, fs)
  | some f => if n < 0 ∨ (f.bs.length : Int) < n then (.inl 3, d, fs) else opChange d fs 0 { d.begin with used := d.used - ((f.bs.length : Int) - (n.toNat : Int)) } d.begin (fput fs nm (trFl n.toNat f))
def opSync (d : Dk) (fs : Fs) (nm : ByteArray) : Out :=
  match fget fs nm with
  | none => (.inl 6, d, fs)
  | some f => opChange d fs (syncErr (d.failIn == 1)) d.syncs.begin d.syncs.begin (fput fs nm (syncFl (d.failIn == 1) f))
def opRemove (d : Dk) (fs : Fs) (nm : ByteArray) : Out :=
  match fget fs nm with
  | none => (.inl 6, d, fs)
  | some f => opChange d fs 0 { d.begin with used := d.used - (f.bs.length : Int) } d.begin (fdel fs nm)
/-- how many bytes a file has -/
def flen (fs : Fs) (nm : ByteArray) : Nat := match fget fs nm with | some f => f.bs.length | none => 0
def opRename (d : Dk) (fs : Fs) (nm to : ByteArray) : Out :=
  match fget fs nm with
  | none => (.inl 6, d, fs)
  | some f => if nameD to = false then (.inl 16, d, fs) else if nm = to then opChange d fs 0 d.begin d.begin fs
    else opChange d fs 0 { d.begin with used := d.used - (flen fs to : Int) } d.begin (fdel (fdel fs to) nm ++ [(to, f)])
def opSetRoom (d : Dk) (fs : Fs) (n : Int) : Out := if 0 ≤ n ∧ n ≤ 1073741824 then (.inl 0, { d with room := n }, fs) else (.inl 3, d, fs)
def opFail (d : Dk) (fs : Fs) (n : Int) : Out := if n < 1 then (.inl 3, d, fs) else (.inl 0, { d with failIn := n }, fs)
def opArm (d : Dk) (fs : Fs) (n k : Int) : Out := if n < 1 then (.inl 3, d, fs) else (.inl 0, { d with armedIn := n, armKeep := k }, fs)
def powFs (keep : Int) (fs : Fs) : Fs := fs.map fun e => (e.1, powFl keep e.2)
def opPower (d : Dk) (fs : Fs) (keep : Int) : Out := (.inl 0, { d with used := (ftotal (powFs keep fs) : Int), failIn := 0, armedIn := 0 }, powFs keep fs)
/-- how a method ends -/
def endM : Int ⊕ Int → Ending
  | .inl x => .returned (.int .i64 x)
  | .inr op => .panicked [{ v := crashI op, recovered := false }]
def MEnds (B D M : Nat) (F : List Ent) (w : World) (r : Out) (e : Ending) (w' : World) : Prop :=
  ∃ F', e = endM r.1 ∧ DkAt w' B D M r.2.1 F' ∧ DkCh D M F F' w w' ∧ fsOf F' = r.2.2
section
variable {w : World} {B D M : Nat} {d : Dk} {F : List Ent}
theorem MEnds.same {d : Dk} {w' : World} {x : Int} (h : DkAt w B D M d F) (hb : Below w.heap.size w w') : MEnds B D M F w (.inl x, d, fsOf F) (.returned (.int .i64 x)) w' := ⟨F, rfl, h.below hb, DkCh.of_below hb, rfl⟩
/-- out of a change's ends -/
theorem MEnds.change {d1 d2 : Dk} {F1 : List Ent} {e : Ending} {w' : World} {x : Int} {Rgo Rno : World → Prop} (h : ChOut (.int .i64 x) d Rgo Rno e w')
    (h1 : Rgo w' → DkAt w' B D M d1 F1 ∧ DkCh D M F F1 w w') (h2 : Rno w' → DkAt w' B D M d2 F ∧ DkCh D M F F w w') {fs : Fs} (hf : fsOf F1 = fs) : MEnds B D M F w (opChange d (fsOf F) x d1 d2 fs) e w' := by
  subst hf
  unfold opChange
  rcases h with ⟨ha, rfl, hr⟩ | ⟨ha, rfl, ⟨ho, hr⟩ | ⟨ho, hr⟩⟩
  · rw [if_neg ha]
    exact ⟨F1, rfl, (h1 hr).1, (h1 hr).2, rfl⟩
  · rw [if_pos ha, if_pos ho]
    exact ⟨F1, rfl, (h1 hr).1, (h1 hr).2, rfl⟩
  · rw [if_pos ha, if_neg (by rw [ho]; decide)]
    exact ⟨F, rfl, (h2 hr).1, (h2 hr).2, rfl⟩

theorem mSync (h : DkAt w B D M d F) (ok : FsOk d (fsOf F)) (nm : ByteArray) : Calls Tryz.prog 67 #[pD D, .string nm] w (MEnds B D M F w (opSync d (fsOf F) nm)) := by
  unfold opSync
  cases hg : fget (fsOf F) nm with
  | none => exact (dkSync_none h nm (fget_no hg)).mono fun e w' ⟨he, hb⟩ => by subst he; exact MEnds.same h hb
  | some f =>
    obtain ⟨P, g, v, Q, rfl, hfi⟩ := fget_mid hg
    have e1 : fsOf (P ++ ⟨nm, g, v, syncFl (d.failIn == 1) f⟩ :: Q) = fput (fsOf (P ++ ⟨nm, g, v, f⟩ :: Q)) nm (syncFl (d.failIn == 1) f) := (fput_at (e := ⟨nm, g, v, f⟩) _ hfi g v).symm
    by_cases ha : d.armedIn = 1
    · cases ho : dOdd d
      · refine (dkSync_even h ok.ok ha ho hfi).mono fun e w' ⟨he, h1, h2⟩ => ?_
        simp only [opChange, if_pos ha, ho]
        exact ⟨_, he, h1, h2, rfl⟩
      · refine (dkSync_odd h ok.ok ha ho hfi).mono fun e w' ⟨he, h1, h2⟩ => ?_
        simp only [opChange, if_pos ha, ho]
        exact ⟨_, he, h1, h2, e1⟩
    · refine (dkSync_go h ok.ok ha hfi).mono fun e w' ⟨he, h1, h2⟩ => ?_
      simp only [opChange, if_neg ha]
      exact ⟨_, he, h1, h2, e1⟩

theorem mTrunc (h : DkAt w B D M d F) (ok : FsOk d (fsOf F)) (nm : ByteArray) (n : Int) : Calls Tryz.prog 97 #[pD D, .string nm, .int .i64 n] w (MEnds B D M F w (opTrunc d (fsOf F) nm n)) := by
  unfold opTrunc
  cases hg : fget (fsOf F) nm with
  | none => exact (dkTruncate_none h nm n (fget_no hg)).mono fun e w' ⟨he, hb⟩ => by subst he; exact MEnds.same h hb
  | some f =>
    have hl := ok.len hg
    obtain ⟨P, g, v, Q, rfl, hfi⟩ := fget_mid hg
    obtain ⟨A0, c0, rfl⟩ := own_form (show w.ownsRow B 5 1 v f.bs.length (u8s f.bs) from (h.files ⟨nm, g, v, f⟩ (by simp)).own)
    simp only
    by_cases h1 : n < 0
    · rw [if_pos (.inl h1)]
      exact (dkTruncate_neg h hfi n h1).mono fun e w' ⟨he, hb⟩ => by subst he; exact MEnds.same h hb
    · by_cases h2 : (f.bs.length : Int) < n
      · rw [if_pos (.inr h2)]
        exact (dkTruncate_far h hfi n h2).mono fun e w' ⟨he, hb⟩ => by subst he; exact MEnds.same h hb
      · rw [if_neg (by omega)]
        have hk := dkTruncate h hfi n.toNat (by omega) ok.ok hl
        rw [show ((n.toNat : Nat) : Int) = n by omega] at hk
        refine hk.mono fun e w' hr => ?_
        rw [show ((n.toNat : Nat) : Int) = n by omega]
        exact MEnds.change hr (fun hh => by unfold TrR at hh; rw [show ((n.toNat : Nat) : Int) = n by omega] at hh; exact hh) id (fput_at (e := ⟨nm, g, _, f⟩) _ hfi g _).symm
end
end Go.Proofs.YtodjilljcjkacaaGreatDoor
/- Layer 2: the law's call: what it defers, and an append, walked. -/
namespace Go.Proofs.YtodjilljcjkacaaGreatDoor
open Go.RowKit Go.MapKept

/-- the four results' boxes -/
structure Boxes (w : World) (s : Nat) (n e : Int) (gone : Bool) (op : Int) : Prop where
  n_ : w.heap[s]? = some (.cells #[.int .i64 n] 3)
  e_ : w.heap[s + 1]? = some (.cells #[.int .i64 e] 46)
  g_ : w.heap[s + 1 + 1]? = some (.cells #[.bool gone] 4)
  o_ : w.heap[s + 1 + 1 + 1]? = some (.cells #[.int .i64 op] 3)
theorem Boxes.same {w w' : World} {s : Nat} {n e op : Int} {gone : Bool} (h : Boxes w s n e gone op) {S : Nat → Prop} (c : Ch S w w') (hS : ∀ k, s ≤ k → k < s + 4 → ¬ S k) : Boxes w' s n e gone op :=
  ⟨c.row h.n_ (hS _ (by omega) (by omega)), c.row h.e_ (hS _ (by omega) (by omega)), c.row h.g_ (hS _ (by omega) (by omega)), c.row h.o_ (hS _ (by omega) (by omega))⟩

theorem Boxes.cells {w : World} {s : Nat} {n e op : Int} {gone : Bool} (h : Boxes w s n e gone op) : (w.cell? ⟨s, 0, none⟩ = some (.int .i64 n) ∧ w.cell? ⟨s + 1, 0, none⟩ = some (.int .i64 e) ∧ w.cell? ⟨s + 1 + 1, 0, none⟩ = some (.bool gone) ∧ w.cell? ⟨s + 1 + 1 + 1, 0, none⟩ = some (.int .i64 op)) ∧ w.frozen? ⟨s, 0, none⟩ = false ∧ w.frozen? ⟨s + 1, 0, none⟩ = false ∧ w.frozen? ⟨s + 1 + 1, 0, none⟩ = false ∧ w.frozen? ⟨s + 1 + 1 + 1, 0, none⟩ = false :=
  ⟨⟨cell_of_row _ _ 0 _ _ _ h.n_, cell_of_row _ _ 0 _ _ _ h.e_, cell_of_row _ _ 0 _ _ _ h.g_, cell_of_row _ _ 0 _ _ _ h.o_⟩, by simp [World.frozen?, h.n_], by simp [World.frozen?, h.e_], by simp [World.frozen?, h.g_], by simp [World.frozen?, h.o_]⟩
abbrev BxS (s : Nat) : Nat → Prop := fun k => s ≤ k ∧ k < s + 4
end Go.Proofs.YtodjilljcjkacaaGreatDoor
/- Layer 2: the law's call of Append, walked. -/
namespace Go.Proofs.YtodjilljcjkacaaGreatDoor
open Go.RowKit Go.MapKept

section
variable {w : World} {B D M : Nat} {d : Dk} {F : List Ent}
theorem DkCh.boxes {F' : List Ent} {w1 w2 w3 : World} {s : Nat} (c : DkCh D M F F' w1 w2) (hs : ∀ k, DFoot D M F k → k < s) (hs2 : s + 4 ≤ w1.heap.size) {d' : Dk} (h2 : DkAt w2 B D M d' F') (c3 : Ch (BxS s) w2 w3) : DkAt w3 B D M d' F' :=
  h2.ch c3 (fun k hk hb => by
    have hb1 := hb.1
    have hb2 := hb.2
    rcases hk with hk | hk | hk
    · have := hs k (.inl hk); omega
    · have := hs k (.inr (.inl hk)); omega
    · rcases c.foot k hk with h5 | h5
      · have := hs k (.inr (.inr h5)); omega
      · omega)
/-- an append's error -/
def appE (d : Dk) (m : Nat) : Int := if appN d m < m then 4 else 0
end
end Go.Proofs.YtodjilljcjkacaaGreatDoor
/- Layer 2: the law's call of any change, walked. -/
namespace Go.Proofs.YtodjilljcjkacaaGreatDoor
open Go.RowKit Go.MapKept

abbrev OutN := (Int × (Int ⊕ Int)) × Dk × Fs
section
variable {w : World} {B D M : Nat} {d : Dk} {F : List Ent}
end
end Go.Proofs.YtodjilljcjkacaaGreatDoor
/- Layer 2: what the law's call does, whatever it is asked, in one contract; what stays right. -/
namespace Go.Proofs.YtodjilljcjkacaaGreatDoor
open Go.RowKit Go.MapKept

def appO (d : Dk) (fs : Fs) (a : ByteArray) (l : List UInt8) : OutN :=
  if nameD a = false then ((0, .inl 16), d, fs)
  else if d.armedIn = 1 then ((0, .inr (d.ops + 1)), { d.begin with used := d.used + (appK d l.length : Int) }, layF fs a (l.take (appK d l.length)))
  else (((appN d l.length : Int), .inl (appE d l.length)), { d.begin with used := d.used + (appN d l.length : Int) }, layF fs a (l.take (appN d l.length)))
def liftO (r : Out) : OutN := ((0, r.1), r.2.1, r.2.2)
def callD (d : Dk) (fs : Fs) (kd n k : Int) (a b : ByteArray) (l : List UInt8) : OutN :=
  if kd = 0 then appO d fs a l
  else if kd = 1 then liftO (opTrunc d fs a n)
  else if kd = 2 then liftO (opSync d fs a)
  else if kd = 3 then liftO (opRename d fs a b)
  else if kd = 4 then liftO (opRemove d fs a)
  else if kd = 5 then liftO (opSetRoom d fs n)
  else if kd = 6 then liftO (opFail d fs n)
  else if kd = 7 then liftO (opArm d fs n k)
  else if kd = 8 then liftO (opPower d fs k)
  else ((0, .inl 0), d, fs)
section
variable {w : World} {B D M : Nat} {d : Dk} {F : List Ent}
end

/-! what stays right -/
theorem fget_mem : ∀ {fs : Fs} {n : ByteArray} {f : Fl}, fget fs n = some f → (n, f) ∈ fs
  | (a, v) :: r, n, f, h => by
    unfold fget at h
    split at h
    · rename_i e; injection h with h; subst h e; simp
    · exact List.mem_cons_of_mem _ (fget_mem h)
theorem fput_names_some : ∀ {fs : Fs} {n : ByteArray} {f : Fl} (v : Fl), fget fs n = some f → (fput fs n v).map (·.1) = fs.map (·.1)
  | (a, u) :: r, n, f, v, h => by
    unfold fget at h
    unfold fput
    split
    · rename_i e; simp [e]
    · rename_i e
      rw [if_neg e] at h
      simp [fput_names_some v h]
theorem fput_new : ∀ {fs : Fs} {n : ByteArray} (v : Fl), fget fs n = none → fput fs n v = fs ++ [(n, v)]
  | [], n, v, h => rfl
  | (a, u) :: r, n, v, h => by
    unfold fget at h
    unfold fput
    split
    · rename_i e; rw [if_pos e] at h; cases h
    · rename_i e
      rw [if_neg e] at h
      rw [fput_new v h]; rfl
theorem fget_none_names : ∀ {fs : Fs} {n : ByteArray}, fget fs n = none → n ∉ fs.map (·.1)
  | [], n, h => by simp
  | (a, u) :: r, n, h => by
    unfold fget at h
    split at h
    · cases h
    · rename_i e
      rw [List.map_cons, List.mem_cons]
      rintro (h2 | h2)
      · exact e h2
      · exact fget_none_names h h2
theorem mem_fput : ∀ {fs : Fs} {n : ByteArray} {v : Fl} {x : ByteArray × Fl}, x ∈ fput fs n v → x = (n, v) ∨ x ∈ fs
  | [], n, v, x, h => by simp [fput] at h; exact .inl h
  | (a, u) :: r, n, v, x, h => by
    unfold fput at h
    split at h
    · rcases List.mem_cons.1 h with h | h
      · exact .inl h
      · exact .inr (List.mem_cons_of_mem _ h)
    · rcases List.mem_cons.1 h with h | h
      · exact .inr (by rw [h]; simp)
      · rcases mem_fput h with h | h
        · exact .inl h
        · exact .inr (List.mem_cons_of_mem _ h)
theorem ftotal_fput : ∀ {fs : Fs} {n : ByteArray} {f : Fl} (v : Fl), fget fs n = some f → ftotal (fput fs n v) + f.bs.length = ftotal fs + v.bs.length
  | (a, u) :: r, n, f, v, h => by
    unfold fget at h
    unfold fput
    split
    · rename_i e
      rw [if_pos e] at h
      injection h with h
      subst h
      rw [ftotal_cons, ftotal_cons]; simp only; omega
    · rename_i e
      rw [if_neg e] at h
      have := ftotal_fput v h
      rw [ftotal_cons, ftotal_cons]; omega
theorem fdel_sub : ∀ (fs : Fs) (n : ByteArray), (fdel fs n).Sublist fs
  | [], n => List.Sublist.refl _
  | (a, u) :: r, n => by
    unfold fdel
    split
    · exact List.sublist_cons_self _ _
    · exact (fdel_sub r n).cons_cons _
theorem ftotal_fdel : ∀ {fs : Fs} {n : ByteArray} {f : Fl}, fget fs n = some f → ftotal (fdel fs n) + f.bs.length = ftotal fs
  | (a, u) :: r, n, f, h => by
    unfold fget at h
    unfold fdel
    split
    · rename_i e
      rw [if_pos e] at h
      injection h with h
      subst h
      rw [ftotal_cons]; simp only; omega
    · rename_i e
      rw [if_neg e] at h
      have := ftotal_fdel h
      rw [ftotal_cons, ftotal_cons]; omega
theorem fdel_names_not : ∀ {fs : Fs} {n : ByteArray}, (fs.map (·.1)).Nodup → n ∉ (fdel fs n).map (·.1)
  | [], n, _ => by simp [fdel]
  | (a, u) :: r, n, h => by
    rw [List.map_cons, List.nodup_cons] at h
    unfold fdel
    split
    · rename_i e; subst e; exact h.1
    · rename_i e
      rw [List.map_cons, List.mem_cons]
      rintro (h2 | h2)
      · exact e h2
      · exact fdel_names_not h.2 h2
theorem fget_fdel_ne : ∀ {fs : Fs} {n m : ByteArray}, n ≠ m → fget (fdel fs n) m = fget fs m
  | [], n, m, _ => rfl
  | (a, u) :: r, n, m, h => by
    unfold fdel
    split
    · rename_i e
      conv => rhs; unfold fget
      rw [if_neg (fun e2 => h (by rw [e, e2]))]
    · unfold fget
      split
      · rfl
      · exact fget_fdel_ne h
theorem ftotal_flen {fs : Fs} (n : ByteArray) : ftotal (fdel fs n) + flen fs n = ftotal fs := by
  unfold flen
  cases h : fget fs n with
  | some f => exact ftotal_fdel h
  | none =>
    simp only
    induction fs with
    | nil => rfl
    | cons a r ih =>
      obtain ⟨a, u⟩ := a
      unfold fget at h
      unfold fdel
      split
      · rename_i e; rw [if_pos e] at h; cases h
      · rename_i e
        rw [if_neg e] at h
        have := ih h
        rw [ftotal_cons, ftotal_cons]; omega
theorem Dk.Ok.begin' {d : Dk} (ok : d.Ok) (h : d.ops + 1 ≤ 1152921504606846976) : d.begin.Ok := by
  have h1 := ok.armedIn
  have h2 := ok.ops
  refine ⟨ok.room, ok.used, ⟨by show 0 ≤ d.ops + 1; omega, h⟩, ok.failIn, ?_, ok.armKeep⟩
  unfold Dk.begin
  simp only
  split <;> omega
theorem Dk.Ok.used' {d : Dk} (ok : d.Ok) {u : Int} (h : 0 ≤ u ∧ u ≤ 1073741824) : ({ d with used := u } : Dk).Ok := ⟨ok.room, h, ok.ops, ok.failIn, ok.armedIn, ok.armKeep⟩
/-- out of a change: right before, right behind -/
theorem FsOk.change {d d1 d2 : Dk} {fs done : Fs} {x : Int} (h1 : FsOk d1 done) (h2 : FsOk d2 fs) : FsOk (opChange d fs x d1 d2 done).2.1 (opChange d fs x d1 d2 done).2.2 := by
  unfold opChange
  split
  · split
    · exact h1
    · exact h2
  · exact h1
theorem FsOk.nums {d d' : Dk} {fs : Fs} (h : FsOk d fs) (ok : d'.Ok) (hu : d'.used = d.used) : FsOk d' fs := ⟨ok, by rw [hu]; exact h.tot, h.safe, h.names⟩
theorem FsOk.put {d d' : Dk} {fs : Fs} {n : ByteArray} {f v : Fl} (h : FsOk d fs) (hg : fget fs n = some f) (hs : v.safe ≤ v.bs.length) (ok : d'.Ok) (hu : d'.used = d.used - f.bs.length + v.bs.length) : FsOk d' (fput fs n v) := by
  have h1 := ftotal_fput v hg
  have h2 := h.tot
  refine ⟨ok, by rw [hu]; omega, fun e he => ?_, by rw [fput_names_some v hg]; exact h.names⟩
  rcases mem_fput he with rfl | he
  · exact hs
  · exact h.safe e he
section
variable {d : Dk} {fs : Fs}
theorem trunc_ok (h : FsOk d fs) (ho : d.ops + 1 ≤ 1152921504606846976) (a : ByteArray) (n : Int) : FsOk (opTrunc d fs a n).2.1 (opTrunc d fs a n).2.2 := by
  unfold opTrunc
  cases hg : fget fs a with
  | none => exact h
  | some f =>
    simp only
    split
    · exact h
    · rename_i hn
      have hl := h.len hg
      have hu := h.ok.used
      have hsf := h.safe _ (fget_mem hg)
      simp only at hsf
      refine FsOk.change (FsOk.put (f := f) h hg ?_ ((h.ok.begin' ho).used' ⟨by omega, by omega⟩) ?_) (h.nums (h.ok.begin' ho) rfl)
      · simp only [trFl, List.length_take]; omega
      · simp only [trFl, List.length_take]; omega
theorem sync_ok (h : FsOk d fs) (ho : d.ops + 1 ≤ 1152921504606846976) (a : ByteArray) : FsOk (opSync d fs a).2.1 (opSync d fs a).2.2 := by
  unfold opSync
  cases hg : fget fs a with
  | none => exact h
  | some f =>
    have hsf := h.safe _ (fget_mem hg)
    simp only at hsf
    have hk : d.syncs.begin.Ok := h.ok.syncs.begin' ho
    refine FsOk.change (FsOk.put (f := f) h hg ?_ hk ?_) (h.nums hk rfl)
    · unfold syncFl; split
      · exact hsf
      · exact Nat.le_refl _
    · show d.used = _
      unfold syncFl; split <;> simp <;> omega
theorem remove_ok (h : FsOk d fs) (ho : d.ops + 1 ≤ 1152921504606846976) (a : ByteArray) : FsOk (opRemove d fs a).2.1 (opRemove d fs a).2.2 := by
  unfold opRemove
  cases hg : fget fs a with
  | none => exact h
  | some f =>
    have hl := h.len hg
    have hu := h.ok.used
    have h1 := ftotal_fdel hg
    have h2 := h.tot
    refine FsOk.change ⟨(h.ok.begin' ho).used' ⟨by omega, by omega⟩, ?_, fun e he => h.safe e ((fdel_sub fs a).subset he), h.names.sublist ((fdel_sub fs a).map _)⟩ (h.nums (h.ok.begin' ho) rfl)
    show d.used - _ = _
    omega
theorem rename_ok (h : FsOk d fs) (ho : d.ops + 1 ≤ 1152921504606846976) (a b : ByteArray) : FsOk (opRename d fs a b).2.1 (opRename d fs a b).2.2 := by
  unfold opRename
  cases hg : fget fs a with
  | none => exact h
  | some f =>
    simp only
    split
    · exact h
    · split
      · exact FsOk.change (h.nums (h.ok.begin' ho) rfl) (h.nums (h.ok.begin' ho) rfl)
      · rename_i hne
        have hg2 : fget (fdel fs b) a = some f := by rw [fget_fdel_ne (fun e => hne e.symm)]; exact hg
        have h1 := ftotal_fdel hg2
        have h2 := ftotal_flen (fs := fs) b
        have h3 := h.tot
        have hu := h.ok.used
        have hsf := h.safe _ (fget_mem hg)
        simp only at hsf
        refine FsOk.change ⟨(h.ok.begin' ho).used' ⟨by omega, by omega⟩, ?_, fun e he => ?_, ?_⟩ (h.nums (h.ok.begin' ho) rfl)
        · show d.used - _ = _
          rw [ftotal_app, ftotal_cons]
          simp only [ftotal, List.map_nil, List.sum_nil] at *
          omega
        · rcases List.mem_append.1 he with he | he
          · exact h.safe e ((fdel_sub fs b).subset ((fdel_sub _ a).subset he))
          · rw [List.mem_singleton.1 he]; exact hsf
        · have hn1 : ((fdel fs b).map (·.1)).Nodup := h.names.sublist ((fdel_sub fs b).map _)
          have hn2 : ((fdel (fdel fs b) a).map (·.1)).Nodup := hn1.sublist ((fdel_sub _ a).map _)
          rw [List.map_append, List.nodup_append]
          refine ⟨hn2, by simp, fun x hx y hy e => ?_⟩
          simp at hy
          subst hy e
          have := fdel_names_not (n := x) h.names
          exact this (((fdel_sub (fdel fs x) a).map _).subset hx)
theorem power_ok (h : FsOk d fs) (k : Int) : FsOk (opPower d fs k).2.1 (opPower d fs k).2.2 := by
  unfold opPower
  have hle : ftotal (powFs k fs) ≤ ftotal fs := by
    have hs := h.safe
    clear h
    induction fs with
    | nil => exact Nat.le_refl _
    | cons a r ih =>
      have h1 := ih (fun e he => hs e (List.mem_cons_of_mem _ he))
      have h2 := hs a (by simp)
      unfold powFs at h1 ⊢
      rw [List.map_cons, ftotal_cons, ftotal_cons]
      have h5 : (powFl k a.2).bs.length ≤ a.2.bs.length := by simp only [powFl, List.length_take]; omega
      simp only at h5 ⊢
      omega
  have h3 := h.tot
  have h4 := h.ok.used
  refine ⟨⟨h.ok.room, ⟨by simp only; omega, by simp only; omega⟩, h.ok.ops, ⟨by simp, by simp⟩, ⟨by simp, by simp⟩, h.ok.armKeep⟩, rfl, fun e he => ?_, ?_⟩
  · obtain ⟨x, hx, rfl⟩ := List.mem_map.1 he
    have h2 := h.safe x hx
    have := powN_le (keep := k) h2
    simp only [powFl, List.length_take]
    omega
  · unfold powFs
    rw [List.map_map]
    exact h.names
theorem lay_ok (h : FsOk d fs) (ho : d.ops + 1 ≤ 1152921504606846976) (a : ByteArray) (l : List UInt8) (N : Nat) (hN : N ≤ l.length) (hr : d.used + (N : Int) ≤ 1073741824) : FsOk { d.begin with used := d.used + (N : Int) } (layF fs a (l.take N)) := by
  have hu := h.ok.used
  have ht := h.tot
  have hk : ({ d.begin with used := d.used + (N : Int) } : Dk).Ok := (h.ok.begin' ho).used' ⟨by omega, hr⟩
  unfold layF
  cases hg : fget fs a with
  | some f =>
    have hsf := h.safe _ (fget_mem hg)
    simp only at hsf
    refine FsOk.put h hg (by simp; omega) hk ?_
    simp
    omega
  | none =>
    rw [fput_new _ hg]
    refine ⟨hk, ?_, fun e he => ?_, ?_⟩
    · rw [ftotal_app, ftotal_cons]
      simp only [ftotal, List.map_nil, List.sum_nil, List.length_take] at *
      omega
    · rcases List.mem_append.1 he with he | he
      · exact h.safe e he
      · rw [List.mem_singleton.1 he]; exact Nat.zero_le _
    · rw [List.map_append, List.nodup_append]
      refine ⟨h.names, by simp, fun x hx y hy e => ?_⟩
      simp at hy
      subst hy e
      exact fget_none_names hg hx
theorem appN_room (h : FsOk d fs) (m : Nat) : d.used + (appN d m : Int) ≤ 1073741824 := by
  have h1 := h.ok.used
  have h2 := h.ok.room
  unfold appN
  omega
theorem callD_ok (h : FsOk d fs) (ho : d.ops + 1 ≤ 1152921504606846976) (kd n k : Int) (hn : -9223372036854775808 ≤ n ∧ n ≤ 9223372036854775807) (hk : -9223372036854775808 ≤ k ∧ k ≤ 9223372036854775807) (a b : ByteArray) (l : List UInt8) :
    FsOk (callD d fs kd n k a b l).2.1 (callD d fs kd n k a b l).2.2 := by
  unfold callD
  split
  · unfold appO
    split
    · exact h
    · split
      · exact lay_ok h ho a l _ (by unfold appK appN; omega) (by have := appN_room h l.length; unfold appK; omega)
      · exact lay_ok h ho a l _ (by unfold appN; omega) (appN_room h l.length)
  split
  · exact trunc_ok h ho a n
  split
  · exact sync_ok h ho a
  split
  · exact rename_ok h ho a b
  split
  · exact remove_ok h ho a
  split
  · unfold liftO opSetRoom
    split
    · rename_i hh; exact h.nums ⟨hh, h.ok.used, h.ok.ops, h.ok.failIn, h.ok.armedIn, h.ok.armKeep⟩ rfl
    · exact h
  split
  · unfold liftO opFail
    split
    · exact h
    · exact h.nums ⟨h.ok.room, h.ok.used, h.ok.ops, ⟨by simp only; omega, hn.2⟩, h.ok.armedIn, h.ok.armKeep⟩ rfl
  split
  · unfold liftO opArm
    split
    · exact h
    · exact h.nums ⟨h.ok.room, h.ok.used, h.ok.ops, h.ok.failIn, ⟨by simp only; omega, hn.2⟩, hk⟩ rfl
  split
  · exact power_ok h k
  · exact h
/-- at most one change more is counted -/
theorem opChange_ops {x : Int} {d1 d2 : Dk} {done : Fs} {u : Int} (h1 : d1.ops ≤ u) (h2 : d2.ops ≤ u) : (opChange d fs x d1 d2 done).2.1.ops ≤ u := by
  unfold opChange
  split
  · split <;> assumption
  · assumption
theorem callD_ops (kd n k : Int) (a b : ByteArray) (l : List UInt8) : (callD d fs kd n k a b l).2.1.ops ≤ d.ops + 1 := by
  have e1 : d.begin.ops = d.ops + 1 := rfl
  unfold callD
  split
  · unfold appO
    split
    · simp only; omega
    · split <;> exact Int.le_refl _
  split
  · unfold liftO opTrunc
    cases fget fs a with
    | none => simp only; omega
    | some f =>
      simp only
      split
      · simp only; omega
      · exact opChange_ops (Int.le_refl _) (Int.le_refl _)
  split
  · unfold liftO opSync
    cases fget fs a with
    | none => simp only; omega
    | some f => exact opChange_ops (Int.le_refl _) (Int.le_refl _)
  split
  · unfold liftO opRename
    cases fget fs a with
    | none => simp only; omega
    | some f =>
      simp only
      split
      · simp only; omega
      · split <;> exact opChange_ops (Int.le_refl _) (Int.le_refl _)
  split
  · unfold liftO opRemove
    cases fget fs a with
    | none => simp only; omega
    | some f => exact opChange_ops (Int.le_refl _) (Int.le_refl _)
  split
  · unfold liftO opSetRoom; split <;> simp only <;> omega
  split
  · unfold liftO opFail; split <;> simp only <;> omega
  split
  · unfold liftO opArm; split <;> simp only <;> omega
  split
  · unfold liftO opPower; simp only; omega
  · simp only; omega
end
end Go.Proofs.YtodjilljcjkacaaGreatDoor
/- A literal's bytes. -/
namespace Go.Proofs.YtodjilljcjkacaaGreatDoor
open Go.RowKit

/-- a literal's bytes, made out of a text -/
theorem Bs.litText (w : World) (l : List UInt8) (t : TypeId) (C : Array Value) (g n : Nat) (f : Nat × Nat) (hg : g = w.heap.size) (hC : C = (u8s l).toArray) (hn : n = l.length) (hl : l.length ≤ maxLen) : Bs (w.alloc (.cells C t f)) (some ⟨g, 0, none⟩) n n l := by
  subst hg hC hn
  exact Bs.of_block (f := f) (t := t) (cur := u8s l) (by show (w.heap.push _)[w.heap.size]? = _; simp) (by rw [List.take_of_length_le (by simp)]) rfl (Nat.le_refl _) hl
end Go.Proofs.YtodjilljcjkacaaGreatDoor
/- Layer 1: the sum as plain arithmetic on numbers, without the program. -/
namespace Go.Proofs.YtodjilljcjkacaaGreatDoor.Crc

def step (x : Nat) : Nat := if x % 2 = 1 then 3988292384 ^^^ (x / 2) else x / 2
def it : Nat → Nat → Nat
  | 0, x => x
  | n + 1, x => it n (step x)
def row (i : Nat) : Nat := it 8 i
def upd (x : Nat) (l : List UInt8) : Nat := l.foldl (fun x c => row ((x % 256) ^^^ c.toNat) ^^^ (x / 256)) x
/-- the sum of some bytes, of which s is the sum, and of l behind them -/
def sum (s : Nat) (l : List UInt8) : Nat := 4294967295 ^^^ upd (4294967295 ^^^ s) l

theorem it_add (n m : Nat) : ∀ x, it (n + m) x = it m (it n x) := by
  induction n with
  | zero => intro x; rw [Nat.zero_add]; rfl
  | succ n ih => intro x; rw [Nat.succ_add]; exact ih (step x)
theorem step_lt {x : Nat} (h : x < 4294967296) : step x < 4294967296 := by
  unfold step
  split
  · exact Nat.xor_lt_two_pow (n := 32) (by omega) (by omega)
  · omega
theorem it_lt (n : Nat) : ∀ {x : Nat}, x < 4294967296 → it n x < 4294967296 := by
  induction n with
  | zero => intro x h; exact h
  | succ n ih => intro x h; exact ih (step_lt h)
theorem upd_append (x : Nat) (a b : List UInt8) : upd x (a ++ b) = upd (upd x a) b := List.foldl_append ..
theorem upd_snoc (x : Nat) (a : List UInt8) (c : UInt8) : upd x (a ++ [c]) = row (((upd x a) % 256) ^^^ c.toNat) ^^^ ((upd x a) / 256) := by rw [upd_append]; rfl
theorem row_lt {x : Nat} (h : x < 4294967296) : row x < 4294967296 := it_lt 8 h
theorem upd_lt (l : List UInt8) : ∀ {x : Nat}, x < 4294967296 → upd x l < 4294967296 := by
  induction l with
  | nil => intro x h; exact h
  | cons c l ih =>
    intro x h
    have := c.toNat_lt
    refine ih (Nat.xor_lt_two_pow (n := 32) (row_lt (Nat.xor_lt_two_pow (n := 32) (by omega) (by omega))) (by omega))
theorem sum_lt {s : Nat} (l : List UInt8) (h : s < 4294967296) : sum s l < 4294967296 :=
  Nat.xor_lt_two_pow (n := 32) (by omega) (upd_lt l (Nat.xor_lt_two_pow (n := 32) (by omega) (by omega)))
theorem xor_cancel (a b : Nat) : a ^^^ (a ^^^ b) = b := by rw [← Nat.xor_assoc, Nat.xor_self, Nat.zero_xor]
theorem sum_append (s : Nat) (a b : List UInt8) : sum s (a ++ b) = sum (sum s a) b := by
  unfold sum
  rw [upd_append, xor_cancel]

end Go.Proofs.YtodjilljcjkacaaGreatDoor.Crc
/- Layer 1: crc's sums, walked. -/
namespace Go.Proofs.YtodjilljcjkacaaGreatDoor
open Go.RowKit

theorem it_snoc (n : Nat) (x : Nat) : Crc.it (n + 1) x = Crc.step (Crc.it n x) := Crc.it_add n 1 x

set_option maxRecDepth 100000 in
theorem crcRow (i : Nat) (w : World) (hi : i < 256) : Calls Tryz.prog 185 #[.int .u8 (i : Int)] w fun e w' => e = .returned (.int .u32 (Crc.row i : Nat)) ∧ w = w' := by
  go_enter Tryz.func185, Tryz.ntmps185
  go_wp2
  go_loop [3, 6] (fun x k => ∃ n : Nat, n ≤ 8 ∧ k = .int .i64 n ∧ x = .int .u32 (Crc.it n i : Nat)) (fun _ k => 8 - (intOf k).toNat)
  case atStart => exact ⟨0, Nat.zero_le _, rfl, rfl⟩
  case round =>
    obtain ⟨n, hn, rfl, rfl⟩ := hrel
    have hl : Crc.it n i < 4294967296 := Crc.it_lt n (by omega)
    have HS := Lib.hid (it_snoc n i)
    generalize hxx : Crc.it n i = x at *
    have HX := Lib.hid hxx; clear hxx
    by_cases hlt : n < 8
    · go_wp2
      all_goals
        go_round
        case rel =>
          refine ⟨n + 1, by omega, by go_num, ?_⟩
          rw [HS.out]
          unfold Crc.step
          have hx := Lib.hid trivial
          first
          | (rw [if_pos (by have : (((x : Int) % 2) == 1) = true := by assumption
                            have := beq_iff_eq.1 this; omega)]
             rw [show (3988292384 : Int) = ((3988292384 : Nat) : Int) from rfl, show (x : Int) / 2 = ((x / 2 : Nat) : Int) from by omega, u32_xor_nat _ _ (by omega) (by omega)])
          | (rw [if_neg (by have : (((x : Int) % 2) == 1) = false := by assumption
                            have := beq_eq_false_iff_ne.1 this; omega)]
             rw [show (x : Int) / 2 = ((x / 2 : Nat) : Int) from by omega])
        case measure => simp [intOf]; omega
    · obtain rfl : n = 8 := by omega
      go_wp2
      go_ret
      rw [← HX.out]
      exact ⟨rfl, rfl⟩

theorem u32_not (s : Nat) (hs : s < 4294967296) : bits BinOp.xor IntKind.u32 IntKind.u32.max (s : Int) = ((4294967295 ^^^ s : Nat) : Int) := by
  rw [show IntKind.u32.max = ((4294967295 : Nat) : Int) from by decide]
  exact u32_xor_nat _ _ (by omega) hs

set_option maxRecDepth 100000 in
theorem crcUpdate (s : Nat) (A : Option Addr) (n c : Nat) (l : List UInt8) (w : World) (hs : s < 4294967296) (hB : Bs w A n c l) :
    Calls Tryz.prog 170 #[.int .u32 (s : Int), .slice A n c] w fun e w' => e = .returned (.int .u32 (Crc.sum s l : Nat)) ∧ w = w' := by
  have hn := hB.nmax
  have HB := Lib.hid hB; clear hB
  have h1 := u32_not s hs
  go_enter Tryz.func170, Tryz.ntmps170
  go_wp2_with (fail)
  clear h1
  go_loop [5, 7, 12] (fun x _ k => ∃ m : Nat, m ≤ n ∧ k = .int .i64 m ∧ x = .int .u32 (Crc.upd (4294967295 ^^^ s) (l.take m) : Nat)) (fun _ _ k => n - (intOf k).toNat)
  case atStart => exact ⟨0, Nat.zero_le _, rfl, rfl⟩
  case round =>
    obtain ⟨m, hm, rfl, rfl⟩ := hrel
    have hl : Crc.upd (4294967295 ^^^ s) (l.take m) < 4294967296 := Crc.upd_lt _ (Nat.xor_lt_two_pow (n := 32) (by omega) (by omega))
    by_cases hlt : m < n
    · obtain ⟨b, o, rfl, hb, hc⟩ := HB.out.at_ (by omega)
      have hml : m < l.length := by have := HB.out.len; omega
      have hcell := hc m _ (List.getElem?_eq_getElem hml)
      have HC := Lib.hid (Crc.upd_snoc (4294967295 ^^^ s) (l.take m) l[m])
      have HT := Lib.hid (List.take_succ_eq_append_getElem hml)
      generalize l[m] = d at *
      generalize Crc.upd (4294967295 ^^^ s) (l.take m) = x at *
      have hd := d.toNat_lt
      have hxd : (x % 256) ^^^ d.toNat < 256 := Nat.xor_lt_two_pow (n := 8) (by omega) (by omega)
      have hr : Crc.row ((x % 256) ^^^ d.toNat) < 4294967296 := Crc.row_lt (by omega)
      have h2 : bits BinOp.xor IntKind.u8 ((x : Int) % 256) (d.toNat : Int) = (((x % 256) ^^^ d.toNat : Nat) : Int) := by
        rw [show ((x : Int) % 256) = ((x % 256 : Nat) : Int) from by omega]
        exact u8_xor_nat _ _ (by omega) hd
      have HR := Lib.hid (crcRow _ w hxd)
      have h3 : bits BinOp.xor IntKind.u32 ((Crc.row ((x % 256) ^^^ d.toNat) : Nat) : Int) ((x : Int) / 256) = ((Crc.row ((x % 256) ^^^ d.toNat) ^^^ (x / 256) : Nat) : Int) := by
        rw [show ((x : Int) / 256) = ((x / 256 : Nat) : Int) from by omega]
        exact u32_xor_nat _ _ hr (by omega)
      generalize Crc.row ((x % 256) ^^^ d.toNat) = r at *
      generalize (x % 256) ^^^ d.toNat = y at *
      clear hc hxd hr hd hl
      go_wp2_with (go_at_call 185; refine (HR.out).mono ?_; rintro e w' ⟨rfl, rfl⟩)
      go_round
      case rel =>
        refine ⟨m + 1, by omega, by go_num, ?_⟩
        rw [HT.out, HC.out]
      case measure => simp [intOf]; omega
    · obtain rfl : m = n := by omega
      have hl2 : l.take m = l := List.take_of_length_le (by have := HB.out.len; omega)
      rw [hl2] at hl ⊢
      clear hl2
      have h4 := u32_not _ hl
      go_wp2
      go_ret
      exact ⟨rfl, rfl⟩

theorem crcSum (A : Option Addr) (n c : Nat) (l : List UInt8) (w : World) (hB : Bs w A n c l) :
    Calls Tryz.prog 171 #[.slice A n c] w fun e w' => e = .returned (.int .u32 (Crc.sum 0 l : Nat)) ∧ w = w' := by
  have HB := Lib.hid hB; clear hB
  go_enter Tryz.func171, Tryz.ntmps171
  go_wp2_with (fail)
  refine (crcUpdate 0 A n c l w (by omega) HB.out).mono ?_
  rintro e w' ⟨rfl, rfl⟩
  go_wp2
  go_ret
  exact ⟨rfl, rfl⟩
end Go.Proofs.YtodjilljcjkacaaGreatDoor
/- Layer 1: the examples. -/
namespace Go.Proofs.YtodjilljcjkacaaGreatDoor
open Go.RowKit

end Go.Proofs.YtodjilljcjkacaaGreatDoor
/- Layer 1: Seal and Open, walked. -/
namespace Go.Proofs.YtodjilljcjkacaaGreatDoor
open Go.RowKit

/-- a number's bytes, the highest first -/
def be4 (x : Nat) : List UInt8 := [UInt8.ofNat (x / 16777216), UInt8.ofNat (x / 65536), UInt8.ofNat (x / 256), UInt8.ofNat x]
theorem be4_length (x : Nat) : (be4 x).length = 4 := rfl
theorem be4_cells (x : Nat) (hx : x < 4294967296) : #[Value.int .u8 ((x : Int) / 16777216), .int .u8 ((x : Int) / 65536 % 256), .int .u8 ((x : Int) / 256 % 256), .int .u8 ((x : Int) % 256)] = (u8s (be4 x)).toArray := by
  simp [be4, u8s]
  omega

theorem four {l : List UInt8} (h : l.length = 4) : ∃ p q r s, l = [p, q, r, s] := by
  match l, h with
  | [p, q, r, s], _ => exact ⟨p, q, r, s, rfl⟩

end Go.Proofs.YtodjilljcjkacaaGreatDoor
/- Layer 13: records, as plain lists. -/
namespace Go.Proofs.YtodjilljcjkacaaGreatDoor
open Go.RowKit

/-- a number of bytes that a record may have -/
def okLen (n : Nat) : Bool := decide (1 ≤ n) && decide (n ≤ 65536)
/-- the record of l -/
def record (l : List UInt8) : List UInt8 := be4 l.length ++ be4 (Crc.sum 0 (be4 l.length ++ l)) ++ l
/-- a number, the highest byte first -/
def beNum (l : List UInt8) : Nat := l.foldl (fun x c => x * 256 + c.toNat) 0
theorem beNum_snoc (l : List UInt8) (c : UInt8) : beNum (l ++ [c]) = beNum l * 256 + c.toNat := by simp [beNum]
theorem beNum_go (l : List UInt8) : ∀ x N : Nat, x < N → l.foldl (fun x c => x * 256 + c.toNat) x < N * 256 ^ l.length := by
  induction l with
  | nil => intro x N h; simpa using h
  | cons c l ih =>
    intro x N h
    have hc := c.toNat_lt
    have h2 := ih (x * 256 + c.toNat) (N * 256) (by omega)
    simp only [List.foldl_cons, List.length_cons, Nat.pow_succ]
    rw [Nat.mul_assoc, Nat.mul_comm 256] at h2
    exact h2
theorem beNum_lt (l : List UInt8) : beNum l < 256 ^ l.length := by
  have := beNum_go l 0 1 (by omega)
  simpa [beNum] using this
theorem beNum_be4 {x : Nat} (hx : x < 4294967296) : beNum (be4 x) = x := by
  simp [beNum, be4]
  omega
/-- why there is no record at the head of l; 0: there is one -/
def getErr (l : List UInt8) : Int :=
  if l.length < 8 then 7 else if okLen (beNum (l.take 4)) = false then 9 else if l.length - 8 < beNum (l.take 4) then 7
  else if Crc.sum 0 (l.take 4 ++ (l.drop 8).take (beNum (l.take 4))) = beNum ((l.drop 4).take 4) then 0 else 8
/-- its bytes -/
def getGet (l : List UInt8) : List UInt8 := if getErr l = 0 then (l.drop 8).take (beNum (l.take 4)) else []
/-- how many bytes it has -/
def getLen (l : List UInt8) : Nat := if getErr l = 0 then 8 + beNum (l.take 4) else 0
end Go.Proofs.YtodjilljcjkacaaGreatDoor
/- Layer 13: entry's small functions, walked. -/
namespace Go.Proofs.YtodjilljcjkacaaGreatDoor
open Go.RowKit

theorem rightLength_yes (n : Int) (w : World) (h1 : 1 ≤ n) (h2 : n ≤ 65536) : Calls Tryz.prog 133 #[.int .i64 n] w fun e w' => e = .returned (.bool true) ∧ w = w' := by
  have d1 : decide ((1 : Int) ≤ n) = true := by simpa using h1
  have d2 : decide (n ≤ (65536 : Int)) = true := by simpa using h2
  go_enter Tryz.func133, Tryz.ntmps133
  go_wp2
  go_ret
  exact ⟨rfl, rfl⟩
theorem rightLength_no (n : Int) (w : World) (h : n < 1 ∨ 65536 < n) : Calls Tryz.prog 133 #[.int .i64 n] w fun e w' => e = .returned (.bool false) ∧ w = w' := by
  by_cases h1 : n < 1
  · have d1 : decide ((1 : Int) ≤ n) = false := by simp; omega
    clear h
    go_enter Tryz.func133, Tryz.ntmps133
    go_wp2
    go_ret
    exact ⟨rfl, rfl⟩
  · have d1 : decide ((1 : Int) ≤ n) = true := by simp; omega
    have d2 : decide (n ≤ (65536 : Int)) = false := by simp; omega
    clear h h1
    go_enter Tryz.func133, Tryz.ntmps133
    go_wp2
    go_ret
    exact ⟨rfl, rfl⟩
theorem okLen_yes {n : Nat} (h : okLen n = true) : 1 ≤ n ∧ n ≤ 65536 := by simpa [okLen] using h
theorem okLen_no {n : Nat} (h : okLen n = false) : n < 1 ∨ 65536 < n := by
  simp [okLen] at h
  omega
theorem entrySize_yes (n : Nat) (w : World) (h : okLen n = true) : Calls Tryz.prog 135 #[.int .i64 (n : Int)] w fun e w' => e = .returned (.int .i64 (8 + (n : Int))) ∧ w = w' := by
  have h1 := okLen_yes h
  have HH := Lib.hid h1
  have b : n ≤ 65536 := h1.2
  clear h1 h
  go_enter Tryz.func135, Tryz.ntmps135
  go_wp2_with (fail)
  refine (rightLength_yes n w (by have := HH.out; omega) (by have := HH.out; omega)).mono ?_
  rintro e w' ⟨rfl, rfl⟩
  go_wp2
  go_ret
  exact ⟨rfl, rfl⟩
theorem entrySumOf (A : Option Addr) (n c : Nat) (l : List UInt8) (B : Option Addr) (m d : Nat) (k : List UInt8) (w : World) (hA : Bs w A n c l) (hB : Bs w B m d k) :
    Calls Tryz.prog 134 #[.slice A n c, .slice B m d] w fun e w' => e = .returned (.int .u32 (Crc.sum 0 (l ++ k) : Nat)) ∧ w = w' := by
  have HA := Lib.hid hA
  have HB := Lib.hid hB
  have HS := Lib.hid (Crc.sum_append 0 l k)
  clear hA hB
  go_enter Tryz.func134, Tryz.ntmps134
  go_wp2_with (fail)
  refine (crcSum A n c l w HA.out).mono ?_
  rintro e w' ⟨rfl, rfl⟩
  go_wp2_with (fail)
  refine (crcUpdate _ B m d k w (Crc.sum_lt _ (by omega)) HB.out).mono ?_
  rintro e w' ⟨rfl, rfl⟩
  go_wp2
  go_ret
  rw [HS.out]
  exact ⟨rfl, rfl⟩

set_option maxRecDepth 100000 in
theorem entryHighest (x : Nat) (w : World) (hx : x < 4294967296) : Calls Tryz.prog 154 #[.int .u32 (x : Int)] w fun e w' => ∃ p q r s, be4 x = [p, q, r, s] ∧ e = .returned (.agg #[.int .u8 (p.toNat : Int), .int .u8 (q.toNat : Int), .int .u8 (r.toNat : Int), .int .u8 (s.toNat : Int)]) ∧ Below w.heap.size w w' := by
  have HE := Lib.hid (be4_cells x hx)
  go_enter Tryz.func154, Tryz.ntmps154
  go_wp2
  refine bodyPost_ret (v := .agg #[Value.int .u8 ((x : Int) / 16777216), .int .u8 ((x : Int) / 65536 % 256), .int .u8 ((x : Int) / 256 % 256), .int .u8 ((x : Int) % 256)]) (by simp [results, Tryz.results154, go_sem]) rfl ⟨_, _, _, _, rfl, ?_, (Below.refl _ _).alloc (Nat.le_refl _) _⟩
  rw [HE.out]
  rfl

theorem or_byte (x c : Nat) (hx : x < 16777216) (hc : c < 256) : bits BinOp.or IntKind.u32 ((x : Int) * 256) (c : Int) = ((x * 256 + c : Nat) : Int) := by
  rw [show ((x : Int) * 256) = ((x * 256 : Nat) : Int) from by omega, u32_or_nat _ _ (by omega) (by omega)]
  congr 1
  apply Nat.eq_of_testBit_eq
  intro i
  rw [show x * 256 + c = 2 ^ 8 * x + c from by omega, Nat.testBit_two_pow_mul_add _ (by omega), Nat.testBit_or, show x * 256 = 2 ^ 8 * x from by omega, Nat.testBit_two_pow_mul]
  by_cases h : i < 8
  · simp [h, show ¬ 8 ≤ i from by omega]
  · have : Nat.testBit c i = false := Nat.testBit_lt_two_pow (Nat.lt_of_lt_of_le hc (by
      have : 2 ^ 8 ≤ 2 ^ i := Nat.pow_le_pow_right (by omega) (by omega)
      simpa using this))
    simp [h, this, show 8 ≤ i from by omega]

set_option maxRecDepth 100000 in
theorem entryNumber (A : Option Addr) (c : Nat) (l : List UInt8) (w : World) (hB : Bs w A 4 c l) :
    Calls Tryz.prog 132 #[.slice A 4 c] w fun e w' => e = .returned (.int .u32 (beNum l : Nat)) ∧ w = w' := by
  have HB := Lib.hid hB; clear hB
  go_enter Tryz.func132, Tryz.ntmps132
  go_wp2_with (fail)
  go_loop [3, 5, 8] (fun x _ k => ∃ m : Nat, m ≤ 4 ∧ k = .int .i64 m ∧ x = .int .u32 (beNum (l.take m) : Nat)) (fun _ _ k => 4 - (intOf k).toNat)
  case atStart => exact ⟨0, Nat.zero_le _, rfl, rfl⟩
  case round =>
    obtain ⟨m, hm, rfl, rfl⟩ := hrel
    by_cases hlt : m < 4
    · obtain ⟨b, o, rfl, hb, hc⟩ := HB.out.at_ (by omega)
      have hml : m < l.length := by have := HB.out.len; omega
      have hcell := hc m _ (List.getElem?_eq_getElem hml)
      have hlt3 : beNum (l.take m) < 16777216 := Nat.lt_of_lt_of_le (beNum_lt _) (by
        have : (l.take m).length ≤ 3 := by rw [List.length_take]; omega
        have h := Nat.pow_le_pow_right (n := 256) (by omega) this
        simpa using h)
      have HC := Lib.hid (beNum_snoc (l.take m) l[m])
      have HT := Lib.hid (List.take_succ_eq_append_getElem hml)
      generalize l[m] = d at *
      generalize beNum (l.take m) = x at *
      have hd := d.toNat_lt
      have h2 := or_byte x d.toNat hlt3 hd
      clear hc
      go_wp2_with (fail)
      go_round
      case rel =>
        refine ⟨m + 1, by omega, by go_num, ?_⟩
        rw [HT.out, HC.out]
        congr 1
      case measure => simp [intOf]; omega
    · obtain rfl : m = 4 := by omega
      have hl2 : l.take 4 = l := List.take_of_length_le (by have := HB.out.len; omega)
      rw [hl2]
      clear hl2
      go_wp2
      go_ret
      exact ⟨rfl, rfl⟩
end Go.Proofs.YtodjilljcjkacaaGreatDoor
/- Layer 13: Put, walked. -/
namespace Go.Proofs.YtodjilljcjkacaaGreatDoor
open Go.RowKit

/-- what a call gives that answers bytes and an error, and leaves what was there -/
def RetE (err : Int) (l : List UInt8) (w : World) (e : Ending) (w' : World) : Prop :=
  ∃ A c, e = .returned (.tuple #[.slice A l.length c, .int .i64 err]) ∧ Bs w' A l.length c l ∧ Below w.heap.size w w'

set_option maxRecDepth 100000 in
set_option maxHeartbeats 1000000 in
theorem entryPut_no (A : Option Addr) (n c : Nat) (w : World) (hn : okLen n = false) :
    Calls Tryz.prog 110 #[.slice A n c] w (RetE 9 [] w) := by
  have H := Lib.hid (okLen_no hn)
  clear hn
  go_enter Tryz.func110, Tryz.ntmps110
  go_wp2_with (fail)
  refine (rightLength_no n w (by have := H.out; omega)).mono ?_
  rintro e w' ⟨rfl, rfl⟩
  go_wp2
  go_ret2
  exact ⟨none, 0, rfl, Bs.none_ _, Below.refl _ _⟩

set_option maxRecDepth 100000 in
set_option maxHeartbeats 2000000 in
theorem entryPut_yes (A : Option Addr) (n c : Nat) (l : List UInt8) (w : World) (hB : Bs w A n c l) (hn : okLen n = true) :
    Calls Tryz.prog 110 #[.slice A n c] w (RetE 0 (record l) w) := by
  have HN := Lib.hid hn
  have HB := Lib.hid hB
  have HL := Lib.hid hB.len
  have h1 := (okLen_yes hn).1
  have h2 := (okLen_yes hn).2
  have tok1 : True := trivial
  have tok2 : True := trivial
  have tok3 : True := trivial
  have hmk : ∀ w : World, (Instr.makeSlice 40 (.int .i64 0) (.int .i64 (8 + (n : Int)))).run Tryz.prog w = .ok (.slice (some ⟨w.heap.size, 0, none⟩) 0 (8 + n)) (w.alloc (.cells (Array.replicate (8 + n) (.int .u8 0)) 5)) := by
    intro w
    have := run_mk (P := Tryz.prog) 40 5 Tryz.underlying40 byteInfo 0 (8 + n) (Nat.zero_le _) (by omega) w
    rwa [show ((8 + n : Nat) : Int) = 8 + (n : Int) from by omega] at this
  clear hn hB
  go_enter Tryz.func110, Tryz.ntmps110
  go_wp2_with (fail)
  refine (rightLength_yes n w (by omega) (by omega)).mono ?_
  rintro e w' ⟨rfl, rfl⟩
  go_wp2_with (fail)
  refine (entryHighest n w (by omega)).mono ?_
  rintro e w1 ⟨p, q, r, s, hbe, rfl, hb1⟩
  have HBE := Lib.hid hbe
  have HB1 := Lib.hid hb1
  have hz1 := hb1.size
  clear hbe hb1
  go_wp2_with (fail)
  have X2 := Lib.hid (Bs.lit w1 [p, q, r, s] 205 #[.int .u8 (p.toNat : Int), .int .u8 (q.toNat : Int), .int .u8 (r.toNat : Int), .int .u8 (s.toNat : Int)] w1.heap.size rfl rfl rfl (by simp [maxLen]))
  have B2 := Lib.hid (HB1.out.alloc hz1 (.cells #[.int .u8 (p.toNat : Int), .int .u8 (q.toNat : Int), .int .u8 (r.toNat : Int), .int .u8 (s.toNat : Int)] 205))
  generalize w1.alloc (.cells #[.int .u8 (p.toNat : Int), .int .u8 (q.toNat : Int), .int .u8 (r.toNat : Int), .int .u8 (s.toNat : Int)] 205) = w2 at *
  have hz2 := B2.out.size
  refine (entrySumOf _ _ _ _ _ _ _ l w2 X2.out (HB.out.below B2.out)).mono ?_
  rintro e w' ⟨rfl, rfl⟩
  have hs := Crc.sum_lt (s := 0) ([p, q, r, s] ++ l) (by omega)
  obtain ⟨x, hx⟩ : ∃ x, x = Crc.sum 0 ([p, q, r, s] ++ l) := ⟨_, rfl⟩
  rw [← hx] at hs ⊢
  have HX := Lib.hid hx
  clear hx
  go_wp2_with (fail)
  refine (entryHighest x w2 hs).mono ?_
  rintro e w3 ⟨p', q', r', s', hbe, rfl, hb3⟩
  have HBE2 := Lib.hid hbe
  have X3 := Lib.hid (X2.out.below hb3)
  have B3 := Lib.hid (B2.out.trans (hb3.mono hz2))
  have hz3 := B3.out.size
  clear hbe hb3
  go_wp2_with (fail)
  have X4 := Lib.hid (X3.out.alloc (.cells #[.int .u8 (p'.toNat : Int), .int .u8 (q'.toNat : Int), .int .u8 (r'.toNat : Int), .int .u8 (s'.toNat : Int)] 205))
  have Y4 := Lib.hid (Bs.lit w3 [p', q', r', s'] 205 #[.int .u8 (p'.toNat : Int), .int .u8 (q'.toNat : Int), .int .u8 (r'.toNat : Int), .int .u8 (s'.toNat : Int)] w3.heap.size rfl rfl rfl (by simp [maxLen]))
  have B4 := Lib.hid (B3.out.alloc hz3 (.cells #[.int .u8 (p'.toNat : Int), .int .u8 (q'.toNat : Int), .int .u8 (r'.toNat : Int), .int .u8 (s'.toNat : Int)] 205))
  have hz34 : w3.heap.size < (w3.alloc (.cells #[.int .u8 (p'.toNat : Int), .int .u8 (q'.toNat : Int), .int .u8 (r'.toNat : Int), .int .u8 (s'.toNat : Int)] 205)).heap.size := by simp
  generalize w3.alloc (.cells #[.int .u8 (p'.toNat : Int), .int .u8 (q'.toNat : Int), .int .u8 (r'.toNat : Int), .int .u8 (s'.toNat : Int)] 205) = w4 at *
  have hz4 := B4.out.size
  refine (entrySize_yes n w4 HN.out).mono ?_
  rintro e w' ⟨rfl, rfl⟩
  go_wp2_with (first
    | (at_builtin; have _t := tok1; go_loud ((refine wpList_app rfl (.tmp 23) (.tmp 24) 40 rfl w4.heap.size 5 Tryz.underlying40 byteInfo _ [] rfl (Own.made 5 w4 _ (8 + n) (Nat.le_refl _) (by simp only [maxLen]; omega) (by simp)) _ 4 4 [p, q, r, s] rfl (X4.out.alloc _) (by simp) (by simp) ?_; intro v5 w5 hown5 hb5 hg5; have b5 : Below w4.heap.size w4 w5 := ((Below.refl _ _).alloc (Nat.le_refl _) _).trans hb5; clear tok1 hb5 hg5 _t)))
    | (at_builtin; have _t := tok2; go_loud ((refine wpList_app rfl (.tmp 26) (.tmp 27) 40 rfl w4.heap.size 5 Tryz.underlying40 byteInfo _ ([] ++ [p, q, r, s]) rfl hown5 _ 4 4 [p', q', r', s'] rfl (Y4.out.below b5) (by simp) b5.size ?_; intro v6 w6 hown6 hb6 hg6; have b6 : Below w4.heap.size w4 w6 := b5.trans hb6; clear tok2 hb6 hg6 _t)))
    | (at_builtin; have _t := tok3; go_loud ((refine wpList_app rfl (.tmp 29) (.tmp 30) 40 rfl w4.heap.size 5 Tryz.underlying40 byteInfo _ ([] ++ [p, q, r, s] ++ [p', q', r', s']) rfl hown6 _ n c l rfl ((HB.out.below B4.out).below b6) (by simp; omega) b6.size ?_; intro v7 w7 hown7 hb7 hg7; have b7 : Below w4.heap.size w4 w7 := b6.trans hb7; clear tok3 hb7 hg7 _t))))
  go_ret2
  have e : [] ++ [p, q, r, s] ++ [p', q', r', s'] ++ l = record l := by
    unfold record
    rw [HL.out, HBE.out, ← HX.out, HBE2.out]
    rfl
  rw [e] at hown7
  obtain ⟨A8, c8, rfl, hB8, _⟩ := hown7.bs
  exact ⟨A8, c8, rfl, hB8, B4.out.trans (b7.mono hz4)⟩

theorem entryPut (A : Option Addr) (n c : Nat) (l : List UInt8) (w : World) (hB : Bs w A n c l) :
    Calls Tryz.prog 110 #[.slice A n c] w (RetE (if okLen l.length then 0 else 9) (if okLen l.length then record l else []) w) := by
  rw [hB.len]
  cases h : okLen n with
  | true => exact entryPut_yes A n c l w hB h
  | false => exact entryPut_no A n c w h
end Go.Proofs.YtodjilljcjkacaaGreatDoor
/- Layer 13: Get, walked. -/
namespace Go.Proofs.YtodjilljcjkacaaGreatDoor
open Go.RowKit

/-- the same, where the bytes lie in memory of their own -/
def RetGN (l : List UInt8) (n : Int) (err : Int) (w : World) (e : Ending) (w' : World) : Prop :=
  ∃ A c, e = .returned (.tuple #[.slice A l.length c, .int .i64 n, .int .i64 err]) ∧ Bs w' A l.length c l ∧ (∀ b, A = some b → w.heap.size ≤ b.block) ∧ Below w.heap.size w w'
theorem RetGN.none {n err : Int} {w w' : World} (hb : Below w.heap.size w w') : RetGN [] n err w (.returned (.tuple #[.slice none 0 0, .int .i64 n, .int .i64 err])) w' :=
  ⟨Option.none, 0, rfl, Bs.none_ _, (fun _ h => by cases h), hb⟩
theorem get_err {l : List UInt8} {err : Int} (h : getErr l = err) (h0 : err ≠ 0) : getGet l = [] ∧ getLen l = 0 := by
  have : ¬ getErr l = 0 := by omega
  exact ⟨by unfold getGet; rw [if_neg this], by unfold getLen; rw [if_neg this]⟩

set_option maxRecDepth 100000 in
set_option maxHeartbeats 1000000 in
theorem entryGetN (A : Option Addr) (n c : Nat) (l : List UInt8) (w : World) (hB : Bs w A n c l) (hN : n ≤ 140737488351232) :
    Calls Tryz.prog 96 #[.slice A n c] w (RetGN (getGet l) (getLen l) (getErr l) w) := by
  have hlen := hB.len
  have hcm := hB.max
  have hle := hB.le
  by_cases h8 : n < 8
  · have e : getErr l = 7 := by unfold getErr; rw [if_pos (by omega)]
    rw [(get_err e (by omega)).1, (get_err e (by omega)).2, e]
    clear e hlen hB
    go_enter Tryz.func96, Tryz.ntmps96
    go_wp2
    go_ret3
    exact RetGN.none (Below.refl _ _)
  · obtain ⟨b, o, rfl, hb, _⟩ := hB.at_ (by omega)
    have H4 := Lib.hid (hB.take (j := 4) (by omega))
    have h5 := (hB.drop (i := 4) (by omega)).take (j := 4) (by omega)
    rw [if_neg (by omega), Option.map_some, Addr.add_lit] at h5
    have H5 := Lib.hid h5
    have h6 := hB.drop (i := 8) (by omega)
    rw [Option.map_some, Addr.add_lit] at h6
    obtain ⟨k, hk⟩ : ∃ k, n = k + 8 := ⟨n - 8, by omega⟩
    subst hk
    rw [show k + 8 - 8 = k from by omega] at h6
    obtain ⟨R, hR⟩ : ∃ R, (if c = 8 then some (⟨b, o, none⟩ : Addr) else some ⟨b, o + 8, none⟩) = R := ⟨_, rfl⟩
    rw [hR] at h6
    have H6 := Lib.hid h6
    have e0 : (k : Int) ≤ (k : Int) + 8 := by omega
    have e9 : ¬ c = 4 := by omega
    have hxlt : beNum (l.take 4) < 4294967296 := by
      have := beNum_lt (l.take 4)
      rw [show (l.take 4).length = 4 from H4.out.len] at this
      simpa using this
    have HE : Hid (getErr l = if okLen (beNum (l.take 4)) = false then 9 else if k < beNum (l.take 4) then 7 else if Crc.sum 0 (l.take 4 ++ (l.drop 8).take (beNum (l.take 4))) = beNum ((l.drop 4).take 4) then 0 else 8) := by
      show getErr l = _
      unfold getErr
      rw [if_neg (by omega), hlen, show k + 8 - 8 = k from by omega]
    have CN := fun W h => entryNumber (some ⟨b, o, none⟩) c (l.take 4) W h
    have HG : Hid (getErr l = 0 → getGet l = (l.drop 8).take (beNum (l.take 4)) ∧ getLen l = 8 + beNum (l.take 4)) := fun h => ⟨by unfold getGet; rw [if_pos h], by unfold getLen; rw [if_pos h]⟩
    have CN2 := fun W h => entryNumber (some ⟨b, o + 4, none⟩) (c - 4) ((l.drop 4).take 4) W h
    generalize beNum (l.take 4) = x at *
    generalize beNum ((l.drop 4).take 4) = y at *
    have HCN := Lib.hid CN
    have HCN2 := Lib.hid CN2
    have HBB := Lib.hid hB
    clear hB h5 h6 CN CN2 hlen
    by_cases hx : okLen x = false
    · have e := HE.out
      rw [if_pos hx] at e
      rw [(get_err e (by omega)).1, (get_err e (by omega)).2, e]
      have HX := Lib.hid (okLen_no hx)
      clear e hx
      go_enter Tryz.func96, Tryz.ntmps96
      go_wp2_with (fail)
      go_quiet (fail)
      go_wp2_with (fail)
      refine (HCN.out _ (H4.out.drewN _)).mono ?_
      rintro e w' ⟨rfl, rfl⟩
      go_wp2_with (fail)
      refine (rightLength_no x _ (by have := HX.out; omega)).mono ?_
      rintro e w' ⟨rfl, rfl⟩
      go_wp2
      go_ret3
      exact RetGN.none (drawN_below (Below.refl _ _) _)
    · have hx1 : okLen x = true := by
        cases h : okLen x with
        | true => rfl
        | false => exact absurd h hx
      have hx2 := okLen_yes hx1
      have e := HE.out
      rw [if_neg hx] at e
      have HX := Lib.hid hx2
      have HX1 := Lib.hid hx1
      clear hx hx2 hx1
      by_cases hk : k < x
      · rw [if_pos hk] at e
        rw [(get_err e (by omega)).1, (get_err e (by omega)).2, e]
        clear e
        go_enter Tryz.func96, Tryz.ntmps96
        go_wp2_with (fail)
        go_quiet (fail)
        go_wp2_with (fail)
        refine (HCN.out _ (H4.out.drewN _)).mono ?_
        rintro e w' ⟨rfl, rfl⟩
        go_wp2_with (fail)
        refine (rightLength_yes x _ (by have := HX.out; omega) (by have := HX.out; omega)).mono ?_
        rintro e w' ⟨rfl, rfl⟩
        go_wp2
        go_ret3
        exact RetGN.none (drawN_below (Below.refl _ _) _)
      · rw [if_neg hk] at e
        have HX6 := Lib.hid (H6.out.take (j := x) (by omega))
        have e1 : (x : Int) ≤ (k : Int) := by omega
        have e2 : x ≤ c - 8 := by omega
        have CS := fun W h1 h2 => entrySumOf (some ⟨b, o, none⟩) 4 c (l.take 4) R x (c - 8) ((l.drop 8).take x) W h1 h2
        have hslt := Crc.sum_lt (s := 0) (l.take 4 ++ (l.drop 8).take x) (by omega)
        generalize Crc.sum 0 (l.take 4 ++ (l.drop 8).take x) = s at *
        have HCS := Lib.hid CS
        clear CS
        by_cases hs : s = y
        · rw [if_pos hs] at e
          have HEE := Lib.hid e
          have hne : ((s : Int) != (y : Int)) = false := by simp [hs]
          have hx65 : x ≤ 65536 := HX.out.2
          obtain ⟨Z, HZ, hzl, hmk⟩ := mk_zeros (x : Int) x rfl (by omega)
          have HZL := Lib.hid hzl
          have HMK := Lib.hid hmk
          clear e hs hzl hmk
          go_enter Tryz.func96, Tryz.ntmps96
          go_wp2_with (fail)
          go_quiet (fail)
          go_wp2_with (fail)
          refine (HCN.out _ (H4.out.drewN _)).mono ?_
          rintro e w' ⟨rfl, rfl⟩
          go_wp2_with (fail)
          refine (rightLength_yes x _ (by have := HX.out; omega) (by have := HX.out; omega)).mono ?_
          rintro e w' ⟨rfl, rfl⟩
          go_wp2_with (fail)
          refine (HCS.out _ (H4.out.drewN _) (HX6.out.drewN _)).mono ?_
          rintro e w' ⟨rfl, rfl⟩
          go_wp2_with (fail)
          refine (HCN2.out _ (H5.out.drewN _)).mono ?_
          rintro e w' ⟨rfl, rfl⟩
          have hw3 : Hid (Below w.heap.size w (w.drewN nq)) := Lib.hid (drawN_below (Below.refl _ _) nq)
          have HXX := Lib.hid (HX6.out.drewN nq)
          generalize w.drewN nq = w3 at *
          have hmk := HMK.out
          have hsz3 := hw3.out.size
          go_wp2_with (with_reducible show wpList _ _ _ _ _ _; refine wpList_cpyTo rfl (.tmp 39) (.tmp 40) 40 40 rfl 5 Tryz.underlying40 byteInfo w3.heap.size 0 _ _ _ rfl Z 5 (heap_alloc_new w3 _) R k x (c - 8) ((l.drop 8).take x) rfl (HXX.out.alloc _) (fun _ => rfl) (by omega) (by rw [HZL.out]; omega) ?_; intro w1 hw1 hb1)
          refine (entrySize_yes x _ HX1.out).mono ?_
          rintro e w' ⟨rfl, rfl⟩
          go_wp2
          go_ret3
          rw [(HG.out HEE.out).1, (HG.out HEE.out).2, HEE.out]
          have e : List.take 0 Z ++ ((l.drop 8).take x ++ List.drop (0 + x) Z) = (l.drop 8).take x := by
            have hz : List.drop (0 + x) Z = [] := List.drop_of_length_le (by rw [HZL.out]; omega)
            rw [List.take_zero, List.nil_append, hz, List.append_nil]
          have hw := hw1.out
          rw [e] at hw
          have hlk : ((l.drop 8).take x).length = x := HX6.out.len
          refine ⟨some ⟨w3.heap.size, 0, none⟩, x, ?_, ?_, (fun b hb => by injection hb with hb; subst hb; exact hsz3), hw3.out.trans ((((Below.refl _ w3).alloc (Nat.le_refl _) _).trans hb1).mono hsz3)⟩
          · rw [hlk, show ((8 + x : Nat) : Int) = 8 + (x : Int) from by omega]
            rfl
          · have := Bs.block hw hlk (by unfold maxLen; omega)
            rwa [hlk]
        · rw [if_neg hs] at e
          rw [(get_err e (by omega)).1, (get_err e (by omega)).2, e]
          have hne : ((s : Int) != (y : Int)) = true := by rw [bne_iff_ne]; omega
          clear e hs
          go_enter Tryz.func96, Tryz.ntmps96
          go_wp2_with (fail)
          go_quiet (fail)
          go_wp2_with (fail)
          refine (HCN.out _ (H4.out.drewN _)).mono ?_
          rintro e w' ⟨rfl, rfl⟩
          go_wp2_with (fail)
          refine (rightLength_yes x _ (by have := HX.out; omega) (by have := HX.out; omega)).mono ?_
          rintro e w' ⟨rfl, rfl⟩
          go_wp2_with (fail)
          refine (HCS.out _ (H4.out.drewN _) (HX6.out.drewN _)).mono ?_
          rintro e w' ⟨rfl, rfl⟩
          go_wp2_with (fail)
          refine (HCN2.out _ (H5.out.drewN _)).mono ?_
          rintro e w' ⟨rfl, rfl⟩
          go_wp2
          go_ret3
          exact RetGN.none (drawN_below (Below.refl _ _) _)
end Go.Proofs.YtodjilljcjkacaaGreatDoor
/- bytes.Equal, walked. -/
namespace Go.Proofs.YtodjilljcjkacaaGreatDoor
open Go.RowKit

end Go.Proofs.YtodjilljcjkacaaGreatDoor
/- Layer 13: the example. -/
namespace Go.Proofs.YtodjilljcjkacaaGreatDoor
open Go.RowKit

end Go.Proofs.YtodjilljcjkacaaGreatDoor
/- Layer 1: Open, walked. -/
namespace Go.Proofs.YtodjilljcjkacaaGreatDoor
open Go.RowKit

end Go.Proofs.YtodjilljcjkacaaGreatDoor
/- The law CrcBursts, walked. -/
namespace Go.Proofs.YtodjilljcjkacaaGreatDoor
open Go.RowKit

end Go.Proofs.YtodjilljcjkacaaGreatDoor
/- The law CrcTurns, walked. -/
namespace Go.Proofs.YtodjilljcjkacaaGreatDoor
open Go.RowKit

end Go.Proofs.YtodjilljcjkacaaGreatDoor
/- Layer 13: what a record tells, and one with a bit turned. -/
namespace Go.Proofs.YtodjilljcjkacaaGreatDoor
open Go.RowKit

theorem get_parts (P S L b : List UInt8) (hP : P.length = 4) (hS : S.length = 4) (hn : beNum P = L.length) (hok : okLen L.length = true) :
    getErr (P ++ (S ++ (L ++ b))) = if Crc.sum 0 (P ++ L) = beNum S then 0 else 8 := by
  unfold getErr
  have h1 : (P ++ (S ++ (L ++ b))).length = 8 + L.length + b.length := by simp; omega
  have h2 : (P ++ (S ++ (L ++ b))).take 4 = P := by rw [← hP, List.take_left]
  have h3 : (P ++ (S ++ (L ++ b))).drop 4 = S ++ (L ++ b) := by rw [← hP, List.drop_left]
  have h4 : (P ++ (S ++ (L ++ b))).drop 8 = L ++ b := by
    rw [show (8 : Nat) = 4 + 4 from rfl, ← List.drop_drop, h3, ← hS, List.drop_left]
  have h5 : (S ++ (L ++ b)).take 4 = S := by rw [← hS, List.take_left]
  rw [h1, h2, h3, h4, h5, hn, List.take_left, if_neg (by omega), if_neg (by rw [hok]; decide), if_neg (by omega)]
theorem get_parts_get (P S L b : List UInt8) (hP : P.length = 4) (hS : S.length = 4) (hn : beNum P = L.length) (hok : okLen L.length = true) (h : Crc.sum 0 (P ++ L) = beNum S) :
    getErr (P ++ (S ++ (L ++ b))) = 0 ∧ getGet (P ++ (S ++ (L ++ b))) = L ∧ getLen (P ++ (S ++ (L ++ b))) = 8 + L.length := by
  have he := get_parts P S L b hP hS hn hok
  rw [if_pos h] at he
  have h2 : (P ++ (S ++ (L ++ b))).take 4 = P := by rw [← hP, List.take_left]
  have h3 : (P ++ (S ++ (L ++ b))).drop 4 = S ++ (L ++ b) := by rw [← hP, List.drop_left]
  have h4 : (P ++ (S ++ (L ++ b))).drop 8 = L ++ b := by
    rw [show (8 : Nat) = 4 + 4 from rfl, ← List.drop_drop, h3, ← hS, List.drop_left]
  refine ⟨he, ?_, ?_⟩
  · unfold getGet; rw [if_pos he, h2, h4, hn, List.take_left]
  · unfold getLen; rw [if_pos he, h2, hn]
theorem record_parts (l b : List UInt8) : record l ++ b = be4 l.length ++ (be4 (Crc.sum 0 (be4 l.length ++ l)) ++ (l ++ b)) := by
  unfold record
  simp only [List.append_assoc]
theorem record_length (l : List UInt8) : (record l).length = 8 + l.length := by
  unfold record
  simp only [List.length_append, be4_length]
theorem get_record (l b : List UInt8) (hok : okLen l.length = true) : getErr (record l ++ b) = 0 ∧ getGet (record l ++ b) = l ∧ getLen (record l ++ b) = 8 + l.length := by
  have h2 := okLen_yes hok
  rw [record_parts]
  exact get_parts_get _ _ l b (be4_length _) (be4_length _) (beNum_be4 (by omega)) hok (beNum_be4 (Crc.sum_lt _ (by omega))).symm
end Go.Proofs.YtodjilljcjkacaaGreatDoor
/- Layer 13: all records that bytes begin with, as plain lists. -/
namespace Go.Proofs.YtodjilljcjkacaaGreatDoor
open Go.RowKit

theorem getErr_len {l : List UInt8} (h : getErr l = 0) : 9 ≤ getLen l ∧ getLen l ≤ l.length ∧ getLen l = 8 + (getGet l).length ∧ okLen (getGet l).length = true := by
  unfold getLen getGet
  rw [if_pos h, if_pos h]
  unfold getErr at h
  by_cases h8 : l.length < 8
  · rw [if_pos h8] at h; omega
  rw [if_neg h8] at h
  by_cases ho : okLen (beNum (l.take 4)) = false
  · rw [if_pos ho] at h; omega
  rw [if_neg ho] at h
  have ho : okLen (beNum (l.take 4)) = true := by
    cases hh : okLen (beNum (l.take 4)) with
    | true => rfl
    | false => exact absurd hh ho
  have hx := okLen_yes ho
  by_cases hk : l.length - 8 < beNum (l.take 4)
  · rw [if_pos hk] at h; omega
  have e : ((l.drop 8).take (beNum (l.take 4))).length = beNum (l.take 4) := by rw [List.length_take, List.length_drop]; omega
  rw [e]
  exact ⟨by omega, by omega, rfl, ho⟩

/-- what l begins with: the records, how many bytes they have, why there is no further one -/
def scanF : Nat → List UInt8 → List (List UInt8) × Nat × Int
  | 0, _ => ([], 0, 0)
  | f + 1, l => if l.length = 0 then ([], 0, 0) else if getErr l = 0 then (getGet l :: (scanF f (l.drop (getLen l))).1, getLen l + (scanF f (l.drop (getLen l))).2.1, (scanF f (l.drop (getLen l))).2.2) else ([], 0, getErr l)
theorem scanF_more : ∀ (f g : Nat) (l : List UInt8), l.length ≤ f → l.length ≤ g → scanF f l = scanF g l
  | 0, 0, _, _, _ => rfl
  | 0, g + 1, l, h, _ => by
    have h0 : l.length = 0 := by omega
    simp [scanF, h0]
  | f + 1, 0, l, _, h => by
    have h0 : l.length = 0 := by omega
    simp [scanF, h0]
  | f + 1, g + 1, l, h1, h2 => by
    unfold scanF
    by_cases h0 : l.length = 0
    · rw [if_pos h0, if_pos h0]
    rw [if_neg h0, if_neg h0]
    by_cases he : getErr l = 0
    · have hl := getErr_len he
      rw [if_pos he, if_pos he, scanF_more f g (l.drop (getLen l)) (by rw [List.length_drop]; omega) (by rw [List.length_drop]; omega)]
    · rw [if_neg he, if_neg he]
def scan (l : List UInt8) : List (List UInt8) × Nat × Int := scanF l.length l
theorem scan_nil : scan [] = ([], 0, 0) := rfl
theorem scan_err {l : List UInt8} (h0 : 0 < l.length) (h : getErr l ≠ 0) : scan l = ([], 0, getErr l) := by
  unfold scan
  obtain ⟨n, hn⟩ : ∃ n, l.length = n + 1 := ⟨l.length - 1, by omega⟩
  rw [hn]
  unfold scanF
  rw [if_neg (by omega), if_neg h]
theorem scan_ok {l : List UInt8} (h : getErr l = 0) : scan l = (getGet l :: (scan (l.drop (getLen l))).1, getLen l + (scan (l.drop (getLen l))).2.1, (scan (l.drop (getLen l))).2.2) := by
  have hl := getErr_len h
  unfold scan
  obtain ⟨n, hn⟩ : ∃ n, l.length = n + 1 := ⟨l.length - 1, by omega⟩
  have e := scanF_more n (l.drop (getLen l)).length (l.drop (getLen l)) (by rw [List.length_drop]; omega) (Nat.le_refl _)
  rw [hn]
  conv => lhs; unfold scanF
  rw [if_neg (by omega), if_pos h, e]
theorem scanF_len : ∀ (f : Nat) (l : List UInt8), (scanF f l).2.1 ≤ l.length
  | 0, l => Nat.zero_le _
  | f + 1, l => by
    unfold scanF
    by_cases h0 : l.length = 0
    · rw [if_pos h0]; exact Nat.zero_le _
    rw [if_neg h0]
    by_cases he : getErr l = 0
    · have hl := getErr_len he
      have ih := scanF_len f (l.drop (getLen l))
      rw [List.length_drop] at ih
      rw [if_pos he]
      show getLen l + _ ≤ _
      omega
    · rw [if_neg he]; exact Nat.zero_le _
theorem scan_len (l : List UInt8) : (scan l).2.1 ≤ l.length := scanF_len _ _
/-- as far as place p: acc was found there -/
def ScanAt (l : List UInt8) (p : Nat) (acc : List (List UInt8)) : Prop :=
  p ≤ l.length ∧ 9 * acc.length ≤ p ∧ (scan l).1 = acc ++ (scan (l.drop p)).1 ∧ (scan l).2.1 = p + (scan (l.drop p)).2.1 ∧ (scan l).2.2 = (scan (l.drop p)).2.2 ∧ (∀ x ∈ acc, okLen x.length = true)
theorem ScanAt.start (l : List UInt8) : ScanAt l 0 [] := ⟨Nat.zero_le _, Nat.le_refl _, by simp, by simp, by simp, by simp⟩
theorem ScanAt.more {l : List UInt8} {p : Nat} {acc : List (List UInt8)} (h : ScanAt l p acc) (he : getErr (l.drop p) = 0) : ScanAt l (p + getLen (l.drop p)) (acc ++ [getGet (l.drop p)]) := by
  obtain ⟨h1, h2, h3, h4, h5, h6⟩ := h
  have hl := getErr_len he
  have hs := scan_ok he
  rw [List.length_drop] at hl
  rw [List.drop_drop] at hs
  refine ⟨by omega, by rw [List.length_append, List.length_singleton]; omega, ?_, ?_, ?_, fun x hx => ?_⟩
  · rw [h3, hs]; simp
  · rw [h4, hs]; simp; omega
  · rw [h5, hs]
  · rcases List.mem_append.1 hx with hx | hx
    · exact h6 x hx
    · simp at hx; rw [hx]; exact hl.2.2.2
theorem ScanAt.stop {l : List UInt8} {p : Nat} {acc : List (List UInt8)} (h : ScanAt l p acc) (hp : p < l.length) (he : getErr (l.drop p) ≠ 0) : scan l = (acc, p, getErr (l.drop p)) := by
  obtain ⟨h1, h2, h3, h4, h5, _⟩ := h
  have hs := scan_err (l := l.drop p) (by rw [List.length_drop]; omega) he
  rw [hs] at h3 h4 h5
  refine Prod.ext (by simpa using h3) (Prod.ext (by simpa using h4) h5)
theorem ScanAt.all {l : List UInt8} {p : Nat} {acc : List (List UInt8)} (h : ScanAt l p acc) (hp : p = l.length) : scan l = (acc, p, 0) := by
  obtain ⟨h1, h2, h3, h4, h5, _⟩ := h
  rw [hp, List.drop_length, scan_nil] at h3 h4 h5
  exact Prod.ext (by simpa using h3) (Prod.ext (by simpa [hp] using h4) h5)
end Go.Proofs.YtodjilljcjkacaaGreatDoor
/- Layer 13: two rows of records behind each other, as plain lists. -/
namespace Go.Proofs.YtodjilljcjkacaaGreatDoor
open Go.RowKit

end Go.Proofs.YtodjilljcjkacaaGreatDoor
/- Layer 13: records behind each other, cut anywhere, as plain lists. -/
namespace Go.Proofs.YtodjilljcjkacaaGreatDoor
open Go.RowKit

/-- how many of them are whole in k bytes, and how many bytes these have -/
def cutI : List (List UInt8) → Nat → Nat × Nat
  | [], _ => (0, 0)
  | b :: r, k => if k < 8 + b.length then (0, 0) else ((cutI r (k - (8 + b.length))).1 + 1, 8 + b.length + (cutI r (k - (8 + b.length))).2)
def recs (own : List (List UInt8)) : List UInt8 := (own.map record).flatten
theorem recs_cons (b : List UInt8) (r : List (List UInt8)) : recs (b :: r) = record b ++ recs r := by simp [recs]
theorem recs_snoc (L : List (List UInt8)) (b : List UInt8) : recs (L ++ [b]) = recs L ++ record b := by simp [recs]

theorem get_short {b : List UInt8} (hok : okLen b.length = true) (k : Nat) (hk : k < 8 + b.length) : getErr ((record b).take k) = 7 := by
  unfold getErr
  have hl : ((record b).take k).length = k := by rw [List.length_take, record_length]; omega
  by_cases h8 : k < 8
  · rw [if_pos (by omega)]
  have e4 : ((record b).take k).take 4 = be4 b.length := by
    rw [List.take_take, show min 4 k = 4 from by omega]
    unfold record
    rw [List.append_assoc, List.take_append_of_le_length (by simp [be4]), List.take_of_length_le (by simp [be4])]
  have hb := okLen_yes hok
  rw [if_neg (by omega), e4, beNum_be4 (by omega), if_neg (by rw [hok]; decide), if_pos (by omega)]

theorem cut_scan : ∀ (own : List (List UInt8)) (k : Nat), (∀ x ∈ own, okLen x.length = true) → k ≤ (recs own).length →
    scan ((recs own).take k) = (own.take (cutI own k).1, (cutI own k).2, if (cutI own k).2 = k then 0 else 7)
  | [], k, _, hk => by
    have h0 : k = 0 := by simpa [recs] using hk
    subst h0
    rfl
  | b :: r, k, hok, hk => by
    have hb := hok b (by simp)
    rw [recs_cons] at hk ⊢
    by_cases hlt : k < 8 + b.length
    · have hc : cutI (b :: r) k = (0, 0) := by simp [cutI, hlt]
      rw [hc, List.take_append_of_le_length (by rw [record_length]; omega)]
      by_cases h0 : k = 0
      · subst h0
        simp [scan_nil]
      · have he := get_short hb k hlt
        have hl : ((record b).take k).length = k := by rw [List.length_take, record_length]; omega
        rw [scan_err (by omega) (by omega), he, if_neg (by omega)]
        rfl
    · obtain ⟨j, hj⟩ : ∃ j, k = 8 + b.length + j := ⟨k - (8 + b.length), by omega⟩
      subst hj
      have hc : cutI (b :: r) (8 + b.length + j) = ((cutI r j).1 + 1, 8 + b.length + (cutI r j).2) := by
        simp only [cutI, if_neg hlt, show 8 + b.length + j - (8 + b.length) = j from by omega]
      have ht : (record b ++ recs r).take (8 + b.length + j) = record b ++ (recs r).take j := by
        rw [List.take_append, List.take_of_length_le (by rw [record_length]; omega), record_length, show 8 + b.length + j - (8 + b.length) = j from by omega]
      obtain ⟨g1, g2, g3⟩ := get_record b ((recs r).take j) hb
      have hs := scan_ok g1
      have hd : (record b ++ (recs r).take j).drop (8 + b.length) = (recs r).take j := List.drop_left' (by rw [record_length])
      have ih := cut_scan r j (fun x hx => hok x (List.mem_cons_of_mem _ hx)) (by rw [List.length_append, record_length] at hk; omega)
      rw [g2, g3, hd, ih] at hs
      rw [ht, hs, hc]
      refine Prod.ext (by simp) (Prod.ext rfl ?_)
      show (if (cutI r j).2 = j then (0 : Int) else 7) = if 8 + b.length + (cutI r j).2 = 8 + b.length + j then 0 else 7
      by_cases h : (cutI r j).2 = j
      · rw [if_pos h, if_pos (by omega)]
      · rw [if_neg h, if_neg (by omega)]
/-- ahead of the i-th -/
def CutAt (own : List (List UInt8)) (k i at_ : Nat) : Prop := i ≤ own.length ∧ at_ ≤ k ∧ (cutI own k).1 = i + (cutI (own.drop i) (k - at_)).1 ∧ (cutI own k).2 = at_ + (cutI (own.drop i) (k - at_)).2
theorem CutAt.start (own : List (List UInt8)) (k : Nat) : CutAt own k 0 0 := ⟨Nat.zero_le _, Nat.zero_le _, by simp, by simp⟩
theorem drop_cons {own : List (List UInt8)} {i : Nat} (h : i < own.length) : own.drop i = own.getD i [] :: own.drop (i + 1) := by
  rw [List.drop_eq_getElem_cons h, List.getD_eq_getElem?_getD, List.getElem?_eq_getElem h]
  rfl
theorem CutAt.more {own : List (List UInt8)} {k i at_ : Nat} (h : CutAt own k i at_) (hi : i < own.length) (hk : ¬ k < at_ + (8 + (own.getD i []).length)) : CutAt own k (i + 1) (at_ + (8 + (own.getD i []).length)) := by
  obtain ⟨h1, h2, h3, h4⟩ := h
  rw [drop_cons hi] at h3 h4
  have e : cutI (own.getD i [] :: own.drop (i + 1)) (k - at_) = ((cutI (own.drop (i + 1)) (k - (at_ + (8 + (own.getD i []).length)))).1 + 1, 8 + (own.getD i []).length + (cutI (own.drop (i + 1)) (k - (at_ + (8 + (own.getD i []).length)))).2) := by
    rw [cutI, if_neg (by omega), Nat.sub_sub]
  rw [e] at h3 h4
  simp only at h3 h4
  exact ⟨by omega, by omega, by omega, by omega⟩
theorem CutAt.stop {own : List (List UInt8)} {k i at_ : Nat} (h : CutAt own k i at_) (hi : i < own.length) (hk : k < at_ + (8 + (own.getD i []).length)) : cutI own k = (i, at_) := by
  obtain ⟨h1, h2, h3, h4⟩ := h
  rw [drop_cons hi, cutI, if_pos (by omega)] at h3 h4
  exact Prod.ext h3 h4
theorem CutAt.all {own : List (List UInt8)} {k i at_ : Nat} (h : CutAt own k i at_) (hi : i = own.length) : cutI own k = (i, at_) := by
  obtain ⟨h1, h2, h3, h4⟩ := h
  rw [hi, List.drop_length, cutI] at h3 h4
  exact Prod.ext (by rw [h3, hi]; rfl) h4
end Go.Proofs.YtodjilljcjkacaaGreatDoor
/- Rows of rows of bytes in memory, as they are read. No condition. -/
namespace Go.Proofs.YtodjilljcjkacaaGreatDoor
open Go.RowKit

theorem rowsInfo : (Tryz.prog.info? 40).map (fun i => (i.zero, i.size, i.bytes)) = some (some (.slice none 0 0), 1, 24) := by kernel_rfl
/-- the slice '.slice A n c' reads as the rows L -/
def Rd (w : World) (A : Option Addr) (n c : Nat) (L : List (List UInt8)) : Prop :=
  L.length = n ∧ n ≤ c ∧ c ≤ maxLen ∧ (0 < n → ∃ b o, A = some ⟨b, o, none⟩ ∧ b < w.heap.size ∧ ∀ (i : Nat) (x : List UInt8), L[i]? = some x → ∃ Ai ci, w.cell? ⟨b, o + i, none⟩ = some (.slice Ai x.length ci) ∧ Bs w Ai x.length ci x)
theorem Rd.nmax {w : World} {A : Option Addr} {n c : Nat} {L : List (List UInt8)} (h : Rd w A n c L) : n ≤ 9223372036854775807 := by
  have := h.2.1
  have := h.2.2.1
  simp only [maxLen] at this
  omega
theorem Rd.below {w w' : World} {A : Option Addr} {n c : Nat} {L : List (List UInt8)} (h : Rd w A n c L) (hb : Below w.heap.size w w') : Rd w' A n c L :=
  ⟨h.1, h.2.1, h.2.2.1, fun hn => by
    obtain ⟨b, o, e, hlt, hc⟩ := h.2.2.2 hn
    exact ⟨b, o, e, Nat.lt_of_lt_of_le hlt hb.size, fun i x hx => by
      obtain ⟨Ai, ci, h1, h2⟩ := hc i x hx
      exact ⟨Ai, ci, (hb.cell (p := ⟨b, o + i, none⟩) hlt).trans h1, h2.below hb⟩⟩⟩
theorem Rd.read {w : World} {A : Option Addr} {n c : Nat} {L : List (List UInt8)} (h : Rd w A n c L) {i : Nat} (hi : i < n) : ∃ b o Ai ci, A = some ⟨b, o, none⟩ ∧ b < w.heap.size ∧ w.cell? ⟨b, o + i, none⟩ = some (.slice Ai (L.getD i []).length ci) ∧ Bs w Ai (L.getD i []).length ci (L.getD i []) := by
  obtain ⟨b, o, e, hlt, hc⟩ := h.2.2.2 (by omega)
  obtain ⟨Ai, ci, h1, h2⟩ := hc i (L.getD i []) (by rw [List.getD_eq_getElem?_getD, List.getElem?_eq_getElem (by rw [h.1]; exact hi)]; rfl)
  exact ⟨b, o, Ai, ci, e, hlt, h1, h2⟩
theorem Rd.drop {w : World} {A : Option Addr} {n c : Nat} {L : List (List UInt8)} (h : Rd w A n c L) {q : Nat} (hq : q ≤ n) : Rd w (if c = q then A else Option.map (fun x => x.add q) A) (n - q) (c - q) (L.drop q) := by
  obtain ⟨h1, h2, h3, h4⟩ := h
  refine ⟨by rw [List.length_drop, h1], by omega, by omega, fun hn => ?_⟩
  obtain ⟨b, o, rfl, hlt, hc⟩ := h4 (by omega)
  rw [if_neg (by omega)]
  refine ⟨b, o + q, by rw [Option.map_some, Addr.add_lit], hlt, fun i x hx => ?_⟩
  rw [List.getElem?_drop] at hx
  obtain ⟨Ai, ci, h5, h6⟩ := hc (q + i) x hx
  exact ⟨Ai, ci, by rw [Nat.add_assoc]; exact h5, h6⟩
end Go.Proofs.YtodjilljcjkacaaGreatDoor
