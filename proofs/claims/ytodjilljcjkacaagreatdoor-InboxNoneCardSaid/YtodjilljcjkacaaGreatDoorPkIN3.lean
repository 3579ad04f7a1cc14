/- Laid together: SegP, Builder, SegQ, Delim, Delim2, Delim3, Delim3b, Delim3c, Delim3d, Delim3e, Delim4, Held, Conv, DelimMath, Ref06, Ref06a, Ref06b, Ref06c, Ref06d, Ref06e, Ref06f, MshA, Msh1, Msh2, Msh3. -/
import Derived.Test.YtodjilljcjkacaaGreatDoorPkIN2
import Derived.Lib.IndexLaws
import Derived.RangeFuncNested
import Derived.RangeFuncBound
import Derived.RangeFuncCalls
import Derived.RangeFuncLeaves
import Derived.Shelf.Abstract
import Derived.Shelf.RegionOpen
import Derived.OwnWalkIn
import Derived.TacticsInMore
import Derived.LoopNIn
import Derived.LoopIn
import Derived.LoopTactic
import Derived.RegionTactic
import Derived.BigRegion
import Derived.Deep.RegionHeld3
import Derived.RangeFuncBox
import Derived.Maps.AppendAt
import Derived.Lib.Builder
import Derived.Lib.AppendStr
import Derived.Lib.UnsafeStr
import Derived.Laws.Externs
import Derived.BigQuiet
import Derived.Deep.RegionLaw
import Derived.Lib.Bytealg
import Derived.Laws.StructEq
import Derived.Lib.BufferMore
import Derived.Lib.ConvBytes
import Derived.Deep.AppendSrc
import Derived.OpenShut
import Derived.Lib.LaidTab

/- Laid together: Seg1, Seg2, Seg3, Seg4, Seg5, SegAlive, SegCounts, Seg6, Seg7. -/

/- Layer 8: what the iterator of texts gives. -/
namespace Go.Proofs.YtodjilljcjkacaaGreatDoor
open Go.RowKit Go.Shelf
attribute [local go_sem] Oper.semAt_some

theorem cut_no {l : List UInt8} {c : UInt8} (h : Lib.indexByte l c < 0) : cutAt c l = [l] := by
  have h1 := Lib.indexByte_ge l c
  have h2 : Lib.indexByte l c = -1 := by omega
  refine cutAt_none c l fun hm => ?_
  obtain ⟨k, hk, e⟩ := List.mem_iff_getElem.1 hm
  exact Lib.indexByte_none h2 k (by rw [List.getElem?_eq_getElem hk, e])
theorem cut_yes {l : List UInt8} {c : UInt8} {o : Nat} (h : Lib.indexByte l c = o) : o < l.length ∧ cutAt c l = l.take o :: cutAt c (l.drop (o + 1)) := by
  obtain ⟨h1, h2⟩ := Lib.indexByte_some h
  obtain ⟨hlt, he⟩ := List.getElem?_eq_some_iff.1 h1
  refine ⟨hlt, ?_⟩
  have hc : c ∉ l.take o := by
    intro hm
    obtain ⟨k, hk, e⟩ := List.mem_iff_getElem.1 hm
    rw [List.length_take] at hk
    refine h2 k (by omega) ?_
    rw [List.getElem_take] at e
    rw [List.getElem?_eq_getElem (by omega), e]
  have := cutAt_clean c (l.drop (o + 1)) (l.take o) hc
  rw [← this]
  congr 1
  conv => lhs; rw [← List.take_append_drop o l, List.drop_eq_getElem_cons hlt, he]
theorem ex_take (r : ByteArray) (i : Nat) : txt (r.data.toList.take i) = r.extract 0 i := by
  apply ByteArray.ext
  apply Array.toList_inj.1
  rw [ByteArray.data_extract, Array.toList_extract, List.extract_eq_take_drop]
  simp
theorem ex_drop (r : ByteArray) (i : Nat) : (r.extract i r.size).data.toList = r.data.toList.drop i := by
  rw [ByteArray.data_extract, Array.toList_extract, List.extract_eq_take_drop]
  rw [List.take_of_length_le]
  rw [List.length_drop, Array.length_toList]
  exact Nat.le_refl _
theorem u8_back (c : UInt8) : ((c.toNat : Nat) : Int).toNat.toUInt8 = c := by simp

/-- one block lies as it lay -/
def KeepsB (b : Nat) (A B : World) : Prop := B.heap[b]? = A.heap[b]?
theorem KeepsB.cell {b i : Nat} {A B : World} (h : KeepsB b A B) : B.cell? ⟨b, i, none⟩ = A.cell? ⟨b, i, none⟩ := by
  unfold World.cell?
  rw [show B.heap[(⟨b, i, none⟩ : Addr).block]? = A.heap[b]? from h]
theorem keepsB_t {b : Nat} {A B C : World} (h : KeepsB b A B) (k : KeepsB b B C) : KeepsB b A C := Eq.trans k h
theorem keepsB_b {b : Nat} {w : World} (hb : b < w.heap.size) (W : World) (l : Nat) (o o' : Obj) (hl : w.heap.size ≤ l) (_ : W.heap[l]? = some o) (_ : o.isCells = false) (_ : o.isWalk = false) : KeepsB b W (W.putObj l o') :=
  World.putObj_heap_other (by omega)
theorem KeepsB.setCell {b : Nat} {A B : World} (h : KeepsB b A B) {p : Addr} (hp : b ≠ p.block) (v : Value) : KeepsB b A (B.setCell p v) := (Below.heap_setCell B p v b hp).trans h
theorem KeepsB.drew {b : Nat} {A B : World} (h : KeepsB b A B) : KeepsB b A B.drew := h
theorem KeepsB.below {b n : Nat} {A B : World} (h : Below n A B) (hb : b < n) : KeepsB b A B := h.block b hb
theorem KeepsB.refl (b : Nat) (A : World) : KeepsB b A A := rfl
theorem KeepsB.alloc {b : Nat} {A B : World} (h : KeepsB b A B) (hb : b < B.heap.size) (o : Obj) : KeepsB b A (B.alloc o) := (Below.heap_alloc B o b hb).trans h

set_option maxHeartbeats 4000000 in
set_option maxRecDepth 100000 in
theorem texts_in (n : Nat) (hn : 2 ≤ n) (l Bs Bc : Nat) (s : ByteArray) (c : UInt8) (J Jx : List (List UInt8) → World → Prop) (hs : s.size ≤ 9223372036854775807)
    (hY : ∀ pre x W1, J pre W1 → pre.length < (cutAt c s.data.toList).length → YieldAt Fence.wide (n - 1) Tryz.prog l #[str x] W1 fun e W' => (e = .returned (.bool true) ∧ J (pre ++ [x]) W' ∧ KeepsB Bc W1 W') ∨ (e = .returned (.bool false) ∧ Jx (pre ++ [x]) W'))
    (W : World) (hBs : W.cell? ⟨Bs, 0, none⟩ = some (.string s)) (hBc : W.cell? ⟨Bc, 0, none⟩ = some (u8 c)) (h0 : J [] W) :
    CallsIn Fence.wide n Tryz.prog 151 #[.func (.yield l) #[] #[], .pointer (some ⟨Bs, 0, none⟩), .pointer (some ⟨Bc, 0, none⟩)] W fun e W' => (∃ v, e = .returned v) ∧ ((∃ xs, xs = cutAt c s.data.toList ∧ J xs W') ∨ (∃ pre, pre <+: cutAt c s.data.toList ∧ Jx pre W')) := by
  have h1 : 1 ≤ n := by omega
  refine callsIn_of_wp Tryz.func151 rfl trivial ?_ rfl
  simp only [Tryz.ntmps151, List.size_toArray, List.length_cons, List.length_nil, Nat.reduceAdd, Nat.reduceSub, Array.replicate_succ, Array.replicate_zero, List.push_toArray, List.append_toArray, List.nil_append, List.cons_append]
  gi_wp2
  gi_loopw [4] (fun p wr => ∃ (pre : List (List UInt8)) (r : ByteArray), p = .string r ∧ r.size ≤ s.size ∧ cutAt c s.data.toList = pre ++ cutAt c r.data.toList ∧ wr.cell? ⟨Bc, 0, none⟩ = some (u8 c) ∧ J pre wr)
    (fun p _ => match p with | .string r => r.size | _ => 0)
  case atStart => exact ⟨[], s, rfl, Nat.le_refl _, rfl, hBc, h0⟩
  case round =>
    obtain ⟨pre, r, rfl, hrs, hcut, hc, hJ⟩ := hrel
    have HJ := Lib.hid hJ
    have HY := Lib.hid hY
    have HS := Lib.hid (And.intro hs hrs)
    have HCUT := Lib.hid hcut
    clear hJ hY hs hrs hcut h0 hBs hBc
    by_cases hno : Lib.indexByte r.data.toList c < 0
    · have hneg : Lib.indexByte r.data.toList c = -1 := by have := Lib.indexByte_ge r.data.toList c; omega
      have HCN := Lib.hid (cut_no (l := r.data.toList) (c := c) hno)
      obtain ⟨fn, tmps, assign, body, hy, hR⟩ := HY.out pre r.data.toList wr HJ.out (by rw [HCUT.out, HCN.out]; simp)
      rw [show str r.data.toList = .string r from rfl] at hy
      have HR := Lib.hid hR
      clear hno hR
      gi_wp2
      refine ⟨trivial, (callsIn_wide.2 (Tryz.strings_IndexByte r (c.toNat : Int) wr)).mono ?_⟩
      rintro e w1 ⟨rfl, rfl⟩
      rw [u8_back, hneg]
      gi_wp2
      refine HR.out.mono ?_
      have hlast : cutAt c s.data.toList = pre ++ [r.data.toList] := by rw [HCUT.out, HCN.out]
      rintro e W3 (⟨rfl, hJ3, hk3⟩ | ⟨rfl, hJx3⟩)
      · gi_wp2
        refine bodyPost_ret (results_none rfl _ _ _) rfl ?_
        exact ⟨⟨_, rfl⟩, .inl ⟨_, rfl, by rw [hlast]; exact hJ3⟩⟩
      · gi_wp2
        refine bodyPost_ret (results_none rfl _ _ _) rfl ?_
        exact ⟨⟨_, rfl⟩, .inr ⟨_, ⟨[], by rw [hlast]; simp⟩, hJx3⟩⟩
    · obtain ⟨o, ho⟩ : ∃ o : Nat, Lib.indexByte r.data.toList c = o := ⟨(Lib.indexByte r.data.toList c).toNat, by omega⟩
      obtain ⟨hlt, hcy⟩ := cut_yes ho
      have hro : o < r.size := by simpa using hlt
      have HCY := Lib.hid hcy
      have hd0 : decide ((o : Int) < 0) = false := by simp
      have ew : IntKind.i64.wrap ((o : Int) + 1) = ((o + 1 : Nat) : Int) := by have := HS.out; rw [IntKind.wrap_i64]; omega
      obtain ⟨fn, tmps, assign, body, hy, hR⟩ := HY.out pre (r.data.toList.take o) wr HJ.out (by rw [HCUT.out, hcy]; simp)
      rw [show str (r.data.toList.take o) = .string (r.extract 0 o) by rw [← ex_take]] at hy
      have HR := Lib.hid hR
      clear hcy hlt hno hR
      gi_wp2
      refine ⟨trivial, (callsIn_wide.2 (Tryz.strings_IndexByte r (c.toNat : Int) wr)).mono ?_⟩
      rintro e w1 ⟨rfl, rfl⟩
      rw [u8_back, ho]
      gi_wp2
      refine HR.out.mono ?_
      rintro e W3 (⟨rfl, hJ3, hk3⟩ | ⟨rfl, hJx3⟩)
      · have hc3 : W3.cell? ⟨Bc, 0, none⟩ = some (.int .u8 (c.toNat : Int)) := hk3.cell.trans hc
        gi_wp2
        go_roundw
        case rel => exact ⟨pre ++ [r.data.toList.take o], r.extract (o + 1) r.size, rfl, by have := HS.out; rw [ByteArray.size_extract]; omega, by rw [HCUT.out, HCY.out, ex_drop]; simp, hc3, hJ3⟩
        case measure => simp only [ByteArray.size_extract]; omega
      · gi_wp2
        refine bodyPost_ret (results_none rfl _ _ _) rfl ?_
        exact ⟨⟨_, rfl⟩, .inr ⟨pre ++ [r.data.toList.take o], ⟨cutAt c (r.data.toList.drop (o + 1)), by rw [HCUT.out, HCY.out]; simp⟩, hJx3⟩⟩

/-- the iterator of a text that lies in the box Bs, its sign in the box Bc -/
theorem texts_stops (n : Nat) (hn : 2 ≤ n) (Bs Bc : Nat) (s : ByteArray) (c : UInt8) (hs : s.size ≤ 9223372036854775807) {w : World}
    (hBs : w.cell? ⟨Bs, 0, none⟩ = some (.string s)) (hBc : w.cell? ⟨Bc, 0, none⟩ = some (u8 c)) (hls : Bs < w.heap.size) (hlc : Bc < w.heap.size) :
    SeqStopsK Fence.wide n Tryz.prog 151 #[.pointer (some ⟨Bs, 0, none⟩), .pointer (some ⟨Bc, 0, none⟩)] (fun x : List UInt8 => #[str x]) (KeepsB Bc) (fun xs => xs = cutAt c s.data.toList) (fun pre => pre <+: cutAt c s.data.toList) (cutAt c s.data.toList).length w := by
  intro l J Jx W hW hJ hJx hY h0
  exact texts_in n hn l Bs Bc s c J Jx hs hY W ((hW.cell (p := ⟨Bs, 0, none⟩) hls).trans hBs) ((hW.cell (p := ⟨Bc, 0, none⟩) hlc).trans hBc) h0

theorem texts_ (s : ByteArray) (c : UInt8) (w : World) : Calls Tryz.prog 105 #[.string s, u8 c] w fun e w' => e = .returned (.func (.func 151) #[] #[.pointer (some ⟨w.heap.size, 0, none⟩), .pointer (some ⟨w.heap.size + 1, 0, none⟩)]) ∧ w' = (w.alloc (.cells #[.string s] 9)).alloc (.cells #[u8 c] 5) := by
  have hmf : ∀ (fn : Fn) (first cap : Array Value) (w : World), (Instr.makeFunc fn first cap).run Tryz.prog w = .ok (.func fn first cap) w := fun _ _ _ _ => rfl
  go_enter Tryz.func105, Tryz.ntmps105
  go_wp2_with (fail)
  go_ret
  exact ⟨rfl, rfl⟩
end Go.Proofs.YtodjilljcjkacaaGreatDoor

/- Layer 8: how many texts, the n-th, walked. -/
namespace Go.Proofs.YtodjilljcjkacaaGreatDoor
open Go.RowKit Go.Shelf
attribute [local go_sem] Oper.semAt_some

end Go.Proofs.YtodjilljcjkacaaGreatDoor

/- Layer 8: the n-th text, walked. -/
namespace Go.Proofs.YtodjilljcjkacaaGreatDoor
open Go.RowKit Go.Shelf
attribute [local go_sem] Oper.semAt_some

/-- the n-th of them, from 1 on -/
def nthD (T : List (List UInt8)) (n : Int) : Option (List UInt8) := if 1 ≤ n then T[(n - 1).toNat]? else none

theorem nthD_last {T pre : List (List UInt8)} {x : List UInt8} {n : Int} (hp : pre ++ [x] <+: T) (hn : ((pre.length + 1 : Nat) : Int) = n) : nthD T n = some x := by
  obtain ⟨r, rfl⟩ := hp
  unfold nthD
  rw [if_pos (by omega), show (n - 1).toNat = pre.length by omega]
  simp
theorem nthD_none {T : List (List UInt8)} {n : Int} (h : ¬ (1 ≤ n ∧ n ≤ (T.length : Int))) : nthD T n = none := by
  unfold nthD
  split
  · exact List.getElem?_eq_none (by omega)
  · rfl

/-- what nth's cells hold in a round -/
structure NthI (N : Nat) (n : Int) (v1 : Value) (b : Bool) (k : Nat) (W : World) : Prop where
  bn : Boxed W N 3 (.int .i64 n)
  b1 : Boxed W (N + 1) 9 v1
  b2 : Boxed W (N + 1 + 1) 4 (.bool b)
  bk : Boxed W (N + 1 + 1 + 1) 3 (.int .i64 ((k : Nat) : Int))

theorem nthI_own {β : Type} (N : Nat) (n : Int) (v1 : β → Value) (b : Bool) (k : β → Nat) : Go.Own (fun (s : β) W => NthI N n (v1 s) b (k s) W) := fun s A B row hs hg hr =>
  ⟨boxed_own (β := β) N _ (fun _ => _) s A B row hs.bn hg hr, boxed_own (β := β) (N + 1) _ v1 s A B row hs.b1 hg hr, boxed_own (β := β) (N + 1 + 1) _ (fun _ => _) s A B row hs.b2 hg hr, boxed_own (β := β) (N + 1 + 1 + 1) _ (fun s => .int .i64 ((k s : Nat) : Int)) s A B row hs.bk hg hr⟩

theorem NthI.count {N : Nat} {n : Int} {v : Value} {b : Bool} {k : Nat} {W : World} (h : NthI N n v b k W) : NthI N n v b (k + 1) (W.setCell ⟨N + 1 + 1 + 1, 0, none⟩ (.int .i64 ((k : Int) + 1))) :=
  ⟨h.bn.other (by omega) _, h.b1.other (by omega) _, h.b2.other (by omega) _, h.bk.set _⟩
theorem NthI.tell {N : Nat} {n : Int} {v : Value} {b : Bool} {k : Nat} {W : World} (h : NthI N n v b k W) (v' : Value) (b' : Bool) : NthI N n v' b' k ((W.setCell ⟨N + 1, 0, none⟩ v').setCell ⟨N + 1 + 1, 0, none⟩ (.bool b')) :=
  ⟨(h.bn.other (by omega) _).other (by omega) _, (h.b1.set _).other (by omega) _, (h.b2.other (by omega) _).set _, (h.bk.other (by omega) _).other (by omega) _⟩
theorem getLastD_snoc (pre : List (List UInt8)) (x : List UInt8) : (pre ++ [x]).getLastD [] = x := by simp [List.getLastD_eq_getLast?]

set_option maxHeartbeats 4000000 in
set_option maxRecDepth 100000 in
theorem nth_ (s : ByteArray) (c : UInt8) (n : Int) (w : World) (hs : s.size ≤ 9223372036854775806) : Calls Tryz.prog 106 #[.string s, u8 c, .int .i64 n] w fun e w' => e = .returned (.tuple #[str ((nthD (cutAt c s.data.toList) n).getD []), .bool (nthD (cutAt c s.data.toList) n).isSome]) ∧ Below w.heap.size w w' := by
  refine (callsIn_wide (n := 9)).1 ?_
  have HS := Lib.hid hs
  have HL : Hid ((cutAt c s.data.toList).length ≤ 9223372036854775807) := Lib.hid (by rw [cutAt_length]; have := List.count_le_length (a := c) (l := s.data.toList); have := s.size_data; simp at *; omega)
  clear hs
  refine callsIn_of_wp_marks Tryz.func106 rfl trivial ?_ rfl
  simp only [Tryz.ntmps106, List.size_toArray, List.length_cons, List.length_nil, Nat.reduceAdd, Nat.reduceSub, Array.replicate_succ, Array.replicate_zero, List.push_toArray, List.append_toArray, List.nil_append, List.cons_append]
  gi_wp2
  refine ⟨trivial, (callsIn_wide.2 (texts_ s c _)).mono ?_⟩
  rintro e w1 ⟨rfl, rfl⟩
  gi_wp2
  obtain ⟨N, hN⟩ : ∃ N, N = w.heap.size := ⟨_, rfl⟩
  obtain ⟨W0, hW0⟩ : ∃ W0, ((((((w.alloc (.cells #[.int .i64 n] 3)).alloc (.cells #[.string { data := #[] }] 9)).alloc (.cells #[.bool false] 4)).alloc (.cells #[.int .i64 0] 3)).alloc (.cells #[.string s] 9)).alloc (.cells #[u8 c] 5)) = W0 := ⟨_, rfl⟩
  have hI0 : NthI N n (.string { data := #[] }) false 0 W0 := by
    rw [← hW0, hN]
    refine ⟨(((((Boxed.new w 3 _).alloc _).alloc _).alloc _).alloc _).alloc _, ?_, ?_, ?_⟩
    · have := Boxed.new (w.alloc (.cells #[.int .i64 n] 3)) 9 (.string { data := #[] })
      rw [World.size_alloc] at this
      exact (((this.alloc _).alloc _).alloc _).alloc _
    · have := Boxed.new ((w.alloc (.cells #[.int .i64 n] 3)).alloc (.cells #[.string { data := #[] }] 9)) 4 (.bool false)
      rw [World.size_alloc, World.size_alloc] at this
      exact ((this.alloc _).alloc _).alloc _
    · have := Boxed.new (((w.alloc (.cells #[.int .i64 n] 3)).alloc (.cells #[.string { data := #[] }] 9)).alloc (.cells #[.bool false] 4)) 3 (.int .i64 0)
      rw [World.size_alloc, World.size_alloc, World.size_alloc] at this
      exact (this.alloc _).alloc _
  have cs : Boxed W0 (N + 1 + 1 + 1 + 1) 9 (.string s) := by
    have := Boxed.new ((((w.alloc (.cells #[.int .i64 n] 3)).alloc (.cells #[.string { data := #[] }] 9)).alloc (.cells #[.bool false] 4)).alloc (.cells #[.int .i64 0] 3)) 9 (.string s)
    simp only [World.size_alloc] at this
    rw [← hW0, hN]; exact this.alloc _
  have cc : Boxed W0 (N + 1 + 1 + 1 + 1 + 1) 5 (u8 c) := by
    have := Boxed.new (((((w.alloc (.cells #[.int .i64 n] 3)).alloc (.cells #[.string { data := #[] }] 9)).alloc (.cells #[.bool false] 4)).alloc (.cells #[.int .i64 0] 3)).alloc (.cells #[.string s] 9)) 5 (u8 c)
    simp only [World.size_alloc] at this
    rw [← hW0, hN]; exact this
  have hsz : W0.heap.size = N + 6 := by rw [← hW0, hN]; simp
  have hb0 : Below N w W0 := by
    rw [← hW0, hN]
    exact ((((((Below.refl _ w).alloc (Nat.le_refl _) _).alloc (by simp) _).alloc (by simp; omega) _).alloc (by simp; omega) _).alloc (by simp; omega) _).alloc (by simp; omega) _
  rw [hW0, ← hN]
  have HN := Lib.hid hN
  clear hW0 hN
  refine wpIn_rangeFunc_ownF rfl (by decide) (gf := 151) (lb := #[.pointer (some ⟨N + 1 + 1 + 1 + 1, 0, none⟩), .pointer (some ⟨N + 1 + 1 + 1 + 1 + 1, 0, none⟩)]) rfl trivial (enters_of Tryz.func151 (by kernel_rfl) rfl)
    (texts_stops _ (by decide) (N + 1 + 1 + 1 + 1) (N + 1 + 1 + 1 + 1 + 1) s c (by have := HS.out; omega) cs.cell cc.cell (by omega) (by omega)) keepsB_t (keepsB_b (by omega)) (Below.refl _ _) (fun _ => rfl)
    (fun pre W => (NthI N n (.string { data := #[] }) false pre.length W ∧ Below N w W) ∧ ¬ (1 ≤ n ∧ n ≤ (pre.length : Int)))
    (fun c pre W => (NthI N n (str (pre.getLastD [])) true pre.length W ∧ Below N w W) ∧ c = .ret ∧ ((pre.length : Nat) : Int) = n ∧ pre ≠ [])
    (OwnFrom.and (OwnFrom.and (Own.from (nthI_own N n (fun _ => .string { data := #[] }) false (fun pre : List (List UInt8) => pre.length)) _) (ownFrom_below (by rw [HN.out]; exact Nat.le_refl _) (by omega))) (ownFrom_pure _ _))
    (fun c => OwnFrom.and (OwnFrom.and (Own.from (nthI_own N n (fun pre : List (List UInt8) => str (pre.getLastD [])) true (fun pre : List (List UInt8) => pre.length)) _) (ownFrom_below (by rw [HN.out]; exact Nat.le_refl _) (by omega))) (ownFrom_pure _ _))
    ⟨⟨hI0, hb0⟩, by simp; omega⟩
    (fun x => { tmps := #[.string s, u8 c, .int .i64 n, undef, undef, .pointer (some ⟨N, 0, none⟩), .pointer (some ⟨N + 1, 0, none⟩), .pointer (some ⟨N + 1 + 1, 0, none⟩), .pointer (some ⟨N + 1 + 1 + 1, 0, none⟩), str x, .string s, u8 c, .func (.func 151) #[] #[.pointer (some ⟨N + 1 + 1 + 1 + 1, 0, none⟩), .pointer (some ⟨N + 1 + 1 + 1 + 1 + 1, 0, none⟩)], str x, undef, undef, undef, undef, undef, undef], defers := [] }) ?assign ?body ?done ?stop
  case assign =>
    intro l x W K hK
    gi_wp2
    simpa using hK
  case body =>
    rintro l pre x W ⟨⟨hI, hB⟩, hno⟩ hlt
    have ew : IntKind.i64.wrap ((pre.length : Int) + 1) = ((pre.length + 1 : Nat) : Int) := by have := HL.out; rw [IntKind.wrap_i64]; omega
    have hcn := hI.bn.cell
    have hc1 := hI.b1.cell
    have hf1 := hI.b1.frozen
    have hc2 := hI.b2.cell
    have hf2 := hI.b2.frozen
    have hck := hI.bk.cell
    have hfk := hI.bk.frozen
    have HI := Lib.hid hI
    have HB := Lib.hid hB
    have HNO := Lib.hid hno
    clear hI hB hno
    by_cases he : ((pre.length + 1 : Nat) : Int) = n
    · have d : (((pre.length + 1 : Nat) : Int) == n) = true := by simpa using he
      have HE := Lib.hid he
      clear he
      gi_wp2
      exact ⟨((KeepsOthers.setCell _ _ _).trans (KeepsOthers.setCell _ _ _)).trans (KeepsOthers.setCell _ _ _), ⟨by have h1 := (HI.out.count).tell (str x) true; rw [getLastD_snoc, List.length_append]; exact h1, ((HB.out.setCell (p := ⟨N + 1 + 1 + 1, 0, none⟩) (by simp; omega) _).setCell (p := ⟨N + 1, 0, none⟩) (by simp) _).setCell (p := ⟨N + 1 + 1, 0, none⟩) (by simp; omega) _⟩, rfl, by rw [List.length_append]; exact HE.out, by simp⟩
    · have d : (((pre.length + 1 : Nat) : Int) == n) = false := by simpa using he
      have HE := Lib.hid he
      clear he
      gi_wp2
      exact ⟨KeepsOthers.setCell _ _ _, (KeepsB.refl _ _).setCell (p := ⟨N + 1 + 1 + 1, 0, none⟩) (by simp; omega) _, ⟨by have h1 := HI.out.count; rw [List.length_append]; exact h1, HB.out.setCell (p := ⟨N + 1 + 1 + 1, 0, none⟩) (by simp; omega) _⟩, by have h1 := HNO.out; have h2 := HE.out; rw [List.length_append]; simp only [List.length_cons, List.length_nil]; omega⟩
  case done =>
    rintro D ys W hD rfl ⟨⟨hI, hB⟩, hno⟩ hK
    have hc1 := hI.b1.cell
    have hf1 := hI.b1.frozen
    have hc2 := hI.b2.cell
    have hf2 := hI.b2.frozen
    gi_wp2
    have hq := hI.tell (.string { data := #[] }) false
    have hB2 : Below N w ((W.setCell ⟨N + 1, 0, none⟩ (.string { data := #[] })).setCell ⟨N + 1 + 1, 0, none⟩ (.bool false)) := (hB.setCell (p := ⟨N + 1, 0, none⟩) (by simp) _).setCell (p := ⟨N + 1 + 1, 0, none⟩) (by simp; omega) _
    have hK2 : ((W.setCell ⟨N + 1, 0, none⟩ (.string { data := #[] })).setCell ⟨N + 1 + 1, 0, none⟩ (.bool false)).heap[D]? = some (.deferred (some [])) := ((KeepsOthers.setCell _ _ _).trans (KeepsOthers.setCell _ _ _)).same D _ hK rfl
    rw [nthD_none hno]
    generalize (W.setCell ⟨N + 1, 0, none⟩ (.string { data := #[] })).setCell ⟨N + 1 + 1, 0, none⟩ (.bool false) = W2 at *
    have hfin : Below N w (W2.putObj D (.deferred none)) := hB2.trans (belowK_b (w := W0) (by omega) W2 D _ _ (by omega) hK2 rfl rfl)
    have h1 := (hq.b1.kept (grownBy_putObj' W2 D (.deferred none)) (by simp; omega)).cell
    have h2 := (hq.b2.kept (grownBy_putObj' W2 D (.deferred none)) (by simp; omega)).cell
    rw [HN.out] at hfin
    refine ⟨by simp, .inl ⟨_, _, rfl, run_takeDeferred hK2, ?_⟩⟩
    refine ⟨.tuple #[str [], .bool false], ?_, rfl, hfin⟩
    simp [results, Tryz.results106, go_sem, h1, h2]
  case stop =>
    rintro D c' pre W hD hp ⟨⟨hI, hB⟩, rfl, hn, hne⟩ hK
    have hc1 := hI.b1.cell
    have hf1 := hI.b1.frozen
    have hc2 := hI.b2.cell
    have hf2 := hI.b2.frozen
    gi_wp2
    have hfin : Below N w (W.putObj D (.deferred none)) := hB.trans (belowK_b (w := W0) (by omega) W D _ _ (by omega) hK rfl rfl)
    have h1 := (hI.b1.kept (grownBy_putObj' W D (.deferred none)) (by simp; omega)).cell
    have h2 := (hI.b2.kept (grownBy_putObj' W D (.deferred none)) (by simp; omega)).cell
    have hx : nthD (cutAt c s.data.toList) n = some (pre.getLastD []) := by
      obtain ⟨q, x, rfl⟩ : ∃ q x, pre = q ++ [x] := ⟨pre.dropLast, pre.getLast hne, (List.dropLast_concat_getLast hne).symm⟩
      rw [getLastD_snoc]
      exact nthD_last hp (by rw [← hn, List.length_append]; rfl)
    rw [hx]
    rw [HN.out] at hfin
    refine ⟨by simp, .inl ⟨_, _, rfl, run_takeDeferred hK, ?_⟩⟩
    refine ⟨.tuple #[str (pre.getLastD []), .bool true], ?_, rfl, hfin⟩
    simp [results, Tryz.results106, go_sem, h1, h2]
end Go.Proofs.YtodjilljcjkacaaGreatDoor

/- Layer 8: names, fields and their parts, walked. -/
namespace Go.Proofs.YtodjilljcjkacaaGreatDoor
open Go.RowKit

abbrev mshB : ByteArray := ⟨#[77, 83, 72]⟩
/-- a segment's name -/
def nameS (s : ByteArray) : ByteArray := s.extract 0 (min s.size 3)
/-- what stands behind the head -/
def behD (s : ByteArray) (c : UInt8) : Option ByteArray := if 3 < s.size ∧ s.data.toList.getD 3 0 = c then some (s.extract 4 s.size) else none
/-- the fields -/
def fieldsD (s : ByteArray) (c : UInt8) : List (List UInt8) :=
  if nameS s = mshB then match behD s c with
    | none => []
    | some r => [c] :: cutAt c r.data.toList
  else (cutAt c s.data.toList).tail

theorem strEq (a b : ByteArray) : (a.toList == b.toList) = decide (a = b) := by
  rw [Go.ByteArray.toList_eq, Go.ByteArray.toList_eq]
  by_cases h : a = b
  · subst h; simp
  · have h2 : a.data.toList ≠ b.data.toList := fun e => h (ByteArray.ext (Array.toList_inj.1 e))
    rw [beq_eq_false_iff_ne.2 h2, decide_eq_false h]
theorem strEq_t {a b : ByteArray} (h : a = b) : (a.toList == b.toList) = true := by rw [strEq]; simpa using h
theorem strEq_f {a b : ByteArray} (h : a ≠ b) : (a.toList == b.toList) = false := by rw [strEq]; simpa using h

theorem nameS_ (s : ByteArray) (w : World) : Calls Tryz.prog 72 #[.string s] w fun e w' => e = .returned (.string (nameS s)) ∧ w' = w := by
  go_enter Tryz.func72, Tryz.ntmps72
  go_wp2_with (fail)
  go_ret
  exact ⟨by unfold nameS; rw [show (min (s.size : Int) 3).toNat = min s.size 3 by omega]; rfl, rfl⟩

theorem behind_ (s : ByteArray) (c : UInt8) (w : World) : Calls Tryz.prog 107 #[.string s, u8 c] w fun e w' => e = .returned (.tuple #[.string ((behD s c).getD ⟨#[]⟩), .bool (behD s c).isSome]) ∧ w' = w := by
  by_cases h3 : 3 < s.size
  · have d1 : decide ((s.size : Int) ≤ 3) = false := by simp; omega
    have hix : s.data[3]'h3 = s.data.toList.getD 3 0 := by
      rw [List.getD_eq_getElem?_getD, List.getElem?_eq_getElem (by simpa using h3)]; rfl
    by_cases hc : s.data.toList.getD 3 0 = c
    · have d2 : ((((s.data[3]'h3).toNat : Nat) : Int) != ((c.toNat : Nat) : Int)) = false := by rw [hix, hc]; simp
      have hb : behD s c = some (s.extract 4 s.size) := if_pos ⟨h3, hc⟩
      have h4 : (4 : Int) ≤ s.size := by omega
      rw [hb]
      have d3 : ((((s[3]'h3).toNat : Nat) : Int) != ((c.toNat : Nat) : Int)) = _ := d2
      clear hb hix
      go_enter Tryz.func107, Tryz.ntmps107
      go_wp2_with (fail)
      go_ret2
      exact ⟨rfl, rfl⟩
    · have d2 : ((((s.data[3]'h3).toNat : Nat) : Int) != ((c.toNat : Nat) : Int)) = true := by
        rw [hix, bne_iff_ne]; intro e; exact hc (UInt8.toNat_inj.1 (by omega))
      have hb : behD s c = none := if_neg (fun h => hc h.2)
      rw [hb]
      have d3 : ((((s[3]'h3).toNat : Nat) : Int) != ((c.toNat : Nat) : Int)) = _ := d2
      clear hb hix
      go_enter Tryz.func107, Tryz.ntmps107
      go_wp2_with (fail)
      go_ret2
      exact ⟨rfl, rfl⟩
  · have d1 : decide ((s.size : Int) ≤ 3) = true := by simp; omega
    have hb : behD s c = none := if_neg (fun h => h3 h.1)
    rw [hb]
    clear hb
    go_enter Tryz.func107, Tryz.ntmps107
    go_wp2_with (fail)
    go_ret2
    exact ⟨rfl, rfl⟩

theorem name_t {s : ByteArray} (h : nameS s = mshB) : ((nameS s).toList == [77, 83, 72]) = true := by
  rw [h, Go.ByteArray.toList_eq]; rfl
theorem name_f {s : ByteArray} (h : nameS s ≠ mshB) : ((nameS s).toList == [77, 83, 72]) = false := by
  rw [Go.ByteArray.toList_eq, beq_eq_false_iff_ne]
  exact fun e => h (ByteArray.ext (Array.toList_inj.1 e))
theorem cut_le (c : UInt8) (s : ByteArray) : (cutAt c s.data.toList).length ≤ s.size + 1 := by
  rw [cutAt_length]
  have := List.count_le_length (a := c) (l := s.data.toList)
  have h2 : s.data.toList.length = s.size := by simp
  omega
theorem behD_size {s r : ByteArray} {c : UInt8} (h : behD s c = some r) : r.size + 4 = s.size := by
  unfold behD at h
  split at h
  · injection h with h
    rw [← h, ByteArray.size_extract]; omega
  · cases h
abbrev boxSgn (d : Sgn) (w : World) : World := w.alloc (.cells #[u8 d.a, u8 d.b, u8 d.c, u8 d.d, u8 d.e] 109)
theorem boxSgn_cells (d : Sgn) (w w2 : World) (h : Below (w.heap.size + 1) (boxSgn d w) w2) : w2.cell? ⟨w.heap.size, 0, none⟩ = some (u8 d.a) ∧ w2.cell? ⟨w.heap.size, 1, none⟩ = some (u8 d.b) ∧ w2.cell? ⟨w.heap.size, 2, none⟩ = some (u8 d.c) := by
  have hr : w2.heap[w.heap.size]? = some (.cells #[u8 d.a, u8 d.b, u8 d.c, u8 d.d, u8 d.e] 109) := (h.block _ (by omega)).trans (heap_alloc_new w _)
  exact ⟨cell_of_row w2 _ 0 _ _ _ hr, cell_of_row w2 _ 1 _ _ _ hr, cell_of_row w2 _ 2 _ _ _ hr⟩
theorem boxSgn_below (d : Sgn) (w : World) : Below w.heap.size w (boxSgn d w) := (Below.refl _ w).alloc (Nat.le_refl _) _
theorem boxSgn_size (d : Sgn) (w : World) : (boxSgn d w).heap.size = w.heap.size + 1 := by simp

end Go.Proofs.YtodjilljcjkacaaGreatDoor

/- Layer 8: a field, its repetitions and components, walked. -/
namespace Go.Proofs.YtodjilljcjkacaaGreatDoor
open Go.RowKit

/-- what the n-th is told as -/
abbrev toldV (o : Option (List UInt8)) : Value := .tuple #[str (o.getD []), .bool o.isSome]

theorem nthD_pos {T : List (List UInt8)} {n : Int} (h : n < 1) : nthD T n = none := by
  unfold nthD
  rw [if_neg (by omega)]
theorem nthD_tail (T : List (List UInt8)) (n : Int) (h : 1 ≤ n) : nthD T.tail n = nthD T (n + 1) := by
  unfold nthD
  rw [if_pos h, if_pos (by omega), List.getElem?_tail]
  rw [show (n + 1 - 1).toNat = (n - 1).toNat + 1 by omega]
theorem nthD_cons (x : List UInt8) (T : List (List UInt8)) (n : Int) (h : 2 ≤ n) : nthD (x :: T) n = nthD T (n - 1) := by
  unfold nthD
  rw [if_pos (by omega), if_pos (by omega), show (n - 1).toNat = (n - 1 - 1).toNat + 1 by omega, List.getElem?_cons_succ]
theorem nthD_le {T : List (List UInt8)} {n : Int} {k : Nat} {x : List UInt8} (hT : ∀ y ∈ T, y.length ≤ k) (h : nthD T n = some x) : x.length ≤ k := by
  unfold nthD at h
  split at h
  · exact hT x (List.mem_of_getElem? h)
  · cases h

set_option maxHeartbeats 4000000 in
theorem field_ (s : ByteArray) (n : Int) (d : Sgn) (w : World) (hs : s.size ≤ 9223372036854775806) (hn : n ≤ 9223372036854775807) (hn2 : -9223372036854775808 ≤ n) : Calls Tryz.prog 73 #[.string s, .int .i64 n, d.v] w fun e w' => e = .returned (toldV (nthD (fieldsD s d.a) n)) ∧ Below w.heap.size w w' := by
  have HS := Lib.hid hs
  have hb0 := boxSgn_below d w
  have HB0 := Lib.hid hb0
  clear hs hb0
  by_cases h1 : n < 1
  · have d0 : decide (n < 1) = true := by simpa using h1
    rw [nthD_pos h1]
    clear hn hn2
    go_enter Tryz.func73, Tryz.ntmps73
    go_wp2_with (fail)
    go_ret2
    exact ⟨rfl, HB0.out⟩
  have d0 : decide (n < 1) = false := by simpa using h1
  by_cases hm : nameS s = mshB
  · have d1 := name_t hm
    cases hb : behD s d.a with
    | none =>
      have hf : fieldsD s d.a = [] := by unfold fieldsD; rw [if_pos hm, hb]
      rw [hf, nthD_none (by simp; omega)]
      have HB := Lib.hid hb
      clear hb hm hf hn hn2
      go_enter Tryz.func73, Tryz.ntmps73
      go_wp2_with (fail)
      refine (nameS_ s _).mono ?_
      rintro e w1 ⟨rfl, rfl⟩
      go_wp2_with (fail)
      refine (behind_ s d.a _).mono ?_
      rintro e w1 ⟨rfl, rfl⟩
      rw [HB.out]
      go_wp2_with (fail)
      go_ret2
      exact ⟨rfl, HB0.out⟩
    | some r =>
      have hf : fieldsD s d.a = [d.a] :: cutAt d.a r.data.toList := by unfold fieldsD; rw [if_pos hm, hb]
      rw [hf]
      have hrs := behD_size hb
      have HR : Hid (r.size ≤ 9223372036854775806) := Lib.hid (by have := HS.out; omega)
      have HB := Lib.hid hb
      by_cases he : n = 1
      · subst he
        have HX : Hid (nthD ([d.a] :: cutAt d.a r.data.toList) 1 = some [d.a]) := Lib.hid rfl
        rw [HX.out]
        have hcv := (Bs.of_block (w := (boxSgn d w).alloc (.cells #[u8 d.a] 5)) (g := w.heap.size + 1) (n := 1) (c := 1) (l := [d.a]) (by have := heap_alloc_new (boxSgn d w) (.cells #[u8 d.a] 5); rw [boxSgn_size] at this; exact this) (by rfl) rfl (by decide) (by decide)).str (P := Tryz.prog) 40 5 9 Tryz.underlying40 Tryz.underlying5 Tryz.underlying9
        have HBF : Hid (Below w.heap.size w ((boxSgn d w).alloc (.cells #[u8 d.a] 5))) := Lib.hid (HB0.out.alloc HB0.out.size _)
        clear hb hm hf hrs hn hn2 h1
        go_enter Tryz.func73, Tryz.ntmps73
        go_wp2_with (fail)
        refine (nameS_ s _).mono ?_
        rintro e w1 ⟨rfl, rfl⟩
        go_wp2_with (fail)
        refine (behind_ s d.a _).mono ?_
        rintro e w1 ⟨rfl, rfl⟩
        rw [HB.out]
        go_wp2_with (fail)
        go_ret2
        exact ⟨rfl, HBF.out⟩
      · have d2 : (n == 1) = false := by simpa using he
        rw [nthD_cons _ _ n (by omega)]
        obtain ⟨m, hm1⟩ : ∃ m : Int, n - 1 = m := ⟨_, rfl⟩
        have hw : IntKind.i64.wrap (n - 1) = m := by rw [IntKind.wrap_i64]; omega
        rw [hm1]
        have hr1 : -9223372036854775808 ≤ m ∧ m ≤ 9223372036854775807 := by omega
        clear hb hm hf hrs hn hn2 h1 he
        go_enter Tryz.func73, Tryz.ntmps73
        go_wp2_with (fail)
        refine (nameS_ s _).mono ?_
        rintro e w1 ⟨rfl, rfl⟩
        go_wp2_with (fail)
        refine (behind_ s d.a _).mono ?_
        rintro e w1 ⟨rfl, rfl⟩
        rw [HB.out]
        go_wp2_with (fail)
        refine (nth_ r d.a m _ HR.out).mono ?_
        rintro e w2 ⟨rfl, hb2⟩
        have HB2 := Lib.hid (HB0.out.trans (hb2.mono HB0.out.size))
        clear hb2
        go_wp2_with (fail)
        go_ret2
        exact ⟨rfl, HB2.out⟩
  · have d1 := name_f hm
    have hf : fieldsD s d.a = (cutAt d.a s.data.toList).tail := by unfold fieldsD; rw [if_neg hm]
    rw [hf, nthD_tail _ n (by omega)]
    have hcl := cut_le d.a s
    obtain ⟨m, hm1⟩ : ∃ m : Int, wrap64 (n + 1) = m := ⟨_, rfl⟩
    have hnn : nthD (cutAt d.a s.data.toList) (n + 1) = nthD (cutAt d.a s.data.toList) m := by
      by_cases hx : n + 1 ≤ 9223372036854775807
      · rw [← hm1, IntWalk.wrap64_in _ (by omega)]
      · have hs2 := HS.out
        have : n = 9223372036854775807 := by omega
        subst this
        rw [nthD_none (by omega), ← hm1, nthD_pos (by unfold wrap64; omega)]
    rw [hnn]
    have hw : IntKind.i64.wrap (n + 1) = m := by rw [← hm1, IntKind.wrap_i64, wrap64]
    clear hm hf hcl hm1 hnn hn hn2
    go_enter Tryz.func73, Tryz.ntmps73
    go_wp2_with (fail)
    refine (nameS_ s _).mono ?_
    rintro e w1 ⟨rfl, rfl⟩
    go_wp2_with (fail)
    refine (nth_ s d.a m _ HS.out).mono ?_
    rintro e w2 ⟨rfl, hb2⟩
    have HB2 := Lib.hid (HB0.out.trans (hb2.mono HB0.out.size))
    clear hb2
    go_wp2_with (fail)
    go_ret2
    exact ⟨rfl, HB2.out⟩

/-- the components of a repetition -/
def partsD (f : ByteArray) (d : Sgn) (i : Int) : List (List UInt8) := match nthD (cutAt d.c f.data.toList) i with
  | none => []
  | some x => cutAt d.b x

theorem told_size {f : ByteArray} {c : UInt8} {i : Int} {x : List UInt8} (hx : nthD (cutAt c f.data.toList) i = some x) : x.length ≤ f.size :=
  nthD_le (k := f.size) (fun y hy => by have := cutAt_mem_le c _ y hy; have h2 : f.data.toList.length = f.size := by simp
                                        omega) hx
theorem txt_size' (x : List UInt8) : (txt x).size = x.length := by simp [ByteArray.size]

set_option maxHeartbeats 4000000 in
theorem part_ (f : ByteArray) (i k : Int) (d : Sgn) (w : World) (hs : f.size ≤ 9223372036854775806) : Calls Tryz.prog 179 #[.string f, .int .i64 i, .int .i64 k, d.v] w fun e w' => e = .returned (toldV (nthD (partsD f d i) k)) ∧ Below w.heap.size w w' := by
  have HB0 := Lib.hid (boxSgn_below d w)
  have HS := Lib.hid hs
  clear hs
  unfold partsD
  cases hx : nthD (cutAt d.c f.data.toList) i with
  | none =>
    have HX := Lib.hid hx
    clear hx
    rw [show nthD (match none with | none => [] | some x => cutAt d.b x) k = none from nthD_none (by simp; omega)]
    go_enter Tryz.func179, Tryz.ntmps179
    go_wp2_with (fail)
    refine (nth_ f d.c i _ HS.out).mono ?_
    rintro e w2 ⟨rfl, hb2⟩
    rw [HX.out]
    have HB2 := Lib.hid (HB0.out.trans (hb2.mono HB0.out.size))
    clear hb2
    go_wp2_with (fail)
    go_ret2
    exact ⟨rfl, HB2.out⟩
  | some x =>
    have HX := Lib.hid hx
    have HXS := Lib.hid (told_size hx)
    clear hx
    go_enter Tryz.func179, Tryz.ntmps179
    go_wp2_with (fail)
    refine (nth_ f d.c i _ HS.out).mono ?_
    rintro e w2 ⟨rfl, hb2⟩
    rw [HX.out]
    obtain ⟨_, hc1, _⟩ := boxSgn_cells d w w2 (hb2.mono (by simp))
    have HB2 := Lib.hid (HB0.out.trans (hb2.mono HB0.out.size))
    clear hb2
    go_wp2_with (fail)
    refine (nth_ (txt x) d.b k _ (by rw [txt_size']; have := HXS.out; have := HS.out; omega)).mono ?_
    rintro e w3 ⟨rfl, hb3⟩
    have HB3 := Lib.hid (HB2.out.trans (hb3.mono HB2.out.size))
    clear hb3 hc1
    go_wp2_with (fail)
    go_ret2
    exact ⟨rfl, HB3.out⟩
end Go.Proofs.YtodjilljcjkacaaGreatDoor

/- Layer 8: the document's examples, walked. -/
namespace Go.Proofs.YtodjilljcjkacaaGreatDoor
open Go.RowKit

end Go.Proofs.YtodjilljcjkacaaGreatDoor

/- SegmentCounts, walked. -/
namespace Go.Proofs.YtodjilljcjkacaaGreatDoor
open Go.RowKit

theorem ex_list (s : ByteArray) (i j : Nat) : (s.extract i j).data.toList = (s.data.toList.drop i).take (j - i) := by
  rw [ByteArray.data_extract, Array.toList_extract, List.extract_eq_take_drop]
/-- signs in a block of their own -/
def BoxS (d : Sgn) (g : Nat) (w : World) : Prop := w.heap[g]? = some (.cells #[u8 d.a, u8 d.b, u8 d.c, u8 d.d, u8 d.e] 109)
theorem BoxS.cells {d : Sgn} {g : Nat} {w : World} (h : BoxS d g w) : w.cell? ⟨g, 0, none⟩ = some (u8 d.a) ∧ w.cell? ⟨g, 1, none⟩ = some (u8 d.b) ∧ w.cell? ⟨g, 2, none⟩ = some (u8 d.c) ∧ w.cell? ⟨g, 3, none⟩ = some (u8 d.d) ∧ w.cell? ⟨g, 4, none⟩ = some (u8 d.e) :=
  ⟨cell_of_row w g 0 _ _ _ h, cell_of_row w g 1 _ _ _ h, cell_of_row w g 2 _ _ _ h, cell_of_row w g 3 _ _ _ h, cell_of_row w g 4 _ _ _ h⟩
theorem BoxS.below {d : Sgn} {g : Nat} {w w' : World} (h : BoxS d g w) (hb : Below w.heap.size w w') : BoxS d g w' := (hb.block g (Array.getElem?_eq_some_iff.1 h).1).trans h

end Go.Proofs.YtodjilljcjkacaaGreatDoor

/- Layer 8: the answer's repetitions and components, walked. -/
namespace Go.Proofs.YtodjilljcjkacaaGreatDoor
open Go.RowKit

theorem RetSs.nil {w w' : World} {T : List (List UInt8)} (hT : T = []) (h : Below w.heap.size w w') : RetSs w T (.returned (.slice none 0 0)) w' := by
  subst hT
  exact ⟨none, 0, rfl, Ss.nil _ _ _ (by simp [maxLen]), h⟩

end Go.Proofs.YtodjilljcjkacaaGreatDoor

/- Layer 8: segments of a message, walked. -/
namespace Go.Proofs.YtodjilljcjkacaaGreatDoor
open Go.RowKit Go.Shelf
attribute [local go_sem] Oper.semAt_some

/-- the segments -/
def splitD (l : List UInt8) : List (List UInt8) := if (cutAt 13 l).getLastD [] = [] then (cutAt 13 l).dropLast else cutAt 13 l

theorem Ss.take {w : World} {A : Option Addr} {n c k : Nat} {T : List (List UInt8)} (h : Ss w A n c T) (hk : k ≤ n) : Ss w A k c (T.take k) := by
  refine ⟨by rw [List.length_take, h.len]; omega, Nat.le_trans hk h.le, h.2.2.1, fun h0 => ?_⟩
  obtain ⟨b, o, e, _, hc⟩ := h.at_ (by omega)
  refine ⟨b, o, e, fun i x hx => hc i x ?_⟩
  rw [List.getElem?_take] at hx
  split at hx
  · exact hx
  · cases hx

theorem OwnS.ss' {w : World} {base g c : Nat} {T : List (List UInt8)} (h : OwnS w base (.slice (some ⟨g, 0, none⟩) T.length c) T) : Ss w (some ⟨g, 0, none⟩) T.length c T := by
  obtain ⟨A4, c4, e4, h4, _⟩ := h.ss
  injection e4 with e5 _ e6
  rw [e5, e6]; exact h4

set_option maxHeartbeats 4000000 in
set_option maxRecDepth 100000 in
theorem split_ (A : Option Addr) (n cp : Nat) (l : List UInt8) (w : World) (hb : Bs w A n cp l) (hn : n ≤ 1000000) : Calls Tryz.prog 71 #[.slice A n cp] w (RetSs w (splitD l)) := by
  refine (callsIn_wide (n := 9)).1 ?_
  obtain ⟨i0, hi, hz0, hz1, hz2⟩ := info_parts (show (Tryz.prog.info? 9).map (fun i => (i.zero, i.size, i.bytes)) = some (some (.string ByteArray.empty), 1, 16) from by kernel_rfl)
  have hln := hb.len
  have hcv := (hb.below ((Below.refl _ w).alloc (Nat.le_refl _) (.cells #[.slice none 0 0] 135))).str (P := Tryz.prog) 40 5 9 Tryz.underlying40 Tryz.underlying5 Tryz.underlying9
  obtain ⟨s, hs⟩ : ∃ s : ByteArray, s = txt l := ⟨_, rfl⟩
  have hsl : s.data.toList = l := by rw [hs]
  have HS : Hid (s.size = n) := Lib.hid (by rw [hs, txt_size', hln])
  have HL : Hid ((cutAt 13 l).length ≤ n + 1) := Lib.hid (by have := cut_le 13 s; rw [hsl] at this; have := HS.out; omega)
  have HT : Hid (0 < (cutAt 13 l).length) := Lib.hid (by rw [cutAt_length]; omega)
  rw [← hs] at hcv
  clear hb hs
  have HSL := Lib.hid hsl
  clear hsl hln
  refine callsIn_of_wp_marks Tryz.func71 rfl trivial ?_ rfl
  simp only [Tryz.ntmps71, List.size_toArray, List.length_cons, List.length_nil, Nat.reduceAdd, Nat.reduceSub, Array.replicate_succ, Array.replicate_zero, List.push_toArray, List.append_toArray, List.nil_append, List.cons_append]
  gi_wp2
  refine ⟨trivial, (callsIn_wide.2 (texts_ s 13 _)).mono ?_⟩
  rintro e w1 ⟨rfl, rfl⟩
  gi_wp2
  obtain ⟨N, hN⟩ : ∃ N, N = w.heap.size := ⟨_, rfl⟩
  obtain ⟨W0, hW0⟩ : ∃ W0, (((w.alloc (.cells #[.slice none 0 0] 135)).alloc (.cells #[.string s] 9)).alloc (.cells #[u8 13] 5)) = W0 := ⟨_, rfl⟩
  have bo : Boxed W0 N 135 (.slice none 0 0) := by rw [← hW0, hN]; exact ((Boxed.new w 135 _).alloc _).alloc _
  have cs : Boxed W0 (N + 1) 9 (.string s) := by
    have := Boxed.new (w.alloc (.cells #[.slice none 0 0] 135)) 9 (.string s)
    simp only [World.size_alloc] at this
    rw [← hW0, hN]; exact this.alloc _
  have cc : Boxed W0 (N + 1 + 1) 5 (u8 13) := by
    have := Boxed.new ((w.alloc (.cells #[.slice none 0 0] 135)).alloc (.cells #[.string s] 9)) 5 (u8 13)
    simp only [World.size_alloc] at this
    rw [← hW0, hN]; exact this
  have hsz : W0.heap.size = N + 3 := by rw [← hW0, hN]; simp
  have hb0 : Below N w W0 := by
    rw [← hW0, hN]
    exact ((((Below.refl _ w).alloc (Nat.le_refl _) _).alloc (by simp) _).alloc (by simp; omega) _)
  rw [show u8 13 = .int .u8 13 from rfl] at hW0
  rw [show (.int .u8 13 : Value) = u8 13 from rfl] at hW0
  rw [hW0, ← hN]
  have HN := Lib.hid hN
  clear hW0 hN hcv
  refine wpIn_rangeFunc_ownG rfl (by decide) (gf := 151) (lb := #[.pointer (some ⟨N + 1, 0, none⟩), .pointer (some ⟨N + 1 + 1, 0, none⟩)]) rfl trivial (enters_of Tryz.func151 (by kernel_rfl) rfl)
    (texts_stops _ (by decide) (N + 1) (N + 1 + 1) s 13 (by have := HS.out; omega) cs.cell cc.cell (by omega) (by omega)) keepsB_t (keepsB_b (by omega)) (Below.refl _ _) (fun _ => rfl)
    (fun pre W => ((∃ v, Boxed W N 135 v ∧ W.ownsRow N 9 1 v pre.length (pre.map str) ∧ True) ∧ Below N w W) ∧ Boxed W (N + 1 + 1) 5 (u8 13))
    (fun _ _ _ => False)
    (OwnFrom.and (OwnFrom.and (Own.from (holdsRow_own N N 135 9 1 (fun pre : List (List UInt8) => pre.length) (fun pre => pre.map str) (fun _ _ => True)) _) (ownFrom_below (by rw [HN.out]; exact Nat.le_refl _) (by omega))) (Own.from (boxed_own (N + 1 + 1) _ (fun _ => u8 13)) _))
    (fun _ _ _ _ _ hs _ _ => hs)
    ⟨⟨⟨_, bo, World.ownsRow_nil _ _ _ _, trivial⟩, hb0⟩, cc⟩
    (fun x => { tmps := #[.slice A n cp, undef, .slice none 0 0, .pointer (some ⟨N, 0, none⟩), str x, undef, .slice A n cp, .string s, .func (.func 151) #[] #[.pointer (some ⟨N + 1, 0, none⟩), .pointer (some ⟨N + 1 + 1, 0, none⟩)], str x, undef, undef, undef, undef, undef, undef, undef, undef, undef, undef, undef, undef, undef, undef, undef, undef], defers := [] }) ?assign ?body ?done ?stop
  case assign =>
    intro l x W K hK
    gi_wp2
    simpa using hK
  case body =>
    rintro l' pre x W ⟨⟨⟨v, hv, hrow, _⟩, hB⟩, hbc⟩ hlt
    have hc := hv.cell
    have HLT : Hid (pre.length ≤ 1000001) := Lib.hid (by have h1 := HL.out; rw [HSL.out] at hlt; omega)
    have HB := Lib.hid hB
    have HROW := Lib.hid hrow
    have HV := Lib.hid hv
    have HBC := Lib.hid hbc
    have HSB : Hid (N ≤ W.heap.size) := Lib.hid (Nat.le_trans (by rw [HN.out]; exact Nat.le_refl _) hB.size)
    clear hB hrow hv hbc hlt
    gi_wp2_with (gi_at_builtin; refine wpListIn_append_own _ rfl _ _ 135 rfl N 9 i0 (.string ByteArray.empty) 1 16 Tryz.underlying135 hi hz0 hz1 hz2 rfl (by decide) _ _ _ rfl (HROW.out.alloc _) ⟨W.heap.size, 0, none⟩ 1 1 [str x] rfl rfl (cell_one_new _ _ _) (by simp [Value.oneCell']) (by have := HLT.out; simp [maxLen]; omega) (by have := HLT.out; simp; omega) (by have := HSB.out; simp; omega) ?_; intro v' w1 hown' hgrow _; obtain ⟨g', cap', rfl⟩ := ownsRow_succ hown'; obtain ⟨hv1, hv2, hr2, hk2, hb2⟩ := HV.out.appended (by decide) HROW.out HSB.out (Nat.le_refl _) hown' hgrow; have hc1 := hv1.cell; have hf1 := hv1.frozen; have HBC2 := Lib.hid (((HBC.out.alloc _).kept hgrow (HBC.out.not_row (by decide) HROW.out)).other (show N + 1 + 1 ≠ N by omega) (.slice (some ⟨g', 0, none⟩) (pre.length + 1) cap')))
    refine ⟨hk2.from _, ?_, ⟨⟨_, hv2, by simpa using hr2, trivial⟩, HB.out.trans hb2⟩, HBC2.out⟩
    exact HBC2.out.trans HBC.out.symm
  case done =>
    rintro D ys W hD rfl ⟨⟨⟨v, hv, hrow, _⟩, hB⟩, _⟩ hK
    have HOW : Hid (OwnS W N v (cutAt 13 l)) := Lib.hid (by rw [← HSL.out]; exact hrow)
    obtain ⟨g, cap, rfl, hgN, hgW, hcap, hcm⟩ := HOW.out.form HT.out
    have hc := hv.cell
    have hf := hv.frozen
    have HV := Lib.hid hv
    have HB := Lib.hid hB
    have HK := Lib.hid hK
    obtain ⟨A3, c3, e3, hSs, _⟩ := HOW.out.ss
    have hSs2 : Ss W (some ⟨g, 0, none⟩) (cutAt 13 l).length cap (cutAt 13 l) := by
      injection e3 with e1 e2 e4
      rw [e1, e4]
      exact hSs
    have HSS := Lib.hid hSs2
    obtain ⟨m1, hm1⟩ : ∃ m1 : Nat, ((cutAt 13 l).length : Int) - 1 = (m1 : Int) := ⟨(cutAt 13 l).length - 1, by have := HT.out; omega⟩
    have hlast : ((cutAt 13 l))[m1]? = some ((cutAt 13 l).getLastD []) := by
      rw [List.getLastD_eq_getLast?, List.getLast?_eq_getElem?, show (cutAt 13 l).length - 1 = m1 by omega, List.getElem?_eq_getElem (by have := HT.out; omega)]
      rfl
    have hcell := HOW.out.cell hlast
    have HSP : Hid (splitD l = if (cutAt 13 l).getLastD [] = [] then (cutAt 13 l).dropLast else cutAt 13 l) := Lib.hid rfl
    have HDL : Hid ((cutAt 13 l).dropLast = (cutAt 13 l).take m1) := Lib.hid (by rw [List.dropLast_eq_take, show (cutAt 13 l).length - 1 = m1 by omega])
    have HM1 : Hid (m1 + 1 = (cutAt 13 l).length) := Lib.hid (by have := HT.out; omega)
    rw [HSL.out] at *
    generalize cutAt 13 l = T at *
    generalize T.getLastD [] = x at *
    have ew : IntKind.i64.wrap (m1 : Int) = (m1 : Int) := by rw [IntKind.wrap_i64]; have := HL.out; omega
    have hlt1 : (m1 : Int) < (T.length : Int) := by have := HM1.out; omega
    have hlt2 : (m1 : Int) ≤ (cap : Int) := by have := HM1.out; omega
    clear hrow hB hv hK e3 hSs hSs2 hlast
    by_cases hx : x = []
    · have dx : x.isEmpty = true := by rw [hx]; rfl
      have HX := Lib.hid hx
      clear hx
      gi_wp2
      have HK2 : Hid ((W.setCell ⟨N, 0, none⟩ (.slice (some ⟨g, 0, none⟩) m1 cap)).heap[D]? = some (.deferred (some []))) := Lib.hid ((KeepsOthers.setCell W _ _).same D _ HK.out rfl)
      refine ⟨by simp, .inl ⟨_, _, rfl, run_takeDeferred HK2.out, ?_⟩⟩
      have hg2 : W.grownBy (W.setCell ⟨N, 0, none⟩ (.slice (some ⟨g, 0, none⟩) m1 cap)) (some N) := grownBy_setCell' W N _
      have hN := HN.out
      have hB2 : Below N w (W.setCell ⟨N, 0, none⟩ (.slice (some ⟨g, 0, none⟩) m1 cap)) := HB.out.setCell (p := ⟨N, 0, none⟩) (Nat.le_refl _) _
      have hfin := fun (W2 : World) (h2 : Below N w W2) (hk : W2.heap[D]? = some (.deferred (some []))) => h2.trans (belowK_b (w := W0) (n₀ := N) (by omega) W2 D _ (.deferred none) (by omega) hk rfl rfl)
      have hS3 := OwnS.ss' (show OwnS ((W.setCell ⟨N, 0, none⟩ (.slice (some ⟨g, 0, none⟩) m1 cap)).putObj D (.deferred none)) N (.slice (some ⟨g, 0, none⟩) T.length cap) T from ownsRow_putObj (show OwnS (W.setCell ⟨N, 0, none⟩ (.slice (some ⟨g, 0, none⟩) m1 cap)) N (.slice (some ⟨g, 0, none⟩) T.length cap) T from (HOW.out.kept hg2 (.inr (HV.out.not_row (by decide) HOW.out).symm))) (.deferred none) HK2.out rfl)
      have hsp : splitD l = T.take m1 := by rw [HSP.out, if_pos HX.out, HDL.out]
      have hS4 := hS3.take (k := m1) (by have := HM1.out; omega)
      have hl4 : (T.take m1).length = m1 := by rw [List.length_take]; have := HM1.out; omega
      refine ⟨_, results_tmp rfl _ _ _, ⟨some ⟨g, 0, none⟩, cap, ?_, ?_, ?_⟩⟩
      · rw [hsp, hl4]; rfl
      · rw [hsp, hl4]; exact hS4
      · rw [← hN]; exact hfin _ hB2 HK2.out
    · have dx : x.isEmpty = false := by
        cases x with
        | nil => exact absurd rfl hx
        | cons => rfl
      have HX := Lib.hid hx
      clear hx
      gi_wp2
      refine ⟨by simp, .inl ⟨_, _, rfl, run_takeDeferred HK.out, ?_⟩⟩
      have hN := HN.out
      have hsp : splitD l = T := by rw [HSP.out, if_neg HX.out]
      have hS3 := OwnS.ss' (show OwnS (W.putObj D (.deferred none)) N (.slice (some ⟨g, 0, none⟩) T.length cap) T from ownsRow_putObj HOW.out (.deferred none) HK.out rfl)
      refine ⟨_, results_tmp rfl _ _ _, ⟨some ⟨g, 0, none⟩, cap, ?_, ?_, ?_⟩⟩
      · rw [hsp]; rfl
      · rw [hsp]; exact hS3
      · rw [← hN]; exact HB.out.trans (belowK_b (w := W0) (by omega) W D _ _ (by omega) HK.out rfl rfl)
  case stop =>
    rintro D c pre W _ _ h _
    exact h.elim
end Go.Proofs.YtodjilljcjkacaaGreatDoor
/- strings.Builder: what its methods do to a builder of the call's own. -/
namespace Go.Proofs.YtodjilljcjkacaaGreatDoor
open Go.RowKit

abbrev TB : TypeId := 214
/-- block b is a builder, of the call's own from block B on, that holds the bytes l -/
abbrev Bu (B b : Nat) (l : List UInt8) (w : World) : Prop := Lib.IsBuilder TB 5 B b (Lib.byteCells l) w
abbrev BuAt (B b : Nat) (l : List UInt8) (w : World) : Prop := Lib.BuilderAt TB 5 B b (.pointer (some ⟨b, 0, none⟩)) (Lib.byteCells l) w
theorem buSize : (Tryz.prog.info? TB).map (·.size) = some 2 := by kernel_rfl
theorem buLies : liesAt Tryz.prog Tryz.prog.depth TB (2 / Tryz.prog.cellsOf TB) 0 TB 1 = true := by kernel_rfl
theorem Bu.below {B b : Nat} {l : List UInt8} {w w' : World} (h : Bu B b l w) (hb : Below w.heap.size w w') : Bu B b l w' := by
  rcases h with ⟨h1, v, h2, h3, h4⟩ | ⟨h1, v, h2, h3, h4⟩
  · exact .inl ⟨h1, v, (hb.block b (Array.getElem?_eq_some_iff.1 h2).1).trans h2, own_below h3 hb, h4⟩
  · exact .inr ⟨h1, v, (hb.block b (Array.getElem?_eq_some_iff.1 h2).1).trans h2, own_below h3 hb, h4⟩
/-- 'var b strings.Builder' -/
theorem Bu.new {B : Nat} {w : World} (hB : B ≤ w.heap.size) : Bu B w.heap.size [] (w.alloc (.cells #[.pointer none, .slice none 0 0] TB)) :=
  .inl ⟨hB, _, heap_alloc_new w _, World.ownsRow_nil _ B 5 1, by simp [Value.ownBlock]⟩
theorem Bu.base {B b : Nat} {l : List UInt8} {w : World} (h : Bu B b l w) : B ≤ b := by
  rcases h with h | h <;> exact h.1

set_option maxHeartbeats 1000000 in
set_option maxRecDepth 100000 in
theorem buCheck (B b : Nat) (l : List UInt8) (w : World) (h : Bu B b l w) :
    Calls Tryz.prog 180 #[.pointer (some ⟨b, 0, none⟩)] w fun e w' => e = .returned (.tuple #[]) ∧ BuAt B b l w' ∧ Below B w w' ∧ w'.heap.size = w.heap.size := by
  obtain ⟨j, hj, hjs⟩ := Option.map_eq_some_iff.1 buSize
  rcases h with h | h
  · have c0 := h.cell0
    have hsh := h.shape
    have hfz := h.frozen0
    have H := Lib.hid h
    clear h
    go_enter Tryz.func180, Tryz.ntmps180
    go_wp2
    rw [Lib.run_to_unsafe w ⟨b, 0, none⟩ Tryz.underlying212 Tryz.underlying237 hj (by rw [hjs]; decide) hsh (Nat.zero_lt_succ 1)]
    simp only [Result.andThen]
    rw [Oper.upon_value]
    go_wp2
    rw [run_callFunc_extern Tryz.func194 (by kernel_rfl) (by kernel_rfl) (by kernel_rfl) (e := Extern.AbiNoEscape.same) (by kernel_rfl)]
    rw [Lib.run_noEscape]
    simp only [Result.andThen]
    rw [Oper.upon_value]
    go_wp2
    rw [Lib.run_from_unsafe w ⟨b, 0, none⟩ Tryz.underlying237 Tryz.underlying212 hj hsh buLies]
    simp only [Result.andThen]
    rw [Oper.upon_value]
    go_wp2
    go_end0
    exact ⟨rfl, H.out.used _, (Below.refl B w).setCell (p := ⟨b, 0, none⟩) H.out.1 _, by simp [World.setCell]⟩
  · have c0 := h.cell0
    have H := Lib.hid h
    clear h
    go_enter Tryz.func180, Tryz.ntmps180
    go_wp2
    rw [Lib.run_neq_ptr_same w _ Tryz.underlying212 hj]
    go_wp2
    go_end0
    exact ⟨rfl, H.out, Below.refl B _, rfl⟩
theorem BuAt.rows {B b : Nat} {l : List UInt8} {w : World} (h : BuAt B b l w) : ∃ v, w.heap[b]? = some (.cells #[.pointer (some ⟨b, 0, none⟩), v] TB) ∧ Own 5 w B v l ∧ v.ownBlock ≠ some b := by
  obtain ⟨hB, v, h2, h3, h4⟩ := h
  exact ⟨v, h2, by unfold Own; have := h3; rw [Lib.byteCells_length] at this; exact this, h4⟩
/-- the buffer anew -/
theorem BuAt.wrote {B b : Nat} {l2 : List UInt8} {w1 w2 : World} {v v2 : Value} (hB : B ≤ b) (hb : w1.heap[b]? = some (.cells #[.pointer (some ⟨b, 0, none⟩), v] TB)) (hgr : w1.grownBy w2 v.ownBlock) (hne : v.ownBlock ≠ some b) (hown : Own 5 w2 B v2 l2) (hlow : ∀ k, v.ownBlock = some k → B ≤ k) (hBw : B ≤ w1.heap.size) :
    w2.cell? ⟨b, 1, none⟩ = some v ∧ w2.frozen? ⟨b, 1, none⟩ = false ∧ Hid (Bu B b l2 (w2.setCell ⟨b, 1, none⟩ v2) ∧ Below B w1 (w2.setCell ⟨b, 1, none⟩ v2)) := by
  have hlt := (Array.getElem?_eq_some_iff.1 hb).1
  have hb2 : w2.heap[b]? = some (.cells #[.pointer (some ⟨b, 0, none⟩), v] TB) := by rw [hgr.block b hlt (fun e => hne e.symm)]; exact hb
  have hch : Ch (fun k => v.ownBlock = some k) w1 w2 := Ch.of_grown hgr (fun k hk => hk)
  refine ⟨by rw [cell_of_row w2 b 1 _ _ _ hb2]; rfl, by simp [World.frozen?, hb2], Lib.hid ⟨.inr ⟨hB, v2, heap_setCell_same w2 b 1 _ _ v2 hb2, ?_, ?_⟩, (hch.below hlow hBw).setCell (p := ⟨b, 1, none⟩) hB _⟩⟩
  · have h5 : Own 5 (w2.setCell ⟨b, 1, none⟩ v2) B v2 l2 := hown.ch ((Ch.refl (fun k => k = b) w2).set (a := ⟨b, 1, none⟩) rfl v2) (fun k hk hkb => by
      rw [hkb] at hk
      exact own_ne (show w2.ownsRow B 5 1 v2 l2.length (u8s l2) from hown) hb2 (by decide) hk.symm)
    unfold Own at h5
    rw [Lib.byteCells_length]
    exact h5
  · exact fun e => own_ne (show w2.ownsRow B 5 1 v2 l2.length (u8s l2) from hown) hb2 (by decide) e.symm

set_option maxHeartbeats 2000000 in
set_option maxRecDepth 100000 in
theorem buByte (B b : Nat) (l : List UInt8) (c : UInt8) (w : World) (h : Bu B b l w) (hlen : l.length ≤ 1099511627000) (hBw : B ≤ w.heap.size) :
    Calls Tryz.prog 162 #[.pointer (some ⟨b, 0, none⟩), .int .u8 (c.toNat : Int)] w fun e w' => e = .returned .nilIface ∧ Bu B b (l ++ [c]) w' ∧ Below B w w' := by
  have H := Lib.hid h
  have hBb := h.base
  clear h
  go_enter Tryz.func162, Tryz.ntmps162
  go_wp2_with (fail)
  refine (buCheck B b l w H.out).mono ?_
  rintro e w1 ⟨rfl, h1, hb1, hz1⟩
  have HZ1 : Hid (B ≤ w1.heap.size) := Lib.hid (by omega)
  clear hz1
  obtain ⟨v, hr, hown, hne⟩ := h1.rows
  have c1 := cell_of_row w1 b 1 _ _ _ hr
  simp only [List.getElem?_toArray, List.getElem?_cons_zero, List.getElem?_cons_succ] at c1
  have hblt := (Array.getElem?_eq_some_iff.1 hr).1
  have HBA := Lib.hid ((Below.refl w1.heap.size w1).alloc (Nat.le_refl _) (.cells #[u8 c] 5))
  have HR := Lib.hid ((HBA.out.block b hblt).trans hr)
  have HNE := Lib.hid hne
  have HO := Lib.hid (hown.below HBA.out)
  have HNW := Lib.hid (newRow w1 c)
  have HON := Lib.hid (oneRow c)
  have HB1 := Lib.hid hb1
  have HBZ : Hid (B ≤ (w1.alloc (.cells #[u8 c] 5)).heap.size) := Lib.hid (Nat.le_trans HZ1.out HBA.out.size)
  obtain ⟨Av, cv, hv⟩ := own_form (show w1.ownsRow B 5 1 v l.length (u8s l) from hown)
  subst hv
  have tok1 : Hid True := Lib.hid trivial
  clear h1 hr hown hne hb1
  go_wp2_with (at_builtin; have _t := tok1; go_loud ((refine wpList_appAt rfl (.tmp 11) (.tmp 13) 40 rfl B 5 (.int .u8 0) 1 Tryz.underlying40 byteInfo rfl (by decide) (.slice Av l.length cv) l.length (u8s l) rfl HO.out ⟨w1.heap.size, 0, none⟩ 1 1 [.int .u8 (c.toNat : Int)] rfl rfl HNW.out HON.out (by omega) HBZ.out ?_; intro v2 w2 hown2 hgr2 hfr2; have HO2 : Hid (Own 5 w2 B v2 (l ++ [c])) := Lib.hid (by unfold Own; rw [List.length_append]; simpa using hown2); obtain ⟨z1, z2, HW⟩ := BuAt.wrote hBb HR.out hgr2 HNE.out HO2.out (fun k hk => (World.ownsRow.lt HO.out k hk).1) HBZ.out; obtain ⟨A2, c2, rfl⟩ := own_form hown2; clear tok1 hown2 hgr2 hfr2 _t)))
  go_ret
  exact ⟨rfl, HW.out.1, HB1.out.trans ((HBA.out.mono HZ1.out).trans HW.out.2)⟩

set_option maxHeartbeats 2000000 in
set_option maxRecDepth 100000 in
theorem buString_ (B b : Nat) (l s : List UInt8) (w : World) (h : Bu B b l w) (hlen : l.length + s.length ≤ 1099511627000) (hBw : B ≤ w.heap.size) :
    Calls Tryz.prog 161 #[.pointer (some ⟨b, 0, none⟩), .string (txt s)] w fun e w' => e = .returned (.tuple #[.int .i64 (s.length : Int), .nilIface]) ∧ Bu B b (l ++ s) w' ∧ Below B w w' := by
  have H := Lib.hid h
  have hBb := h.base
  clear h
  obtain ⟨i0, hi, hz0, hz1, hz2⟩ := info_parts (byteInfo : (Tryz.prog.info? 5).map (fun i => (i.zero, i.size, i.bytes)) = some (some (.int .u8 0), 1, 1))
  have HSZ : Hid ((txt s).size = s.length) := Lib.hid (by simp [ByteArray.size])
  have HSC : Hid (Lib.strCells (txt s) = u8s s) := Lib.hid (by simp [Lib.strCells, u8s])
  go_enter Tryz.func161, Tryz.ntmps161
  go_wp2_with (fail)
  refine (buCheck B b l w H.out).mono ?_
  rintro e w1 ⟨rfl, h1, hb1, hz1'⟩
  have HBZ : Hid (B ≤ w1.heap.size) := Lib.hid (by omega)
  clear hz1'
  obtain ⟨v, hr, hown, hne⟩ := h1.rows
  have c1 := cell_of_row w1 b 1 _ _ _ hr
  simp only [List.getElem?_toArray, List.getElem?_cons_zero, List.getElem?_cons_succ] at c1
  have HR := Lib.hid hr
  have HNE := Lib.hid hne
  have HO := Lib.hid hown
  have HB1 := Lib.hid hb1
  obtain ⟨Av, cv, hv⟩ := own_form (show w1.ownsRow B 5 1 v l.length (u8s l) from hown)
  subst hv
  have tok1 : Hid True := Lib.hid trivial
  clear h1 hr hown hne hb1
  go_wp2_with (at_builtin; have _t := tok1; go_loud ((refine Lib.wpList_append_own_string _ rfl (.tmp 12) (.tmp 13) 40 9 rfl B 5 i0 Tryz.underlying40 Tryz.underlying9 hi hz0 hz1 hz2 (.slice Av l.length cv) l.length (u8s l) rfl HO.out (txt s) rfl (by rw [HSZ.out]; unfold maxLen; omega) (by rw [HSZ.out]; omega) HBZ.out ?_; intro v2 w2 hown2 hgr2 hfr2; have HO2 : Hid (Own 5 w2 B v2 (l ++ s)) := Lib.hid (by unfold Own; rw [List.length_append]; rw [HSZ.out, HSC.out] at hown2; simpa using hown2); obtain ⟨z1, z2, HW⟩ := BuAt.wrote hBb HR.out hgr2 HNE.out HO2.out (fun k hk => (World.ownsRow.lt HO.out k hk).1) HBZ.out; obtain ⟨A2, c2, rfl⟩ := own_form hown2; clear tok1 hown2 hgr2 hfr2 _t)))
  go_ret2
  exact ⟨by rw [← HSZ.out]; rfl, HW.out.1, HB1.out.trans HW.out.2⟩
end Go.Proofs.YtodjilljcjkacaaGreatDoor
/- Laid together: Seg8, Seg9, Seg10, Seg11. -/

/- Layer 8: messages of segments, and the law's small functions, walked. -/
namespace Go.Proofs.YtodjilljcjkacaaGreatDoor
open Go.RowKit

theorem lens_getD (T : List (List UInt8)) (k : Nat) (hk : k < T.length) : Lib.lens (T.take (k + 1)) = Lib.lens (T.take k) + (T.getD k []).length :=
  Lib.lens_take_succ T k _ (by rw [List.getD_eq_getElem?_getD, List.getElem?_eq_getElem hk]; rfl)
theorem take_getD (T : List (List UInt8)) (k : Nat) (hk : k < T.length) : T.take (k + 1) = T.take k ++ [T.getD k []] := by
  rw [List.take_succ_eq_append_getElem hk, List.getD_eq_getElem?_getD, List.getElem?_eq_getElem hk]; rfl

/-- segments, each with a 13 behind -/
def joinD (T : List (List UInt8)) : List UInt8 := (T.map (· ++ [13])).flatten
theorem joinD_snoc (T : List (List UInt8)) (x : List UInt8) : joinD (T ++ [x]) = joinD T ++ x ++ [13] := by simp [joinD]
theorem joinD_len (T : List (List UInt8)) : (joinD T).length = Lib.lens T + T.length := by
  induction T with
  | nil => rfl
  | cons a r ih =>
    simp only [joinD, Lib.lens] at ih ⊢
    simp only [List.map_cons, List.flatten_cons, List.length_append, List.length_cons, List.length_nil, List.sum_cons]
    omega

theorem own_snoc {w : World} {B : Nat} {v : Value} {l : List UInt8} {c : UInt8} (h : w.ownsRow B 5 1 v (l.length + 1) (u8s l ++ [.int .u8 (c.toNat : Int)])) : Own 5 w B v (l ++ [c]) := by
  unfold Own
  rw [List.length_append, show u8s (l ++ [c]) = u8s l ++ [u8 c] from List.map_append ..]
  exact h
/-- bytes in new memory -/
def RetB (w : World) (l : List UInt8) (e : Ending) (w' : World) : Prop :=
  ∃ A c, e = .returned (.slice A l.length c) ∧ Bs w' A l.length c l ∧ Below w.heap.size w w'

set_option maxHeartbeats 4000000 in
set_option maxRecDepth 100000 in
theorem segJoin (A : Option Addr) (n cp : Nat) (T : List (List UInt8)) (w : World) (hS : Ss w A n cp T) (ht : Lib.lens T + T.length ≤ 1048576) : Calls Tryz.prog 117 #[.slice A n cp] w (RetB w (joinD T)) := by
  have HS := Lib.hid hS
  have HT := Lib.hid ht
  have hmax := hS.nmax
  obtain ⟨i0, hi, hz0, hz1, hz2⟩ := info_parts (byteInfo : (Tryz.prog.info? 5).map (fun i => (i.zero, i.size, i.bytes)) = some (some (.int .u8 0), 1, 1))
  clear hS ht
  go_enter Tryz.func117, Tryz.ntmps117
  go_wp2_with (fail)
  go_loopw [3, 8, 5] (fun v i _ wr => ∃ k : Nat, k ≤ n ∧ i = .int .i64 k ∧ Own 5 wr w.heap.size v (joinD (T.take k)) ∧ Below w.heap.size w wr) (fun _ i _ _ => n - (intOf i).toNat)
  case atStart => exact ⟨0, Nat.zero_le _, rfl, World.ownsRow_nil _ _ _ _, Below.refl _ _⟩
  case round =>
    obtain ⟨k, hk, rfl, hown, hb⟩ := hrel
    have HB := Lib.hid hb
    have HO := Lib.hid hown
    clear hb hown
    have hTl := HS.out.len
    by_cases hlt : k < n
    · have e1 : (k : Int) < (n : Int) := by omega
      obtain ⟨b, o, rfl, _, hc⟩ := (HS.out.below HB.out).read hlt
      have hTk := take_getD T k (by omega)
      have hl2 : (T.take (k + 1)).length = k + 1 := by rw [List.length_take]; omega
      have hJ : (joinD (T.take (k + 1))).length ≤ 1048576 := by
        rw [joinD_len]
        have hle := Lib.lens_take_le T (k + 1)
        have hTT := HT.out
        omega
      obtain ⟨y, hy⟩ : ∃ y, y = T.getD k [] := ⟨_, rfl⟩
      rw [← hy] at hTk hc
      rw [hTk, joinD_snoc, List.length_append, List.length_append] at hJ
      rw [show ([13] : List UInt8).length = 1 from rfl] at hJ
      have HTK : Hid (joinD (T.take (k + 1)) = joinD (T.take k) ++ y ++ [13]) := Lib.hid (by rw [hTk, joinD_snoc])
      generalize joinD (T.take k) = J at *
      have HJ := Lib.hid hJ
      have HSZ : Hid ((txt y).size = y.length) := Lib.hid (txt_size' y)
      have HSC : Hid (Lib.strCells (txt y) = u8s y) := Lib.hid (by simp [Lib.strCells, u8s])
      have HBS : Hid (w.heap.size ≤ wr.heap.size) := Lib.hid HB.out.size
      obtain ⟨Av, cv, rfl, _⟩ := HO.out.bs
      have HLT := Lib.hid hlt
      have tok1 : Hid True := Lib.hid trivial
      clear hTk hl2 hy hlt hTl hJ
      have tok2 : Hid True := Lib.hid trivial
      go_wp2_with (at_builtin; (first | (have _t := tok1; go_loud ((refine Lib.wpList_append_own_string _ rfl (.tmp 12) (.tmp 13) 40 9 rfl w.heap.size 5 i0 Tryz.underlying40 Tryz.underlying9 hi hz0 hz1 hz2 (.slice Av J.length cv) J.length (u8s J) rfl HO.out (txt y) rfl (by rw [HSZ.out]; have := HJ.out; unfold maxLen; omega) (by rw [HSZ.out]; have := HJ.out; omega) HBS.out ?_; intro v2 w2 hown2 hgr2 hfr2; have HO2 : Hid (Own 5 w2 w.heap.size v2 (J ++ y)) := Lib.hid (by unfold Own; rw [List.length_append]; rw [HSZ.out, HSC.out] at hown2; simpa using hown2); have HB2 := Lib.hid (HB.out.grown hgr2 HBS.out (fun k hk => (World.ownsRow.lt HO.out k hk).1)); obtain ⟨A2, c2, rfl⟩ := own_form (show w2.ownsRow w.heap.size 5 1 v2 (J ++ y).length (u8s (J ++ y)) from HO2.out); rw [List.length_append] at HO2 ⊢; have HNW := Lib.hid (newRow w2 13); have HO3 := Lib.hid (HO2.out.below ((Below.refl w2.heap.size w2).alloc (Nat.le_refl _) (.cells #[u8 13] 5))); have HBZ : Hid (w.heap.size ≤ (w2.alloc (.cells #[u8 13] 5)).heap.size) := Lib.hid (by have := HB2.out.size; simp; omega); clear tok1 hown2 hgr2 hfr2 _t))) | (have _t := tok2; go_loud ((refine wpList_appAt rfl (.tmp 15) (.tmp 16) 40 rfl w.heap.size 5 (.int .u8 0) 1 Tryz.underlying40 byteInfo rfl (by decide) (.slice A2 (J.length + y.length) c2) (J ++ y).length (u8s (J ++ y)) rfl HO3.out ⟨w2.heap.size, 0, none⟩ 1 1 [.int .u8 13] rfl rfl HNW.out (oneRow 13) (by have := HJ.out; rw [List.length_append]; omega) HBZ.out ?_; intro v3 w3 hown3 hgr3 hfr3; have HO4 : Hid (Own 5 w3 w.heap.size v3 (J ++ y ++ [13])) := Lib.hid (own_snoc (c := 13) hown3); have HB3 := Lib.hid ((HB2.out.alloc HB2.out.size _).grown hgr3 HBZ.out (fun k hk => (World.ownsRow.lt HO3.out k hk).1)); obtain ⟨A3, c3, rfl⟩ := own_form hown3; clear tok2 hown3 hgr3 hfr3 _t)))))
      exact ⟨⟨k + 1, HLT.out, by go_num, by rw [HTK.out, ← List.length_append]; exact HO4.out, HB3.out⟩, by have := HLT.out; simp [intOf]; omega⟩
    · obtain rfl : k = n := by omega
      rw [List.take_of_length_le (by omega)] at HO
      obtain ⟨Av, cv, rfl, hBs, _⟩ := HO.out.bs
      have HBB := Lib.hid hBs
      clear hBs hTl hlt
      go_wp2_with (fail)
      go_ret
      exact ⟨Av, cv, rfl, HBB.out, HB.out⟩
end Go.Proofs.YtodjilljcjkacaaGreatDoor

/- Layer 8: a segment of a name and fields, walked. -/
namespace Go.Proofs.YtodjilljcjkacaaGreatDoor
open Go.RowKit

/-- what stands ahead of the field number k -/
def sepD (name : ByteArray) (c : UInt8) (k : Nat) : List UInt8 := if name = mshB ∧ k ≤ 1 then [] else [c]
/-- the segment, as far as its first k fields -/
def mkTo (name : ByteArray) (c : UInt8) (T : List (List UInt8)) : Nat → List UInt8
  | 0 => name.data.toList
  | k + 1 => mkTo name c T k ++ sepD name c k ++ T.getD k []
def makeD (name : ByteArray) (c : UInt8) (T : List (List UInt8)) : List UInt8 := mkTo name c T T.length
theorem sepD_len (name : ByteArray) (c : UInt8) (k : Nat) : (sepD name c k).length ≤ 1 := by unfold sepD; split <;> simp
theorem mkTo_len (name : ByteArray) (c : UInt8) (T : List (List UInt8)) : ∀ k, k ≤ T.length → (mkTo name c T k).length ≤ name.size + Lib.lens (T.take k) + k
  | 0, _ => by simp [mkTo]
  | k + 1, h => by
    have h1 := mkTo_len name c T k (by omega)
    have h2 := sepD_len name c k
    have h3 := lens_getD T k (by omega)
    simp only [mkTo, List.length_append]
    omega

set_option maxHeartbeats 4000000 in
set_option maxRecDepth 100000 in
theorem segMake (d : Sgn) (name : ByteArray) (A : Option Addr) (n cp : Nat) (T : List (List UInt8)) (w : World) (hS : Ss w A n cp T) (hnm : name.size ≤ 1048576) (ht : Lib.lens T + T.length ≤ 1048576) : Calls Tryz.prog 118 #[d.v, .string name, .slice A n cp] w fun e w' => e = .returned (str (makeD name d.a T)) ∧ Below w.heap.size w w' := by
  have HS := Lib.hid (hS.below ((Below.refl _ w).alloc (Nat.le_refl _) (.cells #[u8 d.a, u8 d.b, u8 d.c, u8 d.d, u8 d.e] 109)))
  have HT := Lib.hid ht
  have HNM := Lib.hid hnm
  have hmax := hS.nmax
  have hTl := hS.len
  have HLEN := Lib.hid hTl
  have HX0 : Hid (BoxS d w.heap.size (boxSgn d w)) := Lib.hid (heap_alloc_new w _)
  have HB0 : Hid (Below w.heap.size w (boxSgn d w)) := Lib.hid (boxSgn_below d w)
  clear hS ht hnm hTl
  go_enter Tryz.func118, Tryz.ntmps118
  go_wp2_with (fail)
  generalize hw0 : w.alloc (.cells #[u8 d.a, u8 d.b, u8 d.c, u8 d.d, u8 d.e] 109) = w0 at *
  rw [show boxSgn d w = w0 from hw0] at HX0 HB0
  have HZ0 : Hid (w0.heap.size = w.heap.size + 1) := Lib.hid (by rw [← hw0]; simp)
  have HBU : Hid (Bu w0.heap.size w0.heap.size [] (w0.alloc (.cells #[.pointer none, .slice none 0 0] TB))) := Lib.hid (Bu.new (Nat.le_refl _))
  have HBA : Hid (Below w0.heap.size w0 (w0.alloc (.cells #[.pointer none, .slice none 0 0] TB))) := Lib.hid ((Below.refl _ _).alloc (Nat.le_refl _) _)
  clear hw0
  rw [HZ0.out] at HBU HBA
  obtain ⟨B, hB⟩ : ∃ B, B = w.heap.size + 1 := ⟨_, rfl⟩
  rw [← hB] at HBU HBA HZ0 ⊢
  have HBE := Lib.hid hB
  clear hB
  generalize (w0.alloc (.cells #[.pointer none, .slice none 0 0] TB)) = w3 at *
  have HW3 : Hid (B ≤ w3.heap.size) := Lib.hid (by have := HBA.out.size; have := HZ0.out; omega)
  refine (buString_ B B [] name.data.toList w3 HBU.out (by have := HNM.out; simp; omega) HW3.out).mono ?_
  rintro e w4 ⟨rfl, hbu, hb4⟩
  have HBU4 := Lib.hid hbu
  have HB4 : Hid (Below B w0 w4) := Lib.hid (HBA.out.trans hb4)
  clear hbu hb4 HBU
  go_wp2_with (fail)
  go_loopw [14, 8, 9] (fun i _ _ wr => ∃ k : Nat, k ≤ n ∧ i = .int .i64 k ∧ Bu B B (mkTo name d.a T k) wr ∧ Below B w0 wr) (fun i _ _ _ => n - (intOf i).toNat)
  case atStart => exact ⟨0, Nat.zero_le _, rfl, by simpa [mkTo] using HBU4.out, HB4.out⟩
  case round =>
    obtain ⟨wo, rfl⟩ : ∃ wo : World, wo = wr := ⟨_, rfl⟩
    obtain ⟨k, hk, rfl, hbu, hb⟩ := hrel
    have HBU := Lib.hid hbu
    have HB := Lib.hid hb
    have HSO := Lib.hid (HS.out.below (hb.mono (Nat.le_of_eq HZ0.out)))
    have HXO := Lib.hid (HX0.out.below (hb.mono (Nat.le_of_eq HZ0.out)))
    have HSZ : Hid (B ≤ wo.heap.size) := Lib.hid (by have := hb.size; have := HZ0.out; omega)
    clear hbu hb HBU4 HB4
    have HLN : Hid ((mkTo name d.a T k).length ≤ 2097152) := Lib.hid (by
      have h1 := mkTo_len name d.a T k (by have := HLEN.out; omega)
      have h2 := Lib.lens_take_le T k
      have h3 := HT.out
      have h4 := HNM.out
      have h5 := HLEN.out
      omega)
    by_cases hlt : k < n
    · have e1 : (k : Int) < (n : Int) := by omega
      obtain ⟨b, o, rfl, hbl, hc⟩ := HSO.out.read hlt
      obtain ⟨c0, c1, c2, c3, c4⟩ := HXO.out.cells
      obtain ⟨y, hy⟩ : ∃ y, y = T.getD k [] := ⟨_, rfl⟩
      rw [← hy] at hc
      have HMK : Hid (mkTo name d.a T (k + 1) = mkTo name d.a T k ++ sepD name d.a k ++ y) := Lib.hid (by rw [hy]; rfl)
      have HYL : Hid (y.length ≤ 1048576) := Lib.hid (by
        have h1 := lens_getD T k (by have := HLEN.out; omega)
        have h2 := Lib.lens_take_le T (k + 1)
        have h3 := HT.out
        rw [hy]; omega)
      have HLT := Lib.hid hlt
      clear hy hlt hk
      by_cases hm : name = mshB ∧ k ≤ 1
      · have hs : sepD name d.a k = [] := if_pos hm
        have d1 : (name.toList == [77, 83, 72]) = true := by rw [hm.1, Go.ByteArray.toList_eq]; rfl
        have d2 : decide ((1 : Int) < (k : Int)) = false := by simp; omega
        have hk1 : k ≤ 1 := hm.2
        have HSP := Lib.hid hs
        clear hs hm
        go_wp2_with (fail)
        refine (buString_ B B (mkTo name d.a T k) y wo HBU.out (by have := HLN.out; have := HYL.out; omega) HSZ.out).mono ?_
        rintro e w5 ⟨rfl, hbu5, hb5⟩
        have HBU5 := Lib.hid hbu5
        have HB5 : Hid (Below B w0 w5) := Lib.hid (HB.out.trans hb5)
        clear hbu5 hb5
        go_wp2_with (fail)
        exact ⟨⟨k + 1, HLT.out, by go_num, by rw [HMK.out, HSP.out, List.append_nil]; exact HBU5.out, HB5.out⟩, by have := HLT.out; simp [intOf]; omega⟩
      · have hs : sepD name d.a k = [d.a] := if_neg hm
        have HSP := Lib.hid hs
        have HTL : Hid ((mkTo name d.a T k ++ [d.a]).length ≤ 2097153) := Lib.hid (by rw [List.length_append]; have := HLN.out; simp; omega)
        clear hs
        by_cases hn : name = mshB
        · have hk1 : 1 < k := by
            rcases Nat.lt_or_ge 1 k with h | h
            · exact h
            · exact absurd ⟨hn, h⟩ hm
          have d1 : (name.toList == [77, 83, 72]) = true := by rw [hn, Go.ByteArray.toList_eq]; rfl
          have d2 : decide ((1 : Int) < (k : Int)) = true := by simp; omega
          clear hm hn
          go_wp2_with (fail)
          refine (buByte B B (mkTo name d.a T k) d.a wo HBU.out (by have := HLN.out; omega) HSZ.out).mono ?_
          rintro e w5 ⟨rfl, hbu5, hb5⟩
          have HBU5 := Lib.hid hbu5
          have HB5 : Hid (Below B w0 w5) := Lib.hid (HB.out.trans hb5)
          have HS5 : Hid (B ≤ w5.heap.size) := Lib.hid (Nat.le_trans HSZ.out hb5.size)
          clear hbu5 hb5
          go_wp2_with (fail)
          refine (buString_ B B (mkTo name d.a T k ++ [d.a]) y w5 HBU5.out (by have := HTL.out; have := HYL.out; omega) HS5.out).mono ?_
          rintro e w6 ⟨rfl, hbu6, hb6⟩
          have HBU6 := Lib.hid hbu6
          have HB6 : Hid (Below B w0 w6) := Lib.hid (HB5.out.trans hb6)
          clear hbu6 hb6
          go_wp2_with (fail)
          exact ⟨⟨k + 1, HLT.out, by go_num, by rw [HMK.out, HSP.out]; exact HBU6.out, HB6.out⟩, by have := HLT.out; simp [intOf]; omega⟩
        · have d1 : (name.toList == [77, 83, 72]) = false := by
            rw [Go.ByteArray.toList_eq, beq_eq_false_iff_ne]
            exact fun e => hn (ByteArray.ext (Array.toList_inj.1 e))
          clear hm hn
          go_wp2_with (fail)
          refine (buByte B B (mkTo name d.a T k) d.a wo HBU.out (by have := HLN.out; omega) HSZ.out).mono ?_
          rintro e w5 ⟨rfl, hbu5, hb5⟩
          have HBU5 := Lib.hid hbu5
          have HB5 : Hid (Below B w0 w5) := Lib.hid (HB.out.trans hb5)
          have HS5 : Hid (B ≤ w5.heap.size) := Lib.hid (Nat.le_trans HSZ.out hb5.size)
          clear hbu5 hb5
          go_wp2_with (fail)
          refine (buString_ B B (mkTo name d.a T k ++ [d.a]) y w5 HBU5.out (by have := HTL.out; have := HYL.out; omega) HS5.out).mono ?_
          rintro e w6 ⟨rfl, hbu6, hb6⟩
          have HBU6 := Lib.hid hbu6
          have HB6 : Hid (Below B w0 w6) := Lib.hid (HB5.out.trans hb6)
          clear hbu6 hb6
          go_wp2_with (fail)
          exact ⟨⟨k + 1, HLT.out, by go_num, by rw [HMK.out, HSP.out]; exact HBU6.out, HB6.out⟩, by have := HLT.out; simp [intOf]; omega⟩
    · obtain rfl : k = n := by omega
      have HMD : Hid (makeD name d.a T = mkTo name d.a T k) := Lib.hid (by unfold makeD; rw [HLEN.out])
      clear hlt hk
      go_wp2_with (fail)
      refine (Tryz.Builder_String_any B B (mkTo name d.a T k) wo HBU.out HSZ.out).mono ?_
      rintro e w4 ⟨rfl, hb4⟩
      have HB4 : Hid (Below w.heap.size w w4) := Lib.hid (HB0.out.trans ((HB.out.trans hb4).mono (by have := HBE.out; omega)))
      clear hb4
      go_wp2_with (fail)
      go_ret
      exact ⟨by rw [HMD.out]; rfl, HB4.out⟩
end Go.Proofs.YtodjilljcjkacaaGreatDoor

/- Layer 8: the answer's Make, Fields and Field, walked. -/
namespace Go.Proofs.YtodjilljcjkacaaGreatDoor
open Go.RowKit

end Go.Proofs.YtodjilljcjkacaaGreatDoor

/- Layer 8: the answer's Fields and Field, walked. -/
namespace Go.Proofs.YtodjilljcjkacaaGreatDoor
open Go.RowKit

theorem Ss.drop {w : World} {A : Option Addr} {n c : Nat} {T : List (List UInt8)} (h : Ss w A n c T) {q : Nat} (hq : q ≤ n) : Ss w (if c = q then A else Option.map (fun x => x.add q) A) (n - q) (c - q) (T.drop q) := by
  obtain ⟨h1, h2, h3, h4⟩ := h
  refine ⟨by rw [List.length_drop, h1], by omega, by omega, fun hn => ?_⟩
  obtain ⟨b, o, rfl, hc⟩ := h4 (by omega)
  rw [if_neg (by omega)]
  refine ⟨b, o + q, by simp [Addr.add], fun i x hx => ?_⟩
  rw [List.getElem?_drop] at hx
  have := hc _ _ hx
  rw [Nat.add_assoc]
  exact this

end Go.Proofs.YtodjilljcjkacaaGreatDoor
/- Layer 6: the bytes that may be signs, signs as a row, the common signs, walked. -/
namespace Go.Proofs.YtodjilljcjkacaaGreatDoor
open Go.RowKit

/-- may a byte be a sign? -/
def isSign (n : Nat) : Bool := decide (33 ≤ n) && decide (n ≤ 126) && !(decide (65 ≤ n) && decide (n ≤ 90)) && !(decide (97 ≤ n) && decide (n ≤ 122)) && !(decide (48 ≤ n) && decide (n ≤ 57))

theorem isSign_yes {n : Nat} (h1 : ¬ n < 33) (h2 : ¬ 126 < n) (h3 : ¬ (65 ≤ n ∧ n ≤ 90)) (h4 : ¬ (97 ≤ n ∧ n ≤ 122)) (h5 : ¬ (48 ≤ n ∧ n ≤ 57)) : isSign n = true := by
  simp [isSign]; omega
theorem isSign_no {n : Nat} (h : n < 33 ∨ 126 < n ∨ (65 ≤ n ∧ n ≤ 90) ∨ (97 ≤ n ∧ n ≤ 122) ∨ (48 ≤ n ∧ n ≤ 57)) : isSign n = false := by
  simp [isSign]; omega

set_option maxRecDepth 100000 in
theorem delimSign (c : Nat) (w : World) : Calls Tryz.prog 174 #[.int .u8 (c : Int)] w fun e w' => e = .returned (.bool (isSign c)) ∧ w = w' := by
  by_cases h1 : (c : Int) < 33
  · rw [isSign_no (by omega)]
    go_enter Tryz.func174, Tryz.ntmps174
    go_wp2
    go_ret
    exact ⟨rfl, rfl⟩
  by_cases h2 : (126 : Int) < c
  · rw [isSign_no (by omega)]
    go_enter Tryz.func174, Tryz.ntmps174
    go_wp2
    go_ret
    exact ⟨rfl, rfl⟩
  by_cases h3 : (65 : Int) ≤ c
  · by_cases h4 : (c : Int) ≤ 90
    · rw [isSign_no (by omega)]
      go_enter Tryz.func174, Tryz.ntmps174
      go_wp2
      go_ret
      exact ⟨rfl, rfl⟩
    · by_cases h5 : (97 : Int) ≤ c
      · by_cases h6 : (c : Int) ≤ 122
        · rw [isSign_no (by omega)]
          go_enter Tryz.func174, Tryz.ntmps174
          go_wp2
          go_ret
          exact ⟨rfl, rfl⟩
        · rw [isSign_yes (by omega) (by omega) (by omega) (by omega) (by omega)]
          have h7 : (48 : Int) ≤ c := by omega
          have h8 : ¬ (c : Int) ≤ 57 := by omega
          go_enter Tryz.func174, Tryz.ntmps174
          go_wp2
          go_ret
          exact ⟨rfl, rfl⟩
      · rw [isSign_yes (by omega) (by omega) (by omega) (by omega) (by omega)]
        have h7 : (48 : Int) ≤ c := by omega
        have h8 : ¬ (c : Int) ≤ 57 := by omega
        go_enter Tryz.func174, Tryz.ntmps174
        go_wp2
        go_ret
        exact ⟨rfl, rfl⟩
  · have h5 : ¬ (97 : Int) ≤ c := by omega
    by_cases h7 : (48 : Int) ≤ c
    · by_cases h8 : (c : Int) ≤ 57
      · rw [isSign_no (by omega)]
        go_enter Tryz.func174, Tryz.ntmps174
        go_wp2
        go_ret
        exact ⟨rfl, rfl⟩
      · rw [isSign_yes (by omega) (by omega) (by omega) (by omega) (by omega)]
        go_enter Tryz.func174, Tryz.ntmps174
        go_wp2
        go_ret
        exact ⟨rfl, rfl⟩
    · rw [isSign_yes (by omega) (by omega) (by omega) (by omega) (by omega)]
      go_enter Tryz.func174, Tryz.ntmps174
      go_wp2
      go_ret
      exact ⟨rfl, rfl⟩


set_option maxRecDepth 100000 in
theorem delimRow (a b c d e : Int) (w : World) : Calls Tryz.prog 173 #[dlm a b c d e] w fun x w' => x = .returned (dlm a b c d e) ∧ Below w.heap.size w w' := by
  go_enter Tryz.func173, Tryz.ntmps173
  go_wp2
  exact bodyPost_ret (v := dlm a b c d e) (by simp [results, Tryz.results173, go_sem]) rfl ⟨rfl, ((Below.refl _ w).alloc (Nat.le_refl _) _).alloc (by simp) _⟩

set_option maxRecDepth 100000 in
theorem delimPlain (w : World) : Calls Tryz.prog 172 #[] w fun x w' => x = .returned (dlm 124 94 126 92 38) ∧ Below w.heap.size w w' := by
  go_enter Tryz.func172, Tryz.ntmps172
  go_wp2
  exact bodyPost_ret (v := dlm 124 94 126 92 38) (by simp [results, Tryz.results172, go_sem]) rfl ⟨rfl, (Below.refl _ w).alloc (Nat.le_refl _) _⟩

set_option maxRecDepth 100000 in
theorem strIndexByte (s : ByteArray) (c : Int) (w : World) : Calls Tryz.prog 152 #[.string s, .int .u8 c] w fun e w' => e = .returned (.int .i64 (Lib.indexByte s.data.toList c.toNat.toUInt8)) ∧ w = w' := by
  go_enter Tryz.func152, Tryz.ntmps152
  go_wp2
  rw [run_callFunc_extern Tryz.func186 (by kernel_rfl) (by kernel_rfl) (by kernel_rfl) (e := Extern.BytealgIndexByte.indexByte) (by kernel_rfl), Lib.run_indexByteString]
  simp only [Result.andThen]
  rw [Oper.upon_value]
  go_wp2
  go_ret
  exact ⟨rfl, rfl⟩
end Go.Proofs.YtodjilljcjkacaaGreatDoor
/- Layer 6: whether signs may be, walked. -/
namespace Go.Proofs.YtodjilljcjkacaaGreatDoor
open Go.RowKit

/-- the first j signs may be -/
def goodTo (l : List UInt8) : Nat → Bool
  | 0 => true
  | j + 1 => goodTo l j && isSign (l.getD j 0).toNat && !((l.take j).contains (l.getD j 0))

theorem indexByte_has (l : List UInt8) (c : UInt8) : decide (0 ≤ Lib.indexByte l c) = l.contains c := by
  induction l with
  | nil => rfl
  | cons b l ih =>
    have hg := Lib.indexByte_ge l c
    unfold Lib.indexByte
    by_cases h : b = c
    · simp [h]
    · have h1 : (b == c) = false := by simpa using h
      have h2 : (c == b) = false := by simpa using fun e => h e.symm
      simp only [h1, List.contains_cons, h2, Bool.false_or, Bool.false_eq_true, if_false]
      rw [← ih]
      by_cases hm : Lib.indexByte l c = -1
      · simp [hm]
      · have h3 : (Lib.indexByte l c == -1) = false := by simpa using hm
        simp only [h3, Bool.false_eq_true, if_false]
        congr 1
        apply propext
        omega

def Sgn.good (s : Sgn) : Bool := goodTo s.l 5

theorem int5 (s : Sgn) (j : Nat) (hj : j < 5) (w : World) : (Instr.index 226 s.v (.int .i64 (j : Int))).run Tryz.prog w = .ok (.int .u8 ((s.l.getD j 0).toNat : Int)) w := by
  have h : j = 0 ∨ j = 1 ∨ j = 2 ∨ j = 3 ∨ j = 4 := by omega
  rcases h with rfl | rfl | rfl | rfl | rfl <;> simp [Instr.index, asIntOf, run_underlying Tryz.underlying226, go_sem, Sgn.l]

theorem len5 : Tryz.prog.arrayLen 226 = 5 := by kernel_rfl
theorem size5 (w : World) : (sizeOf (Tryz.prog.elem 226)).run Tryz.prog w = .ok 1 w := by
  rw [show Tryz.prog.elem 226 = 5 from by kernel_rfl]
  simp [go_sem]
theorem slice5 (G j : Nat) (hj : j ≤ 5) (w : World) : (Instr.sliceAt 226 (.pointer (some ⟨G, 0, none⟩)) none (some (.int .i64 (j : Int))) none).run Tryz.prog w = .ok (.slice (some ⟨G, 0, none⟩) j 5) w := by
  rw [run_sliceAt_array_h w 226 ⟨G, 0, none⟩ (by kernel_rfl) .i64 (j : Int) (by omega) (by rw [len5]; omega), size5]
  simp [slicedAt, len5, Result.andThen, Addr.add]
theorem goodTo_le {l : List UInt8} {j k : Nat} (h : goodTo l k = true) (hjk : j ≤ k) : goodTo l j = true := by
  induction k with
  | zero => obtain rfl : j = 0 := by omega
            rfl
  | succ k ih =>
    by_cases e : j = k + 1
    · subst e; exact h
    · simp only [goodTo, Bool.and_eq_true] at h
      exact ih h.1.1 (by omega)
theorem goodTo_no {l : List UInt8} {j : Nat} (h : goodTo l (j + 1) = false) (hj : j < 5) : goodTo l 5 = false := by
  cases h5 : goodTo l 5
  · rfl
  · rw [goodTo_le h5 (show j + 1 ≤ 5 by omega)] at h
    cases h
/-- are they the common ones? -/
def Sgn.plain (s : Sgn) : Bool := (s.a.toNat : Int) == 124 && (s.b.toNat : Int) == 94 && (s.c.toNat : Int) == 126 && (s.d.toNat : Int) == 92 && (s.e.toNat : Int) == 38
theorem Sgn.plain_good {s : Sgn} (h : s.plain = true) : s.good = true := by
  obtain ⟨a, b, c, d, e⟩ := s
  simp only [Sgn.plain, Bool.and_eq_true, beq_iff_eq] at h
  obtain rfl : a = 124 := UInt8.toNat_inj.1 (by show _ = 124; omega)
  obtain rfl : b = 94 := UInt8.toNat_inj.1 (by show _ = 94; omega)
  obtain rfl : c = 126 := UInt8.toNat_inj.1 (by show _ = 126; omega)
  obtain rfl : d = 92 := UInt8.toNat_inj.1 (by show _ = 92; omega)
  obtain rfl : e = 38 := UInt8.toNat_inj.1 (by show _ = 38; omega)
  decide
theorem delims_eq (s : Sgn) (w : World) : (binOp .eql 109 s.v (dlm 124 94 126 92 38)).run Tryz.prog w = .ok (.bool s.plain) w := by
  rw [run_eql_struct, run_equalIn_agg (ht := by kernel_rfl) (hp := by kernel_rfl)]
  simp [Op.eqFields, Program.fieldsOf, Tryz.underlying109, part, go_sem]
  by_cases h1 : (s.a.toNat : Int) = 124 <;> by_cases h2 : (s.b.toNat : Int) = 94 <;> by_cases h3 : (s.c.toNat : Int) = 126 <;> by_cases h4 : (s.d.toNat : Int) = 92 <;> by_cases h5 : (s.e.toNat : Int) = 38 <;> simp [Sgn.plain, h1, h2, h3, h4, h5]

set_option maxRecDepth 100000 in
theorem delimRight (s : Sgn) (w : World) : Calls Tryz.prog 140 #[s.v] w fun x w' => x = .returned (.bool s.good) ∧ Below w.heap.size w w' := by
  have heq := fun w => delims_eq s w
  have HGO := Lib.hid (show s.good = goodTo s.l 5 from rfl)
  have HPG := Lib.hid (@Sgn.plain_good s)
  go_enter Tryz.func140, Tryz.ntmps140
  go_wp2_with (fail)
  have hr := heap_alloc_new w (.cells #[.int .u8 (s.a.toNat : Int), .int .u8 (s.b.toNat : Int), .int .u8 (s.c.toNat : Int), .int .u8 (s.d.toNat : Int), .int .u8 (s.e.toNat : Int)] 109)
  have B1 : Hid (Below w.heap.size w (w.alloc (.cells #[.int .u8 (s.a.toNat : Int), .int .u8 (s.b.toNat : Int), .int .u8 (s.c.toNat : Int), .int .u8 (s.d.toNat : Int), .int .u8 (s.e.toNat : Int)] 109))) := Lib.hid ((Below.refl _ w).alloc (Nat.le_refl _) _)
  have hg : w.heap.size < (w.alloc (.cells #[.int .u8 (s.a.toNat : Int), .int .u8 (s.b.toNat : Int), .int .u8 (s.c.toNat : Int), .int .u8 (s.d.toNat : Int), .int .u8 (s.e.toNat : Int)] 109)).heap.size := by simp
  obtain ⟨G, hG⟩ : ∃ G, G = w.heap.size := ⟨_, rfl⟩
  generalize w.alloc (.cells #[.int .u8 (s.a.toNat : Int), .int .u8 (s.b.toNat : Int), .int .u8 (s.c.toNat : Int), .int .u8 (s.d.toNat : Int), .int .u8 (s.e.toNat : Int)] 109) = W1 at *
  rw [← hG] at hr hg B1 ⊢
  have HBL : Hid (Below w.heap.size w W1) := Lib.hid (by rw [← hG]; exact B1.out)
  clear hG B1
  have L : ∀ (k : Nat) (x : Value), (#[Value.int .u8 (s.a.toNat : Int), .int .u8 (s.b.toNat : Int), .int .u8 (s.c.toNat : Int), .int .u8 (s.d.toNat : Int), .int .u8 (s.e.toNat : Int)] : Array Value)[k]? = some x → ∀ n : Later W1, n.u.cell? ⟨G, k, none⟩ = some x := fun k x hx n => by
    rw [cell_of_row _ _ _ _ _ _ (by rw [n.h.block _ hg]; exact hr)]; exact hx
  have L0 := L 0 _ rfl
  have L1 := L 1 _ rfl
  have L2 := L 2 _ rfl
  have L3 := L 3 _ rfl
  have L4 := L 4 _ rfl
  clear L hr hg
  cases hp : s.plain
  all_goals rw [hp] at heq HPG
  all_goals
    refine region_later (by kernel_rfl) (by kernel_rfl) ?_
    repeat (go_big_quiet_step ((first
      | (go_at_call 172; exact Calls.later (delimPlain _)))))
    refine wpQuiet_nil ?_
    intro nq
    have l0 := L0 nq
    have l1 := L1 nq
    have l2 := L2 nq
    have l3 := L3 nq
    have l4 := L4 nq
    clear L0 L1 L2 L3 L4 heq
    have HB1 : Hid (Below w.heap.size w nq.u) := Lib.hid (HBL.out.trans (nq.h.mono HBL.out.size))
    clear HBL
    generalize nq.u = W2 at *
    clear nq
    go_wp2_with (fail)
  · clear l0 l1 l2 l3 l4
    refine (delimRow _ _ _ _ _ W2).mono ?_
    rintro e w3 ⟨rfl, hb3⟩
    have HB3 : Hid (Below w.heap.size w w3) := Lib.hid (HB1.out.trans (hb3.mono HB1.out.size))
    clear HB1 hb3
    go_wp2_with (fail)
    have hr := heap_alloc_new w3 (.cells #[.int .u8 (s.a.toNat : Int), .int .u8 (s.b.toNat : Int), .int .u8 (s.c.toNat : Int), .int .u8 (s.d.toNat : Int), .int .u8 (s.e.toNat : Int)] 226)
    have hg : w3.heap.size < (w3.alloc (.cells #[.int .u8 (s.a.toNat : Int), .int .u8 (s.b.toNat : Int), .int .u8 (s.c.toNat : Int), .int .u8 (s.d.toNat : Int), .int .u8 (s.e.toNat : Int)] 226)).heap.size := by simp
    have HB4 : Hid (Below w.heap.size w (w3.alloc (.cells #[.int .u8 (s.a.toNat : Int), .int .u8 (s.b.toNat : Int), .int .u8 (s.c.toNat : Int), .int .u8 (s.d.toNat : Int), .int .u8 (s.e.toNat : Int)] 226))) := Lib.hid (HB3.out.alloc HB3.out.size _)
    obtain ⟨G2, hG⟩ : ∃ G, G = w3.heap.size := ⟨_, rfl⟩
    clear HB3
    generalize w3.alloc (.cells #[.int .u8 (s.a.toNat : Int), .int .u8 (s.b.toNat : Int), .int .u8 (s.c.toNat : Int), .int .u8 (s.d.toNat : Int), .int .u8 (s.e.toNat : Int)] 226) = W4 at *
    rw [← hG] at hr hg ⊢
    clear hG
    have HBs : Hid (Bs W4 (some ⟨G2, 0, none⟩) 5 5 s.l) := Lib.hid (Bs.block hr rfl (by simp [maxLen]))
    clear hr hg
    go_loop [12] (fun k => ∃ j : Nat, j ≤ 5 ∧ k = .int .i64 j ∧ goodTo s.l j = true) (fun k => 5 - (intOf k).toNat)
    case atStart => exact ⟨0, Nat.zero_le _, rfl, rfl⟩
    case round =>
      obtain ⟨j, hj, rfl, hgo⟩ := hrel
      have HGJ := Lib.hid hgo
      clear hgo
      by_cases hlt : j < 5
      · have hix := int5 s j hlt
        have HTJ := Lib.hid (indexByte_has (s.l.take j) (s.l.getD j 0))
        have HNX := Lib.hid (show goodTo s.l (j + 1) = (goodTo s.l j && isSign (s.l.getD j 0).toNat && !((s.l.take j).contains (s.l.getD j 0))) from rfl)
        have hcv := (Bs.take HBs.out hj).str (P := Tryz.prog) 40 5 9 Tryz.underlying40 Tryz.underlying5 Tryz.underlying9
        rw [HGJ.out] at HNX
        have hx := (s.l.getD j 0).toNat_lt
        have HX : Hid (((s.l.getD j 0).toNat : Int).toNat.toUInt8 = s.l.getD j 0) := Lib.hid (by simp)
        generalize s.l.getD j 0 = x at *
        generalize (s.l.take j).contains x = h at *
        generalize s.l.take j = L at *
        go_wp2_with (fail)
        refine (delimSign x.toNat W4).mono ?_
        rintro e w5 ⟨rfl, rfl⟩
        generalize isSign x.toNat = i at *
        have hsl := fun w => slice5 G2 j hj w
        have HLT := Lib.hid hlt
        cases i
        · go_wp2_with (fail)
          go_ret
          exact ⟨by rw [HGO.out, goodTo_no (j := j) (by rw [HNX.out]; rfl) HLT.out]; rfl, HB4.out⟩
        · go_wp2_with (fail)
          refine (strIndexByte _ _ W4).mono ?_
          rintro e w6 ⟨rfl, rfl⟩
          rw [HX.out, show (txt L).data.toList = L from rfl]
          generalize Lib.indexByte L x = m at *
          cases h
          · have hm : ¬ (0 : Int) ≤ m := by simpa using HTJ.out
            go_wp2_with (fail)
            go_round
            case rel => exact ⟨j + 1, HLT.out, by go_num, HNX.out⟩
            case measure => have := HLT.out; simp [intOf]; omega
          · have hm : (0 : Int) ≤ m := by simpa using HTJ.out
            go_wp2_with (fail)
            go_ret
            exact ⟨by rw [HGO.out, goodTo_no (j := j) (by rw [HNX.out]; rfl) HLT.out]; rfl, HB4.out⟩
      · obtain rfl : j = 5 := by omega
        go_wp2_with (fail)
        go_ret
        exact ⟨by rw [HGO.out, HGJ.out]; rfl, HB4.out⟩
  · go_ret
    exact ⟨by rw [Sgn.plain_good hp]; rfl, HB1.out⟩
end Go.Proofs.YtodjilljcjkacaaGreatDoor
/- Layer 6: the signs of a message, walked. -/
namespace Go.Proofs.YtodjilljcjkacaaGreatDoor
open Go.RowKit

def Sgn.of (l : List UInt8) : Sgn := ⟨l.getD 3 0, l.getD 4 0, l.getD 5 0, l.getD 6 0, l.getD 7 0⟩
def Sgn.zero : Sgn := ⟨0, 0, 0, 0, 0⟩
/-- the signs of bytes, and the error -/
def readD (l : List UInt8) : Sgn × Int :=
  if l.length < 9 then (Sgn.zero, 7)
  else if l.take 3 ≠ [77, 83, 72] ∨ (Sgn.of l).good = false then (Sgn.zero, 11)
  else if l.getD 8 0 ≠ l.getD 3 0 ∧ l.getD 8 0 ≠ 13 then (Sgn.zero, 11)
  else (Sgn.of l, 0)

/-- a block of five cells, stored over -/
def setFive (W : World) (G : Nat) (a b c d e : Value) : World := ((((W.setCell ⟨G, 0, none⟩ a).setCell ⟨G, 1, none⟩ b).setCell ⟨G, 2, none⟩ c).setCell ⟨G, 3, none⟩ d).setCell ⟨G, 4, none⟩ e
theorem setFive_row {W : World} {G : Nat} {a' b' c' d' e' : Value} {t : TypeId} (h : W.heap[G]? = some (.cells #[a', b', c', d', e'] t)) (a b c d e : Value) : (setFive W G a b c d e).heap[G]? = some (.cells #[a, b, c, d, e] t) :=
  Lib.heap_setCell_same (Lib.heap_setCell_same (Lib.heap_setCell_same (Lib.heap_setCell_same (Lib.heap_setCell_same h a) b) c) d) e
theorem setFive_below {B : Nat} {w W : World} {G : Nat} (h : Below B w W) (hG : B ≤ G) (a b c d e : Value) : Below B w (setFive W G a b c d e) :=
  ((((h.setCell (p := ⟨G, 0, none⟩) hG a).setCell (p := ⟨G, 1, none⟩) hG b).setCell (p := ⟨G, 2, none⟩) hG c).setCell (p := ⟨G, 3, none⟩) hG d).setCell (p := ⟨G, 4, none⟩) hG e
theorem frozen_of {W : World} {G : Nat} {cs : Array Value} {t : TypeId} (h : W.heap[G]? = some (.cells cs t)) (k : Nat) : W.frozen? ⟨G, k, none⟩ = false := by
  simp [World.frozen?, h]

set_option maxHeartbeats 1000000 in
set_option maxRecDepth 100000 in
theorem delimRead_short (A : Option Addr) (n c : Nat) (l : List UInt8) (w : World) (hB : Bs w A n c l) (h9 : (n : Int) < 9) :
    Calls Tryz.prog 102 #[.slice A n c] w fun e w' => e = .returned (.tuple #[(readD l).1.v, .int .i64 (readD l).2]) ∧ Below w.heap.size w w' := by
  have hn := hB.nmax
  have HL := Lib.hid hB.len
  have HB := Lib.hid hB; clear hB
  rw [show readD l = (Sgn.zero, 7) from by unfold readD; rw [if_pos (by rw [HL.out]; omega)]]
  go_enter Tryz.func102, Tryz.ntmps102
  go_wp2_with (fail)
  exact bodyPost_ret (v := .tuple #[dlm 0 0 0 0 0, .int .i64 7]) (by simp [results, Tryz.results102, go_sem]) rfl ⟨rfl, (Below.refl _ w).alloc (Nat.le_refl _) _⟩

set_option maxHeartbeats 1000000 in
set_option maxRecDepth 100000 in
theorem delimRead_head (A : Option Addr) (n c : Nat) (l : List UInt8) (w : World) (hB : Bs w A n c l) (h9 : ¬ (n : Int) < 9) (hm : ¬ l.take 3 = [77, 83, 72]) :
    Calls Tryz.prog 102 #[.slice A n c] w fun e w' => e = .returned (.tuple #[(readD l).1.v, .int .i64 (readD l).2]) ∧ Below w.heap.size w w' := by
  have Khm := Lib.hid hm; clear hm
  have hn := hB.nmax
  have HL := Lib.hid hB.len
  have HB := Lib.hid hB; clear hB
  have h8 : 9 ≤ n := by omega
  obtain ⟨b, o, rfl, hb, hc⟩ := HB.out.at_ (by omega)
  go_enter Tryz.func102, Tryz.ntmps102
  go_wp2_with (fail)
  have hlen := HL.out
  have hr1 := heap_alloc_new w (.cells #[.int .u8 0, .int .u8 0, .int .u8 0, .int .u8 0, .int .u8 0] 109)
  have hg1 : w.heap.size < (w.alloc (.cells #[.int .u8 0, .int .u8 0, .int .u8 0, .int .u8 0, .int .u8 0] 109)).heap.size := by simp
  have HB1 : Hid (Below w.heap.size w (w.alloc (.cells #[.int .u8 0, .int .u8 0, .int .u8 0, .int .u8 0, .int .u8 0] 109))) := Lib.hid ((Below.refl _ w).alloc (Nat.le_refl _) _)
  have HS1 := Lib.hid (HB.out.alloc (.cells #[.int .u8 0, .int .u8 0, .int .u8 0, .int .u8 0, .int .u8 0] 109))
  clear HB hb hc
  obtain ⟨G1, hG⟩ : ∃ G, G = w.heap.size := ⟨_, rfl⟩
  have HG1 : Hid (w.heap.size ≤ G1) := Lib.hid (by omega)
  generalize w.alloc (.cells #[.int .u8 0, .int .u8 0, .int .u8 0, .int .u8 0, .int .u8 0] 109) = W1 at *
  rw [← hG] at hr1 hg1 ⊢
  have HB1' : Hid (Below w.heap.size w W1) := Lib.hid (by first | exact HB1.out | (rw [← hG]; exact HB1.out))
  clear hG HB1
  have cell : ∀ k, k < n → W1.cell? ⟨b, o + k, none⟩ = some (.int .u8 ((l.getD k 0).toNat : Int)) := by
    intro k hk
    obtain ⟨b', o', e, _, hc⟩ := HS1.out.at_ (by omega)
    cases e
    rw [hc k (l.getD k 0) (by rw [List.getD_eq_getElem?_getD, List.getElem?_eq_getElem (by omega)]; rfl)]
  obtain ⟨S, hS⟩ : ∃ S : Sgn, S = Sgn.of l := ⟨_, rfl⟩
  obtain ⟨x8, hx8⟩ : ∃ x : UInt8, x = l.getD 8 0 := ⟨_, rfl⟩
  have z3 : W1.cell? ⟨b, o + 3, none⟩ = some (.int .u8 (S.a.toNat : Int)) := by rw [hS]; exact cell 3 (by omega)
  have z4 : W1.cell? ⟨b, o + 4, none⟩ = some (.int .u8 (S.b.toNat : Int)) := by rw [hS]; exact cell 4 (by omega)
  have z5 : W1.cell? ⟨b, o + 5, none⟩ = some (.int .u8 (S.c.toNat : Int)) := by rw [hS]; exact cell 5 (by omega)
  have z6 : W1.cell? ⟨b, o + 6, none⟩ = some (.int .u8 (S.d.toNat : Int)) := by rw [hS]; exact cell 6 (by omega)
  have z7 : W1.cell? ⟨b, o + 7, none⟩ = some (.int .u8 (S.e.toNat : Int)) := by rw [hS]; exact cell 7 (by omega)
  have z8 : W1.cell? ⟨b, o + 8, none⟩ = some (.int .u8 (x8.toNat : Int)) := by rw [hx8]; exact cell 8 (by omega)
  have HSS := Lib.hid hS
  have HX8 := Lib.hid hx8
  clear hS hx8
  clear cell
  have i3 : (3 : Int) < n := by omega
  have i4 : (4 : Int) < n := by omega
  have i5 : (5 : Int) < n := by omega
  have i6 : (6 : Int) < n := by omega
  have i7 : (7 : Int) < n := by omega
  have HR1 := Lib.hid hr1
  have HH1 := Lib.hid hg1
  clear hr1 hg1
  have hbw : b < W1.heap.size := by
    obtain ⟨b', o', e, hb', _⟩ := HS1.out.at_ (by omega)
    cases e
    exact hb'
  have hbne : b ≠ W1.heap.size := by omega
  have hbne' : ¬ W1.heap.size = b := by omega
  have Z8 := Lib.hid z8
  clear z8
  go_region
  have hr2 : ((W1.alloc (.cells #[.int .u8 (S.a.toNat : Int), .int .u8 (S.b.toNat : Int), .int .u8 (S.c.toNat : Int), .int .u8 (S.d.toNat : Int), .int .u8 (S.e.toNat : Int)] 109)).drew).heap[W1.heap.size]? = some (.cells #[.int .u8 (S.a.toNat : Int), .int .u8 (S.b.toNat : Int), .int .u8 (S.c.toNat : Int), .int .u8 (S.d.toNat : Int), .int .u8 (S.e.toNat : Int)] 109) := heap_alloc_new W1 (.cells #[.int .u8 (S.a.toNat : Int), .int .u8 (S.b.toNat : Int), .int .u8 (S.c.toNat : Int), .int .u8 (S.d.toNat : Int), .int .u8 (S.e.toNat : Int)] 109)
  have HS2 : Hid (Bs ((W1.alloc (.cells #[.int .u8 (S.a.toNat : Int), .int .u8 (S.b.toNat : Int), .int .u8 (S.c.toNat : Int), .int .u8 (S.d.toNat : Int), .int .u8 (S.e.toNat : Int)] 109)).drew) (some ⟨b, o, none⟩) n c l) := Lib.hid (HS1.out.alloc (.cells #[.int .u8 (S.a.toNat : Int), .int .u8 (S.b.toNat : Int), .int .u8 (S.c.toNat : Int), .int .u8 (S.d.toNat : Int), .int .u8 (S.e.toNat : Int)] 109)).drew
  have hb2 : Below W1.heap.size W1 ((W1.alloc (.cells #[.int .u8 (S.a.toNat : Int), .int .u8 (S.b.toNat : Int), .int .u8 (S.c.toNat : Int), .int .u8 (S.d.toNat : Int), .int .u8 (S.e.toNat : Int)] 109)).drew) := ((Below.refl _ W1).alloc (Nat.le_refl _) _).drew
  have HB2 : Hid (Below w.heap.size w ((W1.alloc (.cells #[.int .u8 (S.a.toNat : Int), .int .u8 (S.b.toNat : Int), .int .u8 (S.c.toNat : Int), .int .u8 (S.d.toNat : Int), .int .u8 (S.e.toNat : Int)] 109)).drew)) := Lib.hid (HB1'.out.trans (hb2.mono HB1'.out.size))
  have HR2 : Hid (((W1.alloc (.cells #[.int .u8 (S.a.toNat : Int), .int .u8 (S.b.toNat : Int), .int .u8 (S.c.toNat : Int), .int .u8 (S.d.toNat : Int), .int .u8 (S.e.toNat : Int)] 109)).drew).heap[G1]? = some (.cells #[.int .u8 0, .int .u8 0, .int .u8 0, .int .u8 0, .int .u8 0] 109)) := Lib.hid (by rw [hb2.block _ HH1.out]; exact HR1.out)
  have HG2 : Hid (G1 < ((W1.alloc (.cells #[.int .u8 (S.a.toNat : Int), .int .u8 (S.b.toNat : Int), .int .u8 (S.c.toNat : Int), .int .u8 (S.d.toNat : Int), .int .u8 (S.e.toNat : Int)] 109)).drew).heap.size) := Lib.hid (Nat.lt_of_lt_of_le HH1.out hb2.size)
  have HGG : Hid (W1.heap.size < ((W1.alloc (.cells #[.int .u8 (S.a.toNat : Int), .int .u8 (S.b.toNat : Int), .int .u8 (S.c.toNat : Int), .int .u8 (S.d.toNat : Int), .int .u8 (S.e.toNat : Int)] 109)).drew).heap.size) := Lib.hid (by show _ < (W1.alloc (.cells #[.int .u8 (S.a.toNat : Int), .int .u8 (S.b.toNat : Int), .int .u8 (S.c.toNat : Int), .int .u8 (S.d.toNat : Int), .int .u8 (S.e.toNat : Int)] 109)).heap.size; simp)
  have HZ8 : Hid (((W1.alloc (.cells #[.int .u8 (S.a.toNat : Int), .int .u8 (S.b.toNat : Int), .int .u8 (S.c.toNat : Int), .int .u8 (S.d.toNat : Int), .int .u8 (S.e.toNat : Int)] 109)).drew).cell? ⟨b, o + 8, none⟩ = some (.int .u8 (x8.toNat : Int))) := Lib.hid (by rw [hb2.cell (p := ⟨b, o + 8, none⟩) hbw]; exact Z8.out)
  obtain ⟨G2, hG2⟩ : ∃ G, G = W1.heap.size := ⟨_, rfl⟩
  have HNE : Hid (G2 ≠ G1) := Lib.hid (by have := HH1.out; omega)
  clear hb2 hbne hbne' z3 z4 z5 z6 z7 i3 i4 i5 i6 i7 HS1 HB1' HR1 HH1 Z8
  generalize (W1.alloc (.cells #[.int .u8 (S.a.toNat : Int), .int .u8 (S.b.toNat : Int), .int .u8 (S.c.toNat : Int), .int .u8 (S.d.toNat : Int), .int .u8 (S.e.toNat : Int)] 109)).drew = W2 at *
  rw [← hG2] at hr2 HGG ⊢
  clear hG2
  have q0 := cell_of_row W2 G2 0 _ _ _ hr2
  have q1 := cell_of_row W2 G2 1 _ _ _ hr2
  have q2 := cell_of_row W2 G2 2 _ _ _ hr2
  have q3 := cell_of_row W2 G2 3 _ _ _ hr2
  have q4 := cell_of_row W2 G2 4 _ _ _ hr2
  simp only [List.getElem?_toArray, List.getElem?_cons_zero, List.getElem?_cons_succ] at q0 q1 q2 q3 q4
  have HR3 := Lib.hid hr2
  clear hr2
  have hcv := (Bs.take HS2.out (j := 3) (by omega)).str (P := Tryz.prog) 40 5 9 Tryz.underlying40 Tryz.underlying5 Tryz.underlying9
  have hc3 : (3 : Int) ≤ c := by have := HS2.out.le; omega
  have HRD : Hid (readD l = if l.take 3 ≠ [77, 83, 72] ∨ S.good = false then (Sgn.zero, 11) else if x8 ≠ S.a ∧ x8 ≠ 13 then (Sgn.zero, 11) else (S, 0)) := Lib.hid (by unfold readD; rw [if_neg (by rw [hlen]; omega), ← HSS.out, ← HX8.out, show l.getD 3 0 = S.a from by rw [HSS.out]; rfl])
  have ZC : ∀ w3 : World, Below W2.heap.size W2 w3 → w3.heap[G1]? = some (.cells #[.int .u8 0, .int .u8 0, .int .u8 0, .int .u8 0, .int .u8 0] 109) ∧ w3.cell? ⟨b, o + 8, none⟩ = some (.int .u8 (x8.toNat : Int)) ∧ w3.heap[G2]? = some (.cells #[.int .u8 (S.a.toNat : Int), .int .u8 (S.b.toNat : Int), .int .u8 (S.c.toNat : Int), .int .u8 (S.d.toNat : Int), .int .u8 (S.e.toNat : Int)] 109) := fun w3 h3 => ⟨by rw [h3.block _ HG2.out]; exact HR2.out, by
    obtain ⟨b', o', e, hb', _⟩ := HS2.out.at_ (by omega)
    cases e
    rw [h3.cell (p := ⟨b, o + 8, none⟩) hb']; exact HZ8.out, by rw [h3.block _ HGG.out]; exact HR3.out⟩
  have ZCH := Lib.hid ZC
  clear ZC
  have hm := Khm.out; clear Khm
  have hm' : (l.take 3 = [77, 83, 72]) = False := by simp [hm]
  have HRZ := Lib.hid (show readD l = (Sgn.zero, 11) from by rw [HRD.out, if_pos (.inl hm)])
  clear HRD q0 q1 q2 q3 q4
  have c0 := cell_of_row _ G1 0 _ _ _ HR2.out
  have c1 := cell_of_row _ G1 1 _ _ _ HR2.out
  have c2 := cell_of_row _ G1 2 _ _ _ HR2.out
  have c3 := cell_of_row _ G1 3 _ _ _ HR2.out
  have c4 := cell_of_row _ G1 4 _ _ _ HR2.out
  simp only [List.getElem?_toArray, List.getElem?_cons_zero, List.getElem?_cons_succ] at c0 c1 c2 c3 c4
  have f0 := frozen_of HR2.out 0
  have f1 := frozen_of HR2.out 1
  have f2 := frozen_of HR2.out 2
  have f3 := frozen_of HR2.out 3
  have f4 := frozen_of HR2.out 4
  go_wp2_with (fail)
  clear c0 c1 c2 c3 c4 f0 f1 f2 f3 f4
  have hrow := setFive_row (W := W2) HR2.out (.int .u8 0) (.int .u8 0) (.int .u8 0) (.int .u8 0) (.int .u8 0)
  have hbel := setFive_below (W := W2) HB2.out HG1.out (.int .u8 0) (.int .u8 0) (.int .u8 0) (.int .u8 0) (.int .u8 0)
  unfold setFive at hrow hbel
  generalize (((((W2.setCell ⟨G1, 0, none⟩ (.int .u8 0)).setCell ⟨G1, 1, none⟩ (.int .u8 0)).setCell ⟨G1, 2, none⟩ (.int .u8 0)).setCell ⟨G1, 3, none⟩ (.int .u8 0)).setCell ⟨G1, 4, none⟩ (.int .u8 0)) = W5 at hrow hbel ⊢
  have c0 := cell_of_row _ G1 0 _ _ _ hrow
  have c1 := cell_of_row _ G1 1 _ _ _ hrow
  have c2 := cell_of_row _ G1 2 _ _ _ hrow
  have c3 := cell_of_row _ G1 3 _ _ _ hrow
  have c4 := cell_of_row _ G1 4 _ _ _ hrow
  simp only [List.getElem?_toArray, List.getElem?_cons_zero, List.getElem?_cons_succ] at c0 c1 c2 c3 c4
  exact bodyPost_ret (v := .tuple #[dlm 0 0 0 0 0, .int .i64 11]) (by simp [results, Tryz.results102, go_sem, c0, c1, c2, c3, c4]) rfl ⟨by rw [HRZ.out]; rfl, hbel⟩
end Go.Proofs.YtodjilljcjkacaaGreatDoor
/- Layer 6: signs that may not be, walked. -/
namespace Go.Proofs.YtodjilljcjkacaaGreatDoor
open Go.RowKit

set_option maxHeartbeats 1000000 in
set_option maxRecDepth 100000 in
theorem delimRead_bad (A : Option Addr) (n c : Nat) (l : List UInt8) (w : World) (hB : Bs w A n c l) (h9 : ¬ (n : Int) < 9) (hm : l.take 3 = [77, 83, 72]) (hgd : (Sgn.of l).good = false) :
    Calls Tryz.prog 102 #[.slice A n c] w fun e w' => e = .returned (.tuple #[(readD l).1.v, .int .i64 (readD l).2]) ∧ Below w.heap.size w w' := by
  have Khm := Lib.hid hm; clear hm
  have Khgd := Lib.hid hgd; clear hgd
  have hn := hB.nmax
  have HL := Lib.hid hB.len
  have HB := Lib.hid hB; clear hB
  have h8 : 9 ≤ n := by omega
  obtain ⟨b, o, rfl, hb, hc⟩ := HB.out.at_ (by omega)
  go_enter Tryz.func102, Tryz.ntmps102
  go_wp2_with (fail)
  have hlen := HL.out
  have hr1 := heap_alloc_new w (.cells #[.int .u8 0, .int .u8 0, .int .u8 0, .int .u8 0, .int .u8 0] 109)
  have hg1 : w.heap.size < (w.alloc (.cells #[.int .u8 0, .int .u8 0, .int .u8 0, .int .u8 0, .int .u8 0] 109)).heap.size := by simp
  have HB1 : Hid (Below w.heap.size w (w.alloc (.cells #[.int .u8 0, .int .u8 0, .int .u8 0, .int .u8 0, .int .u8 0] 109))) := Lib.hid ((Below.refl _ w).alloc (Nat.le_refl _) _)
  have HS1 := Lib.hid (HB.out.alloc (.cells #[.int .u8 0, .int .u8 0, .int .u8 0, .int .u8 0, .int .u8 0] 109))
  clear HB hb hc
  obtain ⟨G1, hG⟩ : ∃ G, G = w.heap.size := ⟨_, rfl⟩
  have HG1 : Hid (w.heap.size ≤ G1) := Lib.hid (by omega)
  generalize w.alloc (.cells #[.int .u8 0, .int .u8 0, .int .u8 0, .int .u8 0, .int .u8 0] 109) = W1 at *
  rw [← hG] at hr1 hg1 ⊢
  have HB1' : Hid (Below w.heap.size w W1) := Lib.hid (by first | exact HB1.out | (rw [← hG]; exact HB1.out))
  clear hG HB1
  have cell : ∀ k, k < n → W1.cell? ⟨b, o + k, none⟩ = some (.int .u8 ((l.getD k 0).toNat : Int)) := by
    intro k hk
    obtain ⟨b', o', e, _, hc⟩ := HS1.out.at_ (by omega)
    cases e
    rw [hc k (l.getD k 0) (by rw [List.getD_eq_getElem?_getD, List.getElem?_eq_getElem (by omega)]; rfl)]
  obtain ⟨S, hS⟩ : ∃ S : Sgn, S = Sgn.of l := ⟨_, rfl⟩
  obtain ⟨x8, hx8⟩ : ∃ x : UInt8, x = l.getD 8 0 := ⟨_, rfl⟩
  have z3 : W1.cell? ⟨b, o + 3, none⟩ = some (.int .u8 (S.a.toNat : Int)) := by rw [hS]; exact cell 3 (by omega)
  have z4 : W1.cell? ⟨b, o + 4, none⟩ = some (.int .u8 (S.b.toNat : Int)) := by rw [hS]; exact cell 4 (by omega)
  have z5 : W1.cell? ⟨b, o + 5, none⟩ = some (.int .u8 (S.c.toNat : Int)) := by rw [hS]; exact cell 5 (by omega)
  have z6 : W1.cell? ⟨b, o + 6, none⟩ = some (.int .u8 (S.d.toNat : Int)) := by rw [hS]; exact cell 6 (by omega)
  have z7 : W1.cell? ⟨b, o + 7, none⟩ = some (.int .u8 (S.e.toNat : Int)) := by rw [hS]; exact cell 7 (by omega)
  have z8 : W1.cell? ⟨b, o + 8, none⟩ = some (.int .u8 (x8.toNat : Int)) := by rw [hx8]; exact cell 8 (by omega)
  have HSS := Lib.hid hS
  have HX8 := Lib.hid hx8
  clear hS hx8
  clear cell
  have i3 : (3 : Int) < n := by omega
  have i4 : (4 : Int) < n := by omega
  have i5 : (5 : Int) < n := by omega
  have i6 : (6 : Int) < n := by omega
  have i7 : (7 : Int) < n := by omega
  have HR1 := Lib.hid hr1
  have HH1 := Lib.hid hg1
  clear hr1 hg1
  have hbw : b < W1.heap.size := by
    obtain ⟨b', o', e, hb', _⟩ := HS1.out.at_ (by omega)
    cases e
    exact hb'
  have hbne : b ≠ W1.heap.size := by omega
  have hbne' : ¬ W1.heap.size = b := by omega
  have Z8 := Lib.hid z8
  clear z8
  go_region
  have hr2 : ((W1.alloc (.cells #[.int .u8 (S.a.toNat : Int), .int .u8 (S.b.toNat : Int), .int .u8 (S.c.toNat : Int), .int .u8 (S.d.toNat : Int), .int .u8 (S.e.toNat : Int)] 109)).drew).heap[W1.heap.size]? = some (.cells #[.int .u8 (S.a.toNat : Int), .int .u8 (S.b.toNat : Int), .int .u8 (S.c.toNat : Int), .int .u8 (S.d.toNat : Int), .int .u8 (S.e.toNat : Int)] 109) := heap_alloc_new W1 (.cells #[.int .u8 (S.a.toNat : Int), .int .u8 (S.b.toNat : Int), .int .u8 (S.c.toNat : Int), .int .u8 (S.d.toNat : Int), .int .u8 (S.e.toNat : Int)] 109)
  have HS2 : Hid (Bs ((W1.alloc (.cells #[.int .u8 (S.a.toNat : Int), .int .u8 (S.b.toNat : Int), .int .u8 (S.c.toNat : Int), .int .u8 (S.d.toNat : Int), .int .u8 (S.e.toNat : Int)] 109)).drew) (some ⟨b, o, none⟩) n c l) := Lib.hid (HS1.out.alloc (.cells #[.int .u8 (S.a.toNat : Int), .int .u8 (S.b.toNat : Int), .int .u8 (S.c.toNat : Int), .int .u8 (S.d.toNat : Int), .int .u8 (S.e.toNat : Int)] 109)).drew
  have hb2 : Below W1.heap.size W1 ((W1.alloc (.cells #[.int .u8 (S.a.toNat : Int), .int .u8 (S.b.toNat : Int), .int .u8 (S.c.toNat : Int), .int .u8 (S.d.toNat : Int), .int .u8 (S.e.toNat : Int)] 109)).drew) := ((Below.refl _ W1).alloc (Nat.le_refl _) _).drew
  have HB2 : Hid (Below w.heap.size w ((W1.alloc (.cells #[.int .u8 (S.a.toNat : Int), .int .u8 (S.b.toNat : Int), .int .u8 (S.c.toNat : Int), .int .u8 (S.d.toNat : Int), .int .u8 (S.e.toNat : Int)] 109)).drew)) := Lib.hid (HB1'.out.trans (hb2.mono HB1'.out.size))
  have HR2 : Hid (((W1.alloc (.cells #[.int .u8 (S.a.toNat : Int), .int .u8 (S.b.toNat : Int), .int .u8 (S.c.toNat : Int), .int .u8 (S.d.toNat : Int), .int .u8 (S.e.toNat : Int)] 109)).drew).heap[G1]? = some (.cells #[.int .u8 0, .int .u8 0, .int .u8 0, .int .u8 0, .int .u8 0] 109)) := Lib.hid (by rw [hb2.block _ HH1.out]; exact HR1.out)
  have HG2 : Hid (G1 < ((W1.alloc (.cells #[.int .u8 (S.a.toNat : Int), .int .u8 (S.b.toNat : Int), .int .u8 (S.c.toNat : Int), .int .u8 (S.d.toNat : Int), .int .u8 (S.e.toNat : Int)] 109)).drew).heap.size) := Lib.hid (Nat.lt_of_lt_of_le HH1.out hb2.size)
  have HGG : Hid (W1.heap.size < ((W1.alloc (.cells #[.int .u8 (S.a.toNat : Int), .int .u8 (S.b.toNat : Int), .int .u8 (S.c.toNat : Int), .int .u8 (S.d.toNat : Int), .int .u8 (S.e.toNat : Int)] 109)).drew).heap.size) := Lib.hid (by show _ < (W1.alloc (.cells #[.int .u8 (S.a.toNat : Int), .int .u8 (S.b.toNat : Int), .int .u8 (S.c.toNat : Int), .int .u8 (S.d.toNat : Int), .int .u8 (S.e.toNat : Int)] 109)).heap.size; simp)
  have HZ8 : Hid (((W1.alloc (.cells #[.int .u8 (S.a.toNat : Int), .int .u8 (S.b.toNat : Int), .int .u8 (S.c.toNat : Int), .int .u8 (S.d.toNat : Int), .int .u8 (S.e.toNat : Int)] 109)).drew).cell? ⟨b, o + 8, none⟩ = some (.int .u8 (x8.toNat : Int))) := Lib.hid (by rw [hb2.cell (p := ⟨b, o + 8, none⟩) hbw]; exact Z8.out)
  obtain ⟨G2, hG2⟩ : ∃ G, G = W1.heap.size := ⟨_, rfl⟩
  have HNE : Hid (G2 ≠ G1) := Lib.hid (by have := HH1.out; omega)
  clear hb2 hbne hbne' z3 z4 z5 z6 z7 i3 i4 i5 i6 i7 HS1 HB1' HR1 HH1 Z8
  generalize (W1.alloc (.cells #[.int .u8 (S.a.toNat : Int), .int .u8 (S.b.toNat : Int), .int .u8 (S.c.toNat : Int), .int .u8 (S.d.toNat : Int), .int .u8 (S.e.toNat : Int)] 109)).drew = W2 at *
  rw [← hG2] at hr2 HGG ⊢
  clear hG2
  have q0 := cell_of_row W2 G2 0 _ _ _ hr2
  have q1 := cell_of_row W2 G2 1 _ _ _ hr2
  have q2 := cell_of_row W2 G2 2 _ _ _ hr2
  have q3 := cell_of_row W2 G2 3 _ _ _ hr2
  have q4 := cell_of_row W2 G2 4 _ _ _ hr2
  simp only [List.getElem?_toArray, List.getElem?_cons_zero, List.getElem?_cons_succ] at q0 q1 q2 q3 q4
  have HR3 := Lib.hid hr2
  clear hr2
  have hcv := (Bs.take HS2.out (j := 3) (by omega)).str (P := Tryz.prog) 40 5 9 Tryz.underlying40 Tryz.underlying5 Tryz.underlying9
  have hc3 : (3 : Int) ≤ c := by have := HS2.out.le; omega
  have HRD : Hid (readD l = if l.take 3 ≠ [77, 83, 72] ∨ S.good = false then (Sgn.zero, 11) else if x8 ≠ S.a ∧ x8 ≠ 13 then (Sgn.zero, 11) else (S, 0)) := Lib.hid (by unfold readD; rw [if_neg (by rw [hlen]; omega), ← HSS.out, ← HX8.out, show l.getD 3 0 = S.a from by rw [HSS.out]; rfl])
  have ZC : ∀ w3 : World, Below W2.heap.size W2 w3 → w3.heap[G1]? = some (.cells #[.int .u8 0, .int .u8 0, .int .u8 0, .int .u8 0, .int .u8 0] 109) ∧ w3.cell? ⟨b, o + 8, none⟩ = some (.int .u8 (x8.toNat : Int)) ∧ w3.heap[G2]? = some (.cells #[.int .u8 (S.a.toNat : Int), .int .u8 (S.b.toNat : Int), .int .u8 (S.c.toNat : Int), .int .u8 (S.d.toNat : Int), .int .u8 (S.e.toNat : Int)] 109) := fun w3 h3 => ⟨by rw [h3.block _ HG2.out]; exact HR2.out, by
    obtain ⟨b', o', e, hb', _⟩ := HS2.out.at_ (by omega)
    cases e
    rw [h3.cell (p := ⟨b, o + 8, none⟩) hb']; exact HZ8.out, by rw [h3.block _ HGG.out]; exact HR3.out⟩
  have ZCH := Lib.hid ZC
  clear ZC
  have hm := Khm.out; clear Khm
  rw [hm] at hcv
  have HM := Lib.hid hm
  go_wp2_with (fail)
  refine (delimRight S W2).mono ?_
  rintro e w3 ⟨rfl, hb3⟩
  have hz := ZCH.out w3 hb3
  have HB3 : Hid (Below w.heap.size w w3) := Lib.hid (HB2.out.trans (hb3.mono HB2.out.size))
  clear hb3 q0 q1 q2 q3 q4 hcv ZCH
  have HR1 := Lib.hid hz.1
  have HR3' := Lib.hid hz.2.2
  have z8 := hz.2.1
  clear hz
  have hgd : S.good = false := by rw [HSS.out]; exact Khgd.out
  clear Khgd
  rw [hgd]
  have HRZ := Lib.hid (show readD l = (Sgn.zero, 11) from by rw [HRD.out, if_pos (.inr hgd)])
  clear HRD z8 HR3'
  have c0 := cell_of_row _ G1 0 _ _ _ HR1.out
  have c1 := cell_of_row _ G1 1 _ _ _ HR1.out
  have c2 := cell_of_row _ G1 2 _ _ _ HR1.out
  have c3 := cell_of_row _ G1 3 _ _ _ HR1.out
  have c4 := cell_of_row _ G1 4 _ _ _ HR1.out
  simp only [List.getElem?_toArray, List.getElem?_cons_zero, List.getElem?_cons_succ] at c0 c1 c2 c3 c4
  have f0 := frozen_of HR1.out 0
  have f1 := frozen_of HR1.out 1
  have f2 := frozen_of HR1.out 2
  have f3 := frozen_of HR1.out 3
  have f4 := frozen_of HR1.out 4
  go_wp2_with (fail)
  clear c0 c1 c2 c3 c4 f0 f1 f2 f3 f4
  have hrow := setFive_row (W := w3) HR1.out (.int .u8 0) (.int .u8 0) (.int .u8 0) (.int .u8 0) (.int .u8 0)
  have hbel := setFive_below (W := w3) HB3.out HG1.out (.int .u8 0) (.int .u8 0) (.int .u8 0) (.int .u8 0) (.int .u8 0)
  unfold setFive at hrow hbel
  generalize (((((w3.setCell ⟨G1, 0, none⟩ (.int .u8 0)).setCell ⟨G1, 1, none⟩ (.int .u8 0)).setCell ⟨G1, 2, none⟩ (.int .u8 0)).setCell ⟨G1, 3, none⟩ (.int .u8 0)).setCell ⟨G1, 4, none⟩ (.int .u8 0)) = W5 at hrow hbel ⊢
  have c0 := cell_of_row _ G1 0 _ _ _ hrow
  have c1 := cell_of_row _ G1 1 _ _ _ hrow
  have c2 := cell_of_row _ G1 2 _ _ _ hrow
  have c3 := cell_of_row _ G1 3 _ _ _ hrow
  have c4 := cell_of_row _ G1 4 _ _ _ hrow
  simp only [List.getElem?_toArray, List.getElem?_cons_zero, List.getElem?_cons_succ] at c0 c1 c2 c3 c4
  exact bodyPost_ret (v := .tuple #[dlm 0 0 0 0 0, .int .i64 11]) (by simp [results, Tryz.results102, go_sem, c0, c1, c2, c3, c4]) rfl ⟨by rw [HRZ.out]; rfl, hbel⟩
end Go.Proofs.YtodjilljcjkacaaGreatDoor
/- Layer 6: signs that may be, the first one behind them, walked. -/
namespace Go.Proofs.YtodjilljcjkacaaGreatDoor
open Go.RowKit

set_option maxHeartbeats 1000000 in
set_option maxRecDepth 100000 in
theorem delimRead_first (A : Option Addr) (n c : Nat) (l : List UInt8) (w : World) (hB : Bs w A n c l) (h9 : ¬ (n : Int) < 9) (hm : l.take 3 = [77, 83, 72]) (hgd : (Sgn.of l).good = true) (h1 : l.getD 8 0 = l.getD 3 0) :
    Calls Tryz.prog 102 #[.slice A n c] w fun e w' => e = .returned (.tuple #[(readD l).1.v, .int .i64 (readD l).2]) ∧ Below w.heap.size w w' := by
  have Khm := Lib.hid hm; clear hm
  have Khgd := Lib.hid hgd; clear hgd
  have Kh1 := Lib.hid h1; clear h1
  have hn := hB.nmax
  have HL := Lib.hid hB.len
  have HB := Lib.hid hB; clear hB
  have h8 : 9 ≤ n := by omega
  obtain ⟨b, o, rfl, hb, hc⟩ := HB.out.at_ (by omega)
  go_enter Tryz.func102, Tryz.ntmps102
  go_wp2_with (fail)
  have hlen := HL.out
  have hr1 := heap_alloc_new w (.cells #[.int .u8 0, .int .u8 0, .int .u8 0, .int .u8 0, .int .u8 0] 109)
  have hg1 : w.heap.size < (w.alloc (.cells #[.int .u8 0, .int .u8 0, .int .u8 0, .int .u8 0, .int .u8 0] 109)).heap.size := by simp
  have HB1 : Hid (Below w.heap.size w (w.alloc (.cells #[.int .u8 0, .int .u8 0, .int .u8 0, .int .u8 0, .int .u8 0] 109))) := Lib.hid ((Below.refl _ w).alloc (Nat.le_refl _) _)
  have HS1 := Lib.hid (HB.out.alloc (.cells #[.int .u8 0, .int .u8 0, .int .u8 0, .int .u8 0, .int .u8 0] 109))
  clear HB hb hc
  obtain ⟨G1, hG⟩ : ∃ G, G = w.heap.size := ⟨_, rfl⟩
  have HG1 : Hid (w.heap.size ≤ G1) := Lib.hid (by omega)
  generalize w.alloc (.cells #[.int .u8 0, .int .u8 0, .int .u8 0, .int .u8 0, .int .u8 0] 109) = W1 at *
  rw [← hG] at hr1 hg1 ⊢
  have HB1' : Hid (Below w.heap.size w W1) := Lib.hid (by first | exact HB1.out | (rw [← hG]; exact HB1.out))
  clear hG HB1
  have cell : ∀ k, k < n → W1.cell? ⟨b, o + k, none⟩ = some (.int .u8 ((l.getD k 0).toNat : Int)) := by
    intro k hk
    obtain ⟨b', o', e, _, hc⟩ := HS1.out.at_ (by omega)
    cases e
    rw [hc k (l.getD k 0) (by rw [List.getD_eq_getElem?_getD, List.getElem?_eq_getElem (by omega)]; rfl)]
  obtain ⟨S, hS⟩ : ∃ S : Sgn, S = Sgn.of l := ⟨_, rfl⟩
  obtain ⟨x8, hx8⟩ : ∃ x : UInt8, x = l.getD 8 0 := ⟨_, rfl⟩
  have z3 : W1.cell? ⟨b, o + 3, none⟩ = some (.int .u8 (S.a.toNat : Int)) := by rw [hS]; exact cell 3 (by omega)
  have z4 : W1.cell? ⟨b, o + 4, none⟩ = some (.int .u8 (S.b.toNat : Int)) := by rw [hS]; exact cell 4 (by omega)
  have z5 : W1.cell? ⟨b, o + 5, none⟩ = some (.int .u8 (S.c.toNat : Int)) := by rw [hS]; exact cell 5 (by omega)
  have z6 : W1.cell? ⟨b, o + 6, none⟩ = some (.int .u8 (S.d.toNat : Int)) := by rw [hS]; exact cell 6 (by omega)
  have z7 : W1.cell? ⟨b, o + 7, none⟩ = some (.int .u8 (S.e.toNat : Int)) := by rw [hS]; exact cell 7 (by omega)
  have z8 : W1.cell? ⟨b, o + 8, none⟩ = some (.int .u8 (x8.toNat : Int)) := by rw [hx8]; exact cell 8 (by omega)
  have HSS := Lib.hid hS
  have HX8 := Lib.hid hx8
  clear hS hx8
  clear cell
  have i3 : (3 : Int) < n := by omega
  have i4 : (4 : Int) < n := by omega
  have i5 : (5 : Int) < n := by omega
  have i6 : (6 : Int) < n := by omega
  have i7 : (7 : Int) < n := by omega
  have HR1 := Lib.hid hr1
  have HH1 := Lib.hid hg1
  clear hr1 hg1
  have hbw : b < W1.heap.size := by
    obtain ⟨b', o', e, hb', _⟩ := HS1.out.at_ (by omega)
    cases e
    exact hb'
  have hbne : b ≠ W1.heap.size := by omega
  have hbne' : ¬ W1.heap.size = b := by omega
  have Z8 := Lib.hid z8
  clear z8
  go_region
  have hr2 : ((W1.alloc (.cells #[.int .u8 (S.a.toNat : Int), .int .u8 (S.b.toNat : Int), .int .u8 (S.c.toNat : Int), .int .u8 (S.d.toNat : Int), .int .u8 (S.e.toNat : Int)] 109)).drew).heap[W1.heap.size]? = some (.cells #[.int .u8 (S.a.toNat : Int), .int .u8 (S.b.toNat : Int), .int .u8 (S.c.toNat : Int), .int .u8 (S.d.toNat : Int), .int .u8 (S.e.toNat : Int)] 109) := heap_alloc_new W1 (.cells #[.int .u8 (S.a.toNat : Int), .int .u8 (S.b.toNat : Int), .int .u8 (S.c.toNat : Int), .int .u8 (S.d.toNat : Int), .int .u8 (S.e.toNat : Int)] 109)
  have HS2 : Hid (Bs ((W1.alloc (.cells #[.int .u8 (S.a.toNat : Int), .int .u8 (S.b.toNat : Int), .int .u8 (S.c.toNat : Int), .int .u8 (S.d.toNat : Int), .int .u8 (S.e.toNat : Int)] 109)).drew) (some ⟨b, o, none⟩) n c l) := Lib.hid (HS1.out.alloc (.cells #[.int .u8 (S.a.toNat : Int), .int .u8 (S.b.toNat : Int), .int .u8 (S.c.toNat : Int), .int .u8 (S.d.toNat : Int), .int .u8 (S.e.toNat : Int)] 109)).drew
  have hb2 : Below W1.heap.size W1 ((W1.alloc (.cells #[.int .u8 (S.a.toNat : Int), .int .u8 (S.b.toNat : Int), .int .u8 (S.c.toNat : Int), .int .u8 (S.d.toNat : Int), .int .u8 (S.e.toNat : Int)] 109)).drew) := ((Below.refl _ W1).alloc (Nat.le_refl _) _).drew
  have HB2 : Hid (Below w.heap.size w ((W1.alloc (.cells #[.int .u8 (S.a.toNat : Int), .int .u8 (S.b.toNat : Int), .int .u8 (S.c.toNat : Int), .int .u8 (S.d.toNat : Int), .int .u8 (S.e.toNat : Int)] 109)).drew)) := Lib.hid (HB1'.out.trans (hb2.mono HB1'.out.size))
  have HR2 : Hid (((W1.alloc (.cells #[.int .u8 (S.a.toNat : Int), .int .u8 (S.b.toNat : Int), .int .u8 (S.c.toNat : Int), .int .u8 (S.d.toNat : Int), .int .u8 (S.e.toNat : Int)] 109)).drew).heap[G1]? = some (.cells #[.int .u8 0, .int .u8 0, .int .u8 0, .int .u8 0, .int .u8 0] 109)) := Lib.hid (by rw [hb2.block _ HH1.out]; exact HR1.out)
  have HG2 : Hid (G1 < ((W1.alloc (.cells #[.int .u8 (S.a.toNat : Int), .int .u8 (S.b.toNat : Int), .int .u8 (S.c.toNat : Int), .int .u8 (S.d.toNat : Int), .int .u8 (S.e.toNat : Int)] 109)).drew).heap.size) := Lib.hid (Nat.lt_of_lt_of_le HH1.out hb2.size)
  have HGG : Hid (W1.heap.size < ((W1.alloc (.cells #[.int .u8 (S.a.toNat : Int), .int .u8 (S.b.toNat : Int), .int .u8 (S.c.toNat : Int), .int .u8 (S.d.toNat : Int), .int .u8 (S.e.toNat : Int)] 109)).drew).heap.size) := Lib.hid (by show _ < (W1.alloc (.cells #[.int .u8 (S.a.toNat : Int), .int .u8 (S.b.toNat : Int), .int .u8 (S.c.toNat : Int), .int .u8 (S.d.toNat : Int), .int .u8 (S.e.toNat : Int)] 109)).heap.size; simp)
  have HZ8 : Hid (((W1.alloc (.cells #[.int .u8 (S.a.toNat : Int), .int .u8 (S.b.toNat : Int), .int .u8 (S.c.toNat : Int), .int .u8 (S.d.toNat : Int), .int .u8 (S.e.toNat : Int)] 109)).drew).cell? ⟨b, o + 8, none⟩ = some (.int .u8 (x8.toNat : Int))) := Lib.hid (by rw [hb2.cell (p := ⟨b, o + 8, none⟩) hbw]; exact Z8.out)
  obtain ⟨G2, hG2⟩ : ∃ G, G = W1.heap.size := ⟨_, rfl⟩
  have HNE : Hid (G2 ≠ G1) := Lib.hid (by have := HH1.out; omega)
  clear hb2 hbne hbne' z3 z4 z5 z6 z7 i3 i4 i5 i6 i7 HS1 HB1' HR1 HH1 Z8
  generalize (W1.alloc (.cells #[.int .u8 (S.a.toNat : Int), .int .u8 (S.b.toNat : Int), .int .u8 (S.c.toNat : Int), .int .u8 (S.d.toNat : Int), .int .u8 (S.e.toNat : Int)] 109)).drew = W2 at *
  rw [← hG2] at hr2 HGG ⊢
  clear hG2
  have q0 := cell_of_row W2 G2 0 _ _ _ hr2
  have q1 := cell_of_row W2 G2 1 _ _ _ hr2
  have q2 := cell_of_row W2 G2 2 _ _ _ hr2
  have q3 := cell_of_row W2 G2 3 _ _ _ hr2
  have q4 := cell_of_row W2 G2 4 _ _ _ hr2
  simp only [List.getElem?_toArray, List.getElem?_cons_zero, List.getElem?_cons_succ] at q0 q1 q2 q3 q4
  have HR3 := Lib.hid hr2
  clear hr2
  have hcv := (Bs.take HS2.out (j := 3) (by omega)).str (P := Tryz.prog) 40 5 9 Tryz.underlying40 Tryz.underlying5 Tryz.underlying9
  have hc3 : (3 : Int) ≤ c := by have := HS2.out.le; omega
  have HRD : Hid (readD l = if l.take 3 ≠ [77, 83, 72] ∨ S.good = false then (Sgn.zero, 11) else if x8 ≠ S.a ∧ x8 ≠ 13 then (Sgn.zero, 11) else (S, 0)) := Lib.hid (by unfold readD; rw [if_neg (by rw [hlen]; omega), ← HSS.out, ← HX8.out, show l.getD 3 0 = S.a from by rw [HSS.out]; rfl])
  have ZC : ∀ w3 : World, Below W2.heap.size W2 w3 → w3.heap[G1]? = some (.cells #[.int .u8 0, .int .u8 0, .int .u8 0, .int .u8 0, .int .u8 0] 109) ∧ w3.cell? ⟨b, o + 8, none⟩ = some (.int .u8 (x8.toNat : Int)) ∧ w3.heap[G2]? = some (.cells #[.int .u8 (S.a.toNat : Int), .int .u8 (S.b.toNat : Int), .int .u8 (S.c.toNat : Int), .int .u8 (S.d.toNat : Int), .int .u8 (S.e.toNat : Int)] 109) := fun w3 h3 => ⟨by rw [h3.block _ HG2.out]; exact HR2.out, by
    obtain ⟨b', o', e, hb', _⟩ := HS2.out.at_ (by omega)
    cases e
    rw [h3.cell (p := ⟨b, o + 8, none⟩) hb']; exact HZ8.out, by rw [h3.block _ HGG.out]; exact HR3.out⟩
  have ZCH := Lib.hid ZC
  clear ZC
  have hm := Khm.out; clear Khm
  rw [hm] at hcv
  have HM := Lib.hid hm
  go_wp2_with (fail)
  refine (delimRight S W2).mono ?_
  rintro e w3 ⟨rfl, hb3⟩
  have hz := ZCH.out w3 hb3
  have HB3 : Hid (Below w.heap.size w w3) := Lib.hid (HB2.out.trans (hb3.mono HB2.out.size))
  clear hb3 q0 q1 q2 q3 q4 hcv ZCH
  have HR1 := Lib.hid hz.1
  have HR3' := Lib.hid hz.2.2
  have z8 := hz.2.1
  clear hz
  have hgd : S.good = true := by rw [HSS.out]; exact Khgd.out
  clear Khgd
  rw [hgd]
  have i8 : (8 : Int) < n := by omega
  have q0 := cell_of_row (w3) G2 0 _ _ _ HR3'.out
  have q1 := cell_of_row (w3) G2 1 _ _ _ HR3'.out
  have q2 := cell_of_row (w3) G2 2 _ _ _ HR3'.out
  have q3 := cell_of_row (w3) G2 3 _ _ _ HR3'.out
  have q4 := cell_of_row (w3) G2 4 _ _ _ HR3'.out
  simp only [List.getElem?_toArray, List.getElem?_cons_zero, List.getElem?_cons_succ] at q0 q1 q2 q3 q4
  have h1 : x8 = S.a := by rw [HX8.out, HSS.out]; exact Kh1.out
  clear Kh1
  have HRZ := Lib.hid (show readD l = (S, 0) from by rw [HRD.out, if_neg (by simp [HM.out, hgd]), if_neg (fun h => h.1 h1)])
  clear HRD
  have d1 : ((x8.toNat : Int) == (S.a.toNat : Int)) = true := by rw [h1]; exact beq_self_eq_true _
  have d2 : ((x8.toNat : Int) != (S.a.toNat : Int)) = false := by rw [h1]; exact bne_self_eq_false _
  clear h1
  go_wp2_with (fail)
  go_quiet (fail)
  clear z8
  have c0 := cell_of_row (w3) G1 0 _ _ _ HR1.out
  have c1 := cell_of_row (w3) G1 1 _ _ _ HR1.out
  have c2 := cell_of_row (w3) G1 2 _ _ _ HR1.out
  have c3 := cell_of_row (w3) G1 3 _ _ _ HR1.out
  have c4 := cell_of_row (w3) G1 4 _ _ _ HR1.out
  simp only [List.getElem?_toArray, List.getElem?_cons_zero, List.getElem?_cons_succ] at c0 c1 c2 c3 c4
  have f0 := frozen_of (W := w3) HR1.out 0
  have f1 := frozen_of (W := w3) HR1.out 1
  have f2 := frozen_of (W := w3) HR1.out 2
  have f3 := frozen_of (W := w3) HR1.out 3
  have f4 := frozen_of (W := w3) HR1.out 4
  go_wp2_with (fail)
  clear q0 q1 q2 q3 q4
  clear c0 c1 c2 c3 c4 f0 f1 f2 f3 f4
  have hrow := setFive_row (W := (w3.drewN nq)) HR1.out (.int .u8 (S.a.toNat : Int)) (.int .u8 (S.b.toNat : Int)) (.int .u8 (S.c.toNat : Int)) (.int .u8 (S.d.toNat : Int)) (.int .u8 (S.e.toNat : Int))
  have hbel := setFive_below (W := (w3.drewN nq)) (drawN_below HB3.out nq) HG1.out (.int .u8 (S.a.toNat : Int)) (.int .u8 (S.b.toNat : Int)) (.int .u8 (S.c.toNat : Int)) (.int .u8 (S.d.toNat : Int)) (.int .u8 (S.e.toNat : Int))
  unfold setFive at hrow hbel
  generalize ((((((w3.drewN nq).setCell ⟨G1, 0, none⟩ (.int .u8 (S.a.toNat : Int))).setCell ⟨G1, 1, none⟩ (.int .u8 (S.b.toNat : Int))).setCell ⟨G1, 2, none⟩ (.int .u8 (S.c.toNat : Int))).setCell ⟨G1, 3, none⟩ (.int .u8 (S.d.toNat : Int))).setCell ⟨G1, 4, none⟩ (.int .u8 (S.e.toNat : Int))) = W5 at hrow hbel ⊢
  have c0 := cell_of_row _ G1 0 _ _ _ hrow
  have c1 := cell_of_row _ G1 1 _ _ _ hrow
  have c2 := cell_of_row _ G1 2 _ _ _ hrow
  have c3 := cell_of_row _ G1 3 _ _ _ hrow
  have c4 := cell_of_row _ G1 4 _ _ _ hrow
  simp only [List.getElem?_toArray, List.getElem?_cons_zero, List.getElem?_cons_succ] at c0 c1 c2 c3 c4
  exact bodyPost_ret (v := .tuple #[dlm (S.a.toNat : Int) (S.b.toNat : Int) (S.c.toNat : Int) (S.d.toNat : Int) (S.e.toNat : Int), .int .i64 0]) (by simp [results, Tryz.results102, go_sem, c0, c1, c2, c3, c4]) rfl ⟨by rw [HRZ.out], hbel⟩
end Go.Proofs.YtodjilljcjkacaaGreatDoor
/- Layer 6: signs that may be, 13 behind them, walked. -/
namespace Go.Proofs.YtodjilljcjkacaaGreatDoor
open Go.RowKit

set_option maxHeartbeats 1000000 in
set_option maxRecDepth 100000 in
theorem delimRead_tail (A : Option Addr) (n c : Nat) (l : List UInt8) (w : World) (hB : Bs w A n c l) (h9 : ¬ (n : Int) < 9) (hm : l.take 3 = [77, 83, 72]) (hgd : (Sgn.of l).good = true) (h1 : ¬ l.getD 8 0 = l.getD 3 0) (h2 : l.getD 8 0 = 13) :
    Calls Tryz.prog 102 #[.slice A n c] w fun e w' => e = .returned (.tuple #[(readD l).1.v, .int .i64 (readD l).2]) ∧ Below w.heap.size w w' := by
  have Khm := Lib.hid hm; clear hm
  have Khgd := Lib.hid hgd; clear hgd
  have Kh1 := Lib.hid h1; clear h1
  have Kh2 := Lib.hid h2; clear h2
  have hn := hB.nmax
  have HL := Lib.hid hB.len
  have HB := Lib.hid hB; clear hB
  have h8 : 9 ≤ n := by omega
  obtain ⟨b, o, rfl, hb, hc⟩ := HB.out.at_ (by omega)
  go_enter Tryz.func102, Tryz.ntmps102
  go_wp2_with (fail)
  have hlen := HL.out
  have hr1 := heap_alloc_new w (.cells #[.int .u8 0, .int .u8 0, .int .u8 0, .int .u8 0, .int .u8 0] 109)
  have hg1 : w.heap.size < (w.alloc (.cells #[.int .u8 0, .int .u8 0, .int .u8 0, .int .u8 0, .int .u8 0] 109)).heap.size := by simp
  have HB1 : Hid (Below w.heap.size w (w.alloc (.cells #[.int .u8 0, .int .u8 0, .int .u8 0, .int .u8 0, .int .u8 0] 109))) := Lib.hid ((Below.refl _ w).alloc (Nat.le_refl _) _)
  have HS1 := Lib.hid (HB.out.alloc (.cells #[.int .u8 0, .int .u8 0, .int .u8 0, .int .u8 0, .int .u8 0] 109))
  clear HB hb hc
  obtain ⟨G1, hG⟩ : ∃ G, G = w.heap.size := ⟨_, rfl⟩
  have HG1 : Hid (w.heap.size ≤ G1) := Lib.hid (by omega)
  generalize w.alloc (.cells #[.int .u8 0, .int .u8 0, .int .u8 0, .int .u8 0, .int .u8 0] 109) = W1 at *
  rw [← hG] at hr1 hg1 ⊢
  have HB1' : Hid (Below w.heap.size w W1) := Lib.hid (by first | exact HB1.out | (rw [← hG]; exact HB1.out))
  clear hG HB1
  have cell : ∀ k, k < n → W1.cell? ⟨b, o + k, none⟩ = some (.int .u8 ((l.getD k 0).toNat : Int)) := by
    intro k hk
    obtain ⟨b', o', e, _, hc⟩ := HS1.out.at_ (by omega)
    cases e
    rw [hc k (l.getD k 0) (by rw [List.getD_eq_getElem?_getD, List.getElem?_eq_getElem (by omega)]; rfl)]
  obtain ⟨S, hS⟩ : ∃ S : Sgn, S = Sgn.of l := ⟨_, rfl⟩
  obtain ⟨x8, hx8⟩ : ∃ x : UInt8, x = l.getD 8 0 := ⟨_, rfl⟩
  have z3 : W1.cell? ⟨b, o + 3, none⟩ = some (.int .u8 (S.a.toNat : Int)) := by rw [hS]; exact cell 3 (by omega)
  have z4 : W1.cell? ⟨b, o + 4, none⟩ = some (.int .u8 (S.b.toNat : Int)) := by rw [hS]; exact cell 4 (by omega)
  have z5 : W1.cell? ⟨b, o + 5, none⟩ = some (.int .u8 (S.c.toNat : Int)) := by rw [hS]; exact cell 5 (by omega)
  have z6 : W1.cell? ⟨b, o + 6, none⟩ = some (.int .u8 (S.d.toNat : Int)) := by rw [hS]; exact cell 6 (by omega)
  have z7 : W1.cell? ⟨b, o + 7, none⟩ = some (.int .u8 (S.e.toNat : Int)) := by rw [hS]; exact cell 7 (by omega)
  have z8 : W1.cell? ⟨b, o + 8, none⟩ = some (.int .u8 (x8.toNat : Int)) := by rw [hx8]; exact cell 8 (by omega)
  have HSS := Lib.hid hS
  have HX8 := Lib.hid hx8
  clear hS hx8
  clear cell
  have i3 : (3 : Int) < n := by omega
  have i4 : (4 : Int) < n := by omega
  have i5 : (5 : Int) < n := by omega
  have i6 : (6 : Int) < n := by omega
  have i7 : (7 : Int) < n := by omega
  have HR1 := Lib.hid hr1
  have HH1 := Lib.hid hg1
  clear hr1 hg1
  have hbw : b < W1.heap.size := by
    obtain ⟨b', o', e, hb', _⟩ := HS1.out.at_ (by omega)
    cases e
    exact hb'
  have hbne : b ≠ W1.heap.size := by omega
  have hbne' : ¬ W1.heap.size = b := by omega
  have Z8 := Lib.hid z8
  clear z8
  go_region
  have hr2 : ((W1.alloc (.cells #[.int .u8 (S.a.toNat : Int), .int .u8 (S.b.toNat : Int), .int .u8 (S.c.toNat : Int), .int .u8 (S.d.toNat : Int), .int .u8 (S.e.toNat : Int)] 109)).drew).heap[W1.heap.size]? = some (.cells #[.int .u8 (S.a.toNat : Int), .int .u8 (S.b.toNat : Int), .int .u8 (S.c.toNat : Int), .int .u8 (S.d.toNat : Int), .int .u8 (S.e.toNat : Int)] 109) := heap_alloc_new W1 (.cells #[.int .u8 (S.a.toNat : Int), .int .u8 (S.b.toNat : Int), .int .u8 (S.c.toNat : Int), .int .u8 (S.d.toNat : Int), .int .u8 (S.e.toNat : Int)] 109)
  have HS2 : Hid (Bs ((W1.alloc (.cells #[.int .u8 (S.a.toNat : Int), .int .u8 (S.b.toNat : Int), .int .u8 (S.c.toNat : Int), .int .u8 (S.d.toNat : Int), .int .u8 (S.e.toNat : Int)] 109)).drew) (some ⟨b, o, none⟩) n c l) := Lib.hid (HS1.out.alloc (.cells #[.int .u8 (S.a.toNat : Int), .int .u8 (S.b.toNat : Int), .int .u8 (S.c.toNat : Int), .int .u8 (S.d.toNat : Int), .int .u8 (S.e.toNat : Int)] 109)).drew
  have hb2 : Below W1.heap.size W1 ((W1.alloc (.cells #[.int .u8 (S.a.toNat : Int), .int .u8 (S.b.toNat : Int), .int .u8 (S.c.toNat : Int), .int .u8 (S.d.toNat : Int), .int .u8 (S.e.toNat : Int)] 109)).drew) := ((Below.refl _ W1).alloc (Nat.le_refl _) _).drew
  have HB2 : Hid (Below w.heap.size w ((W1.alloc (.cells #[.int .u8 (S.a.toNat : Int), .int .u8 (S.b.toNat : Int), .int .u8 (S.c.toNat : Int), .int .u8 (S.d.toNat : Int), .int .u8 (S.e.toNat : Int)] 109)).drew)) := Lib.hid (HB1'.out.trans (hb2.mono HB1'.out.size))
  have HR2 : Hid (((W1.alloc (.cells #[.int .u8 (S.a.toNat : Int), .int .u8 (S.b.toNat : Int), .int .u8 (S.c.toNat : Int), .int .u8 (S.d.toNat : Int), .int .u8 (S.e.toNat : Int)] 109)).drew).heap[G1]? = some (.cells #[.int .u8 0, .int .u8 0, .int .u8 0, .int .u8 0, .int .u8 0] 109)) := Lib.hid (by rw [hb2.block _ HH1.out]; exact HR1.out)
  have HG2 : Hid (G1 < ((W1.alloc (.cells #[.int .u8 (S.a.toNat : Int), .int .u8 (S.b.toNat : Int), .int .u8 (S.c.toNat : Int), .int .u8 (S.d.toNat : Int), .int .u8 (S.e.toNat : Int)] 109)).drew).heap.size) := Lib.hid (Nat.lt_of_lt_of_le HH1.out hb2.size)
  have HGG : Hid (W1.heap.size < ((W1.alloc (.cells #[.int .u8 (S.a.toNat : Int), .int .u8 (S.b.toNat : Int), .int .u8 (S.c.toNat : Int), .int .u8 (S.d.toNat : Int), .int .u8 (S.e.toNat : Int)] 109)).drew).heap.size) := Lib.hid (by show _ < (W1.alloc (.cells #[.int .u8 (S.a.toNat : Int), .int .u8 (S.b.toNat : Int), .int .u8 (S.c.toNat : Int), .int .u8 (S.d.toNat : Int), .int .u8 (S.e.toNat : Int)] 109)).heap.size; simp)
  have HZ8 : Hid (((W1.alloc (.cells #[.int .u8 (S.a.toNat : Int), .int .u8 (S.b.toNat : Int), .int .u8 (S.c.toNat : Int), .int .u8 (S.d.toNat : Int), .int .u8 (S.e.toNat : Int)] 109)).drew).cell? ⟨b, o + 8, none⟩ = some (.int .u8 (x8.toNat : Int))) := Lib.hid (by rw [hb2.cell (p := ⟨b, o + 8, none⟩) hbw]; exact Z8.out)
  obtain ⟨G2, hG2⟩ : ∃ G, G = W1.heap.size := ⟨_, rfl⟩
  have HNE : Hid (G2 ≠ G1) := Lib.hid (by have := HH1.out; omega)
  clear hb2 hbne hbne' z3 z4 z5 z6 z7 i3 i4 i5 i6 i7 HS1 HB1' HR1 HH1 Z8
  generalize (W1.alloc (.cells #[.int .u8 (S.a.toNat : Int), .int .u8 (S.b.toNat : Int), .int .u8 (S.c.toNat : Int), .int .u8 (S.d.toNat : Int), .int .u8 (S.e.toNat : Int)] 109)).drew = W2 at *
  rw [← hG2] at hr2 HGG ⊢
  clear hG2
  have q0 := cell_of_row W2 G2 0 _ _ _ hr2
  have q1 := cell_of_row W2 G2 1 _ _ _ hr2
  have q2 := cell_of_row W2 G2 2 _ _ _ hr2
  have q3 := cell_of_row W2 G2 3 _ _ _ hr2
  have q4 := cell_of_row W2 G2 4 _ _ _ hr2
  simp only [List.getElem?_toArray, List.getElem?_cons_zero, List.getElem?_cons_succ] at q0 q1 q2 q3 q4
  have HR3 := Lib.hid hr2
  clear hr2
  have hcv := (Bs.take HS2.out (j := 3) (by omega)).str (P := Tryz.prog) 40 5 9 Tryz.underlying40 Tryz.underlying5 Tryz.underlying9
  have hc3 : (3 : Int) ≤ c := by have := HS2.out.le; omega
  have HRD : Hid (readD l = if l.take 3 ≠ [77, 83, 72] ∨ S.good = false then (Sgn.zero, 11) else if x8 ≠ S.a ∧ x8 ≠ 13 then (Sgn.zero, 11) else (S, 0)) := Lib.hid (by unfold readD; rw [if_neg (by rw [hlen]; omega), ← HSS.out, ← HX8.out, show l.getD 3 0 = S.a from by rw [HSS.out]; rfl])
  have ZC : ∀ w3 : World, Below W2.heap.size W2 w3 → w3.heap[G1]? = some (.cells #[.int .u8 0, .int .u8 0, .int .u8 0, .int .u8 0, .int .u8 0] 109) ∧ w3.cell? ⟨b, o + 8, none⟩ = some (.int .u8 (x8.toNat : Int)) ∧ w3.heap[G2]? = some (.cells #[.int .u8 (S.a.toNat : Int), .int .u8 (S.b.toNat : Int), .int .u8 (S.c.toNat : Int), .int .u8 (S.d.toNat : Int), .int .u8 (S.e.toNat : Int)] 109) := fun w3 h3 => ⟨by rw [h3.block _ HG2.out]; exact HR2.out, by
    obtain ⟨b', o', e, hb', _⟩ := HS2.out.at_ (by omega)
    cases e
    rw [h3.cell (p := ⟨b, o + 8, none⟩) hb']; exact HZ8.out, by rw [h3.block _ HGG.out]; exact HR3.out⟩
  have ZCH := Lib.hid ZC
  clear ZC
  have hm := Khm.out; clear Khm
  rw [hm] at hcv
  have HM := Lib.hid hm
  go_wp2_with (fail)
  refine (delimRight S W2).mono ?_
  rintro e w3 ⟨rfl, hb3⟩
  have hz := ZCH.out w3 hb3
  have HB3 : Hid (Below w.heap.size w w3) := Lib.hid (HB2.out.trans (hb3.mono HB2.out.size))
  clear hb3 q0 q1 q2 q3 q4 hcv ZCH
  have HR1 := Lib.hid hz.1
  have HR3' := Lib.hid hz.2.2
  have z8 := hz.2.1
  clear hz
  have hgd : S.good = true := by rw [HSS.out]; exact Khgd.out
  clear Khgd
  rw [hgd]
  have i8 : (8 : Int) < n := by omega
  have q0 := cell_of_row (w3) G2 0 _ _ _ HR3'.out
  have q1 := cell_of_row (w3) G2 1 _ _ _ HR3'.out
  have q2 := cell_of_row (w3) G2 2 _ _ _ HR3'.out
  have q3 := cell_of_row (w3) G2 3 _ _ _ HR3'.out
  have q4 := cell_of_row (w3) G2 4 _ _ _ HR3'.out
  simp only [List.getElem?_toArray, List.getElem?_cons_zero, List.getElem?_cons_succ] at q0 q1 q2 q3 q4
  have h1 : ¬ x8 = S.a := by rw [HX8.out, HSS.out]; exact Kh1.out
  clear Kh1
  have d1 : ((x8.toNat : Int) == (S.a.toNat : Int)) = false := by rw [beq_eq_false_iff_ne]; exact fun h => h1 (UInt8.toNat_inj.1 (by omega))
  have d2 : ((x8.toNat : Int) != (S.a.toNat : Int)) = true := by rw [bne_iff_ne]; exact fun h => h1 (UInt8.toNat_inj.1 (by omega))
  have h2 : x8 = 13 := by rw [HX8.out]; exact Kh2.out
  clear Kh2
  have HRZ := Lib.hid (show readD l = (S, 0) from by rw [HRD.out, if_neg (by simp [HM.out, hgd]), if_neg (fun h => h.2 h2)])
  clear HRD
  have d3 : ((x8.toNat : Int) != 13) = false := by rw [h2]; decide
  have d4 : ((x8.toNat : Int) == 13) = true := by rw [h2]; decide
  clear h1 h2
  go_wp2_with (fail)
  go_quiet (fail)
  clear z8
  have c0 := cell_of_row (w3) G1 0 _ _ _ HR1.out
  have c1 := cell_of_row (w3) G1 1 _ _ _ HR1.out
  have c2 := cell_of_row (w3) G1 2 _ _ _ HR1.out
  have c3 := cell_of_row (w3) G1 3 _ _ _ HR1.out
  have c4 := cell_of_row (w3) G1 4 _ _ _ HR1.out
  simp only [List.getElem?_toArray, List.getElem?_cons_zero, List.getElem?_cons_succ] at c0 c1 c2 c3 c4
  have f0 := frozen_of (W := w3) HR1.out 0
  have f1 := frozen_of (W := w3) HR1.out 1
  have f2 := frozen_of (W := w3) HR1.out 2
  have f3 := frozen_of (W := w3) HR1.out 3
  have f4 := frozen_of (W := w3) HR1.out 4
  go_wp2_with (fail)
  clear q0 q1 q2 q3 q4
  clear c0 c1 c2 c3 c4 f0 f1 f2 f3 f4
  have hrow := setFive_row (W := (w3.drewN nq)) HR1.out (.int .u8 (S.a.toNat : Int)) (.int .u8 (S.b.toNat : Int)) (.int .u8 (S.c.toNat : Int)) (.int .u8 (S.d.toNat : Int)) (.int .u8 (S.e.toNat : Int))
  have hbel := setFive_below (W := (w3.drewN nq)) (drawN_below HB3.out nq) HG1.out (.int .u8 (S.a.toNat : Int)) (.int .u8 (S.b.toNat : Int)) (.int .u8 (S.c.toNat : Int)) (.int .u8 (S.d.toNat : Int)) (.int .u8 (S.e.toNat : Int))
  unfold setFive at hrow hbel
  generalize ((((((w3.drewN nq).setCell ⟨G1, 0, none⟩ (.int .u8 (S.a.toNat : Int))).setCell ⟨G1, 1, none⟩ (.int .u8 (S.b.toNat : Int))).setCell ⟨G1, 2, none⟩ (.int .u8 (S.c.toNat : Int))).setCell ⟨G1, 3, none⟩ (.int .u8 (S.d.toNat : Int))).setCell ⟨G1, 4, none⟩ (.int .u8 (S.e.toNat : Int))) = W5 at hrow hbel ⊢
  have c0 := cell_of_row _ G1 0 _ _ _ hrow
  have c1 := cell_of_row _ G1 1 _ _ _ hrow
  have c2 := cell_of_row _ G1 2 _ _ _ hrow
  have c3 := cell_of_row _ G1 3 _ _ _ hrow
  have c4 := cell_of_row _ G1 4 _ _ _ hrow
  simp only [List.getElem?_toArray, List.getElem?_cons_zero, List.getElem?_cons_succ] at c0 c1 c2 c3 c4
  exact bodyPost_ret (v := .tuple #[dlm (S.a.toNat : Int) (S.b.toNat : Int) (S.c.toNat : Int) (S.d.toNat : Int) (S.e.toNat : Int), .int .i64 0]) (by simp [results, Tryz.results102, go_sem, c0, c1, c2, c3, c4]) rfl ⟨by rw [HRZ.out], hbel⟩
end Go.Proofs.YtodjilljcjkacaaGreatDoor
/- Layer 6: signs that may be, another byte behind them, walked. -/
namespace Go.Proofs.YtodjilljcjkacaaGreatDoor
open Go.RowKit

set_option maxHeartbeats 1000000 in
set_option maxRecDepth 100000 in
theorem delimRead_other (A : Option Addr) (n c : Nat) (l : List UInt8) (w : World) (hB : Bs w A n c l) (h9 : ¬ (n : Int) < 9) (hm : l.take 3 = [77, 83, 72]) (hgd : (Sgn.of l).good = true) (h1 : ¬ l.getD 8 0 = l.getD 3 0) (h2 : ¬ l.getD 8 0 = 13) :
    Calls Tryz.prog 102 #[.slice A n c] w fun e w' => e = .returned (.tuple #[(readD l).1.v, .int .i64 (readD l).2]) ∧ Below w.heap.size w w' := by
  have Khm := Lib.hid hm; clear hm
  have Khgd := Lib.hid hgd; clear hgd
  have Kh1 := Lib.hid h1; clear h1
  have Kh2 := Lib.hid h2; clear h2
  have hn := hB.nmax
  have HL := Lib.hid hB.len
  have HB := Lib.hid hB; clear hB
  have h8 : 9 ≤ n := by omega
  obtain ⟨b, o, rfl, hb, hc⟩ := HB.out.at_ (by omega)
  go_enter Tryz.func102, Tryz.ntmps102
  go_wp2_with (fail)
  have hlen := HL.out
  have hr1 := heap_alloc_new w (.cells #[.int .u8 0, .int .u8 0, .int .u8 0, .int .u8 0, .int .u8 0] 109)
  have hg1 : w.heap.size < (w.alloc (.cells #[.int .u8 0, .int .u8 0, .int .u8 0, .int .u8 0, .int .u8 0] 109)).heap.size := by simp
  have HB1 : Hid (Below w.heap.size w (w.alloc (.cells #[.int .u8 0, .int .u8 0, .int .u8 0, .int .u8 0, .int .u8 0] 109))) := Lib.hid ((Below.refl _ w).alloc (Nat.le_refl _) _)
  have HS1 := Lib.hid (HB.out.alloc (.cells #[.int .u8 0, .int .u8 0, .int .u8 0, .int .u8 0, .int .u8 0] 109))
  clear HB hb hc
  obtain ⟨G1, hG⟩ : ∃ G, G = w.heap.size := ⟨_, rfl⟩
  have HG1 : Hid (w.heap.size ≤ G1) := Lib.hid (by omega)
  generalize w.alloc (.cells #[.int .u8 0, .int .u8 0, .int .u8 0, .int .u8 0, .int .u8 0] 109) = W1 at *
  rw [← hG] at hr1 hg1 ⊢
  have HB1' : Hid (Below w.heap.size w W1) := Lib.hid (by first | exact HB1.out | (rw [← hG]; exact HB1.out))
  clear hG HB1
  have cell : ∀ k, k < n → W1.cell? ⟨b, o + k, none⟩ = some (.int .u8 ((l.getD k 0).toNat : Int)) := by
    intro k hk
    obtain ⟨b', o', e, _, hc⟩ := HS1.out.at_ (by omega)
    cases e
    rw [hc k (l.getD k 0) (by rw [List.getD_eq_getElem?_getD, List.getElem?_eq_getElem (by omega)]; rfl)]
  obtain ⟨S, hS⟩ : ∃ S : Sgn, S = Sgn.of l := ⟨_, rfl⟩
  obtain ⟨x8, hx8⟩ : ∃ x : UInt8, x = l.getD 8 0 := ⟨_, rfl⟩
  have z3 : W1.cell? ⟨b, o + 3, none⟩ = some (.int .u8 (S.a.toNat : Int)) := by rw [hS]; exact cell 3 (by omega)
  have z4 : W1.cell? ⟨b, o + 4, none⟩ = some (.int .u8 (S.b.toNat : Int)) := by rw [hS]; exact cell 4 (by omega)
  have z5 : W1.cell? ⟨b, o + 5, none⟩ = some (.int .u8 (S.c.toNat : Int)) := by rw [hS]; exact cell 5 (by omega)
  have z6 : W1.cell? ⟨b, o + 6, none⟩ = some (.int .u8 (S.d.toNat : Int)) := by rw [hS]; exact cell 6 (by omega)
  have z7 : W1.cell? ⟨b, o + 7, none⟩ = some (.int .u8 (S.e.toNat : Int)) := by rw [hS]; exact cell 7 (by omega)
  have z8 : W1.cell? ⟨b, o + 8, none⟩ = some (.int .u8 (x8.toNat : Int)) := by rw [hx8]; exact cell 8 (by omega)
  have HSS := Lib.hid hS
  have HX8 := Lib.hid hx8
  clear hS hx8
  clear cell
  have i3 : (3 : Int) < n := by omega
  have i4 : (4 : Int) < n := by omega
  have i5 : (5 : Int) < n := by omega
  have i6 : (6 : Int) < n := by omega
  have i7 : (7 : Int) < n := by omega
  have HR1 := Lib.hid hr1
  have HH1 := Lib.hid hg1
  clear hr1 hg1
  have hbw : b < W1.heap.size := by
    obtain ⟨b', o', e, hb', _⟩ := HS1.out.at_ (by omega)
    cases e
    exact hb'
  have hbne : b ≠ W1.heap.size := by omega
  have hbne' : ¬ W1.heap.size = b := by omega
  have Z8 := Lib.hid z8
  clear z8
  go_region
  have hr2 : ((W1.alloc (.cells #[.int .u8 (S.a.toNat : Int), .int .u8 (S.b.toNat : Int), .int .u8 (S.c.toNat : Int), .int .u8 (S.d.toNat : Int), .int .u8 (S.e.toNat : Int)] 109)).drew).heap[W1.heap.size]? = some (.cells #[.int .u8 (S.a.toNat : Int), .int .u8 (S.b.toNat : Int), .int .u8 (S.c.toNat : Int), .int .u8 (S.d.toNat : Int), .int .u8 (S.e.toNat : Int)] 109) := heap_alloc_new W1 (.cells #[.int .u8 (S.a.toNat : Int), .int .u8 (S.b.toNat : Int), .int .u8 (S.c.toNat : Int), .int .u8 (S.d.toNat : Int), .int .u8 (S.e.toNat : Int)] 109)
  have HS2 : Hid (Bs ((W1.alloc (.cells #[.int .u8 (S.a.toNat : Int), .int .u8 (S.b.toNat : Int), .int .u8 (S.c.toNat : Int), .int .u8 (S.d.toNat : Int), .int .u8 (S.e.toNat : Int)] 109)).drew) (some ⟨b, o, none⟩) n c l) := Lib.hid (HS1.out.alloc (.cells #[.int .u8 (S.a.toNat : Int), .int .u8 (S.b.toNat : Int), .int .u8 (S.c.toNat : Int), .int .u8 (S.d.toNat : Int), .int .u8 (S.e.toNat : Int)] 109)).drew
  have hb2 : Below W1.heap.size W1 ((W1.alloc (.cells #[.int .u8 (S.a.toNat : Int), .int .u8 (S.b.toNat : Int), .int .u8 (S.c.toNat : Int), .int .u8 (S.d.toNat : Int), .int .u8 (S.e.toNat : Int)] 109)).drew) := ((Below.refl _ W1).alloc (Nat.le_refl _) _).drew
  have HB2 : Hid (Below w.heap.size w ((W1.alloc (.cells #[.int .u8 (S.a.toNat : Int), .int .u8 (S.b.toNat : Int), .int .u8 (S.c.toNat : Int), .int .u8 (S.d.toNat : Int), .int .u8 (S.e.toNat : Int)] 109)).drew)) := Lib.hid (HB1'.out.trans (hb2.mono HB1'.out.size))
  have HR2 : Hid (((W1.alloc (.cells #[.int .u8 (S.a.toNat : Int), .int .u8 (S.b.toNat : Int), .int .u8 (S.c.toNat : Int), .int .u8 (S.d.toNat : Int), .int .u8 (S.e.toNat : Int)] 109)).drew).heap[G1]? = some (.cells #[.int .u8 0, .int .u8 0, .int .u8 0, .int .u8 0, .int .u8 0] 109)) := Lib.hid (by rw [hb2.block _ HH1.out]; exact HR1.out)
  have HG2 : Hid (G1 < ((W1.alloc (.cells #[.int .u8 (S.a.toNat : Int), .int .u8 (S.b.toNat : Int), .int .u8 (S.c.toNat : Int), .int .u8 (S.d.toNat : Int), .int .u8 (S.e.toNat : Int)] 109)).drew).heap.size) := Lib.hid (Nat.lt_of_lt_of_le HH1.out hb2.size)
  have HGG : Hid (W1.heap.size < ((W1.alloc (.cells #[.int .u8 (S.a.toNat : Int), .int .u8 (S.b.toNat : Int), .int .u8 (S.c.toNat : Int), .int .u8 (S.d.toNat : Int), .int .u8 (S.e.toNat : Int)] 109)).drew).heap.size) := Lib.hid (by show _ < (W1.alloc (.cells #[.int .u8 (S.a.toNat : Int), .int .u8 (S.b.toNat : Int), .int .u8 (S.c.toNat : Int), .int .u8 (S.d.toNat : Int), .int .u8 (S.e.toNat : Int)] 109)).heap.size; simp)
  have HZ8 : Hid (((W1.alloc (.cells #[.int .u8 (S.a.toNat : Int), .int .u8 (S.b.toNat : Int), .int .u8 (S.c.toNat : Int), .int .u8 (S.d.toNat : Int), .int .u8 (S.e.toNat : Int)] 109)).drew).cell? ⟨b, o + 8, none⟩ = some (.int .u8 (x8.toNat : Int))) := Lib.hid (by rw [hb2.cell (p := ⟨b, o + 8, none⟩) hbw]; exact Z8.out)
  obtain ⟨G2, hG2⟩ : ∃ G, G = W1.heap.size := ⟨_, rfl⟩
  have HNE : Hid (G2 ≠ G1) := Lib.hid (by have := HH1.out; omega)
  clear hb2 hbne hbne' z3 z4 z5 z6 z7 i3 i4 i5 i6 i7 HS1 HB1' HR1 HH1 Z8
  generalize (W1.alloc (.cells #[.int .u8 (S.a.toNat : Int), .int .u8 (S.b.toNat : Int), .int .u8 (S.c.toNat : Int), .int .u8 (S.d.toNat : Int), .int .u8 (S.e.toNat : Int)] 109)).drew = W2 at *
  rw [← hG2] at hr2 HGG ⊢
  clear hG2
  have q0 := cell_of_row W2 G2 0 _ _ _ hr2
  have q1 := cell_of_row W2 G2 1 _ _ _ hr2
  have q2 := cell_of_row W2 G2 2 _ _ _ hr2
  have q3 := cell_of_row W2 G2 3 _ _ _ hr2
  have q4 := cell_of_row W2 G2 4 _ _ _ hr2
  simp only [List.getElem?_toArray, List.getElem?_cons_zero, List.getElem?_cons_succ] at q0 q1 q2 q3 q4
  have HR3 := Lib.hid hr2
  clear hr2
  have hcv := (Bs.take HS2.out (j := 3) (by omega)).str (P := Tryz.prog) 40 5 9 Tryz.underlying40 Tryz.underlying5 Tryz.underlying9
  have hc3 : (3 : Int) ≤ c := by have := HS2.out.le; omega
  have HRD : Hid (readD l = if l.take 3 ≠ [77, 83, 72] ∨ S.good = false then (Sgn.zero, 11) else if x8 ≠ S.a ∧ x8 ≠ 13 then (Sgn.zero, 11) else (S, 0)) := Lib.hid (by unfold readD; rw [if_neg (by rw [hlen]; omega), ← HSS.out, ← HX8.out, show l.getD 3 0 = S.a from by rw [HSS.out]; rfl])
  have ZC : ∀ w3 : World, Below W2.heap.size W2 w3 → w3.heap[G1]? = some (.cells #[.int .u8 0, .int .u8 0, .int .u8 0, .int .u8 0, .int .u8 0] 109) ∧ w3.cell? ⟨b, o + 8, none⟩ = some (.int .u8 (x8.toNat : Int)) ∧ w3.heap[G2]? = some (.cells #[.int .u8 (S.a.toNat : Int), .int .u8 (S.b.toNat : Int), .int .u8 (S.c.toNat : Int), .int .u8 (S.d.toNat : Int), .int .u8 (S.e.toNat : Int)] 109) := fun w3 h3 => ⟨by rw [h3.block _ HG2.out]; exact HR2.out, by
    obtain ⟨b', o', e, hb', _⟩ := HS2.out.at_ (by omega)
    cases e
    rw [h3.cell (p := ⟨b, o + 8, none⟩) hb']; exact HZ8.out, by rw [h3.block _ HGG.out]; exact HR3.out⟩
  have ZCH := Lib.hid ZC
  clear ZC
  have hm := Khm.out; clear Khm
  rw [hm] at hcv
  have HM := Lib.hid hm
  go_wp2_with (fail)
  refine (delimRight S W2).mono ?_
  rintro e w3 ⟨rfl, hb3⟩
  have hz := ZCH.out w3 hb3
  have HB3 : Hid (Below w.heap.size w w3) := Lib.hid (HB2.out.trans (hb3.mono HB2.out.size))
  clear hb3 q0 q1 q2 q3 q4 hcv ZCH
  have HR1 := Lib.hid hz.1
  have HR3' := Lib.hid hz.2.2
  have z8 := hz.2.1
  clear hz
  have hgd : S.good = true := by rw [HSS.out]; exact Khgd.out
  clear Khgd
  rw [hgd]
  have i8 : (8 : Int) < n := by omega
  have q0 := cell_of_row (w3) G2 0 _ _ _ HR3'.out
  have q1 := cell_of_row (w3) G2 1 _ _ _ HR3'.out
  have q2 := cell_of_row (w3) G2 2 _ _ _ HR3'.out
  have q3 := cell_of_row (w3) G2 3 _ _ _ HR3'.out
  have q4 := cell_of_row (w3) G2 4 _ _ _ HR3'.out
  simp only [List.getElem?_toArray, List.getElem?_cons_zero, List.getElem?_cons_succ] at q0 q1 q2 q3 q4
  have h1 : ¬ x8 = S.a := by rw [HX8.out, HSS.out]; exact Kh1.out
  clear Kh1
  have d1 : ((x8.toNat : Int) == (S.a.toNat : Int)) = false := by rw [beq_eq_false_iff_ne]; exact fun h => h1 (UInt8.toNat_inj.1 (by omega))
  have d2 : ((x8.toNat : Int) != (S.a.toNat : Int)) = true := by rw [bne_iff_ne]; exact fun h => h1 (UInt8.toNat_inj.1 (by omega))
  have h2 : ¬ x8 = 13 := by rw [HX8.out]; exact Kh2.out
  clear Kh2
  have HRZ := Lib.hid (show readD l = (Sgn.zero, 11) from by rw [HRD.out, if_neg (by simp [HM.out, hgd]), if_pos ⟨h1, h2⟩])
  clear HRD
  have d3 : ((x8.toNat : Int) != 13) = true := by rw [bne_iff_ne]; exact fun h => h2 (UInt8.toNat_inj.1 (by show _ = 13; omega))
  have d4 : ((x8.toNat : Int) == 13) = false := by rw [beq_eq_false_iff_ne]; exact fun h => h2 (UInt8.toNat_inj.1 (by show _ = 13; omega))
  clear h1 h2
  go_wp2_with (fail)
  go_quiet (fail)
  clear z8
  have c0 := cell_of_row (w3) G1 0 _ _ _ HR1.out
  have c1 := cell_of_row (w3) G1 1 _ _ _ HR1.out
  have c2 := cell_of_row (w3) G1 2 _ _ _ HR1.out
  have c3 := cell_of_row (w3) G1 3 _ _ _ HR1.out
  have c4 := cell_of_row (w3) G1 4 _ _ _ HR1.out
  simp only [List.getElem?_toArray, List.getElem?_cons_zero, List.getElem?_cons_succ] at c0 c1 c2 c3 c4
  have f0 := frozen_of (W := w3) HR1.out 0
  have f1 := frozen_of (W := w3) HR1.out 1
  have f2 := frozen_of (W := w3) HR1.out 2
  have f3 := frozen_of (W := w3) HR1.out 3
  have f4 := frozen_of (W := w3) HR1.out 4
  go_wp2_with (fail)
  clear q0 q1 q2 q3 q4
  clear c0 c1 c2 c3 c4 f0 f1 f2 f3 f4
  have hrow := setFive_row (W := (w3.drewN nq)) HR1.out (.int .u8 0) (.int .u8 0) (.int .u8 0) (.int .u8 0) (.int .u8 0)
  have hbel := setFive_below (W := (w3.drewN nq)) (drawN_below HB3.out nq) HG1.out (.int .u8 0) (.int .u8 0) (.int .u8 0) (.int .u8 0) (.int .u8 0)
  unfold setFive at hrow hbel
  generalize ((((((w3.drewN nq).setCell ⟨G1, 0, none⟩ (.int .u8 0)).setCell ⟨G1, 1, none⟩ (.int .u8 0)).setCell ⟨G1, 2, none⟩ (.int .u8 0)).setCell ⟨G1, 3, none⟩ (.int .u8 0)).setCell ⟨G1, 4, none⟩ (.int .u8 0)) = W5 at hrow hbel ⊢
  have c0 := cell_of_row _ G1 0 _ _ _ hrow
  have c1 := cell_of_row _ G1 1 _ _ _ hrow
  have c2 := cell_of_row _ G1 2 _ _ _ hrow
  have c3 := cell_of_row _ G1 3 _ _ _ hrow
  have c4 := cell_of_row _ G1 4 _ _ _ hrow
  simp only [List.getElem?_toArray, List.getElem?_cons_zero, List.getElem?_cons_succ] at c0 c1 c2 c3 c4
  exact bodyPost_ret (v := .tuple #[dlm 0 0 0 0 0, .int .i64 11]) (by simp [results, Tryz.results102, go_sem, c0, c1, c2, c3, c4]) rfl ⟨by rw [HRZ.out]; rfl, hbel⟩
end Go.Proofs.YtodjilljcjkacaaGreatDoor
/- Layer 6: the signs of a message. -/
namespace Go.Proofs.YtodjilljcjkacaaGreatDoor
open Go.RowKit

theorem delimRead (A : Option Addr) (n c : Nat) (l : List UInt8) (w : World) (hB : Bs w A n c l) :
    Calls Tryz.prog 102 #[.slice A n c] w fun e w' => e = .returned (.tuple #[(readD l).1.v, .int .i64 (readD l).2]) ∧ Below w.heap.size w w' := by
  by_cases h9 : (n : Int) < 9
  · exact delimRead_short A n c l w hB h9
  by_cases hm : l.take 3 = [77, 83, 72]
  · cases hgd : (Sgn.of l).good
    · exact delimRead_bad A n c l w hB h9 hm hgd
    · by_cases h1 : l.getD 8 0 = l.getD 3 0
      · exact delimRead_first A n c l w hB h9 hm hgd h1
      · by_cases h2 : l.getD 8 0 = 13
        · exact delimRead_tail A n c l w hB h9 hm hgd h1 h2
        · exact delimRead_other A n c l w hB h9 hm hgd h1 h2
  · exact delimRead_head A n c l w hB h9 hm
end Go.Proofs.YtodjilljcjkacaaGreatDoor
/- Blocks that are as they are told. -/
namespace Go.Proofs.YtodjilljcjkacaaGreatDoor
open Go.RowKit

/-- blocks that are as they are told -/
def Held (W : World) : List (Nat × Obj) → Prop
  | [] => True
  | x :: r => W.heap[x.1]? = some x.2 ∧ Held W r
theorem Held.below {W W' : World} : ∀ {r : List (Nat × Obj)}, Held W r → Below W.heap.size W W' → Held W' r
  | [], _, _ => trivial
  | _ :: _, h, hb => ⟨(hb.block _ (Array.getElem?_eq_some_iff.1 h.1).1).trans h.1, h.2.below hb⟩
theorem Held.alloc {W : World} {r : List (Nat × Obj)} (h : Held W r) (o : Obj) : Held (W.alloc o) ((W.heap.size, o) :: r) :=
  ⟨heap_alloc_new W o, h.below ((Below.refl _ _).alloc (Nat.le_refl _) o)⟩
end Go.Proofs.YtodjilljcjkacaaGreatDoor
/- '[]byte(s)' of a text, and 'append' onto it. -/
namespace Go.Proofs.YtodjilljcjkacaaGreatDoor
open Go.RowKit

theorem Below.setCells {B : Nat} {w : World} {g : Nat} (hg : B ≤ g) : ∀ (vs : List Value) (o : Nat) (W : World), Below B w W → Below B w (W.setCells g o vs)
  | [], _, _, h => h
  | v :: r, o, W, h => Below.setCells hg r (o + 1) (W.setCell ⟨g, o, none⟩ v) (h.setCell (p := ⟨g, o, none⟩) hg v)

theorem txt_app (a b : List UInt8) : txt a ++ txt b = txt (a ++ b) := by
  apply ByteArray.ext
  simp [txt]
theorem txt_size (a : List UInt8) : (txt a).size = a.length := by simp [ByteArray.size]

/-- a row that a text's conversion made: the bytes, and room behind them -/
structure Conv (W : World) (base n cap g : Nat) (xs : List UInt8) : Prop where
  hb : base ≤ g
  hg : g < W.heap.size
  hn : xs.length = n
  hc : n ≤ cap
  hm : cap ≤ maxLen
  cell : ∀ i x, xs[i]? = some x → W.cell? ⟨g, i, none⟩ = some (u8 x)
  there : ∀ j, j < cap → (W.cell? ⟨g, j, none⟩).isSome = true
  free : ∀ j, j < cap → W.frozen? ⟨g, j, none⟩ = false

theorem Conv.below {W W' : World} {base n cap g : Nat} {xs : List UInt8} (h : Conv W base n cap g xs) (hb : Below W.heap.size W W') : Conv W' base n cap g xs := by
  have hc : ∀ j, W'.cell? ⟨g, j, none⟩ = W.cell? ⟨g, j, none⟩ := fun j => hb.cell (p := ⟨g, j, none⟩) h.hg
  refine ⟨h.hb, Nat.lt_of_lt_of_le h.hg hb.size, h.hn, h.hc, h.hm, fun i x hx => by rw [hc]; exact h.cell i x hx, fun j hj => by rw [hc]; exact h.there j hj, fun j hj => ?_⟩
  have := h.free j hj
  unfold World.frozen? at this ⊢
  rw [hb.block g h.hg]
  exact this

section
variable {P : Program}

theorem Conv.bs {W : World} {base n cap g : Nat} {xs : List UInt8} (h : Conv W base n cap g xs) : Bs W (some ⟨g, 0, none⟩) n cap xs :=
  ⟨h.hn, h.hc, h.hm, fun _ => ⟨g, 0, rfl, fun i x hx => by rw [Nat.zero_add]; exact h.cell i x hx⟩⟩

theorem conv_run (w : World) (src dst e : TypeId) (s : ByteArray) {u : TypeDesc} (hs : P.underlying src = some u) (hd : P.underlying dst = some (.slice e)) (he : P.underlying e = some (.int .u8)) (base : Nat) (hb : base ≤ w.heap.size) (hl : s.size ≤ maxLen) :
    ∃ cap W, (convert src dst (.string s)).run P w = .ok (.slice (some ⟨w.heap.size, 0, none⟩) s.size cap) W ∧ Conv W base s.size cap w.heap.size s.data.toList ∧ Below w.heap.size w W := by
  refine ⟨_, _, Lib.run_convert_string_bytes w src dst e s hs hd he, ⟨hb, ?_, ?_, grownCap_ge _ _ _ _, grownCap_le_maxLen _ _ _ _ hl, ?_, ?_, ?_⟩, ?_⟩
  · rw [Lib.bytesWorld_size]; omega
  · rw [Array.length_toList]; rfl
  · intro i x hx
    have hi := (List.getElem?_eq_some_iff.1 hx).1
    rw [Lib.bytesWorld_cell w e s i (by rw [Array.length_toList] at hi; exact hi), List.getD_eq_getElem?_getD, hx]
    rfl
  · intro j hj
    have hge := grownCap_ge w s.size 0 e
    have hz : (Lib.bytesCells w e s).size = grownCap w s.size 0 e := by
      simp only [Lib.bytesCells, Array.size_append, Array.size_map, Array.size_replicate]
      have : s.data.size = s.size := rfl
      omega
    rw [cell_of_row _ _ _ _ _ _ (Lib.bytesWorld_at_new w e s), Array.getElem?_eq_getElem (by omega)]
    rfl
  · intro j hj
    have hge := grownCap_ge w s.size 0 e
    have hz : (Lib.bytesCells w e s).size = grownCap w s.size 0 e := by
      simp only [Lib.bytesCells, Array.size_append, Array.size_map, Array.size_replicate]
      have : s.data.size = s.size := rfl
      omega
    simp only [World.frozen?, Lib.bytesWorld_at_new w e s, Bool.and_eq_false_iff, decide_eq_false_iff_not]
    left
    omega
  · refine ⟨rfl, rfl, rfl, ?_, fun k hk => Lib.bytesWorld_at_old w e s k hk⟩
    rw [Lib.bytesWorld_size]; omega

theorem conv_list (w : World) (src dst e : TypeId) (l : List UInt8) (N : Nat) {u : TypeDesc} (hs : P.underlying src = some u) (hd : P.underlying dst = some (.slice e)) (he : P.underlying e = some (.int .u8)) (hN : l.length = N) (hl : N ≤ maxLen) :
    ∃ cap W, (convert src dst (.string (txt l))).run P w = .ok (.slice (some ⟨w.heap.size, 0, none⟩) N cap) W ∧ Conv W w.heap.size N cap w.heap.size l ∧ Below w.heap.size w W := by
  have h := conv_run (P := P) w src dst e (txt l) hs hd he w.heap.size (Nat.le_refl _) (by rw [txt_size, hN]; exact hl)
  rwa [txt_size, hN] at h

theorem Bs.src (src e : TypeId) (hs : P.underlying src = some (.slice e)) {W : World} {A : Option Addr} {m c : Nat} {l : List UInt8} (h : Bs W A m c l) : Src P 1 src (.slice A m c) m (u8s l) W := by
  have hlen := h.len
  rcases A with _ | a
  · have hm : m = 0 := by
      rcases Nat.eq_zero_or_pos m with h0 | h0
      · exact h0
      · obtain ⟨b, o, e, _⟩ := h.2.2.2 h0
        cases e
    subst hm
    obtain rfl := h.empty
    exact Src.ofNil W hs c
  · refine Src.ofSlice W hs a m c (u8s l) (by simp [hlen]) (fun j u hu => ?_) (u8s_one l)
    obtain ⟨x, hx, rfl⟩ := u8s_get hu
    have hm : 0 < m := by have := (List.getElem?_eq_some_iff.1 hx).1; omega
    obtain ⟨b, o, e, _, hc⟩ := h.at_ hm
    injection e with e
    subst e
    rw [Addr.add_lit]
    exact hc j x hx

/-- 'append(row, x...)' -/
theorem Conv.app (t ty e : TypeId) (ht : P.underlying t = some (.slice e)) (hi : (P.info? e).map (fun i => (i.zero, i.size, i.bytes)) = some (some (.int .u8 0), 1, 1))
    {W : World} {base n cap g : Nat} {xs : List UInt8} (h : Conv W base n cap g xs) {A : Option Addr} {m c : Nat} {l : List UInt8} (hl : Bs W A m c l) (hb : base ≤ W.heap.size) (hbytes : n + m ≤ 140737488355328) :
    ∃ B c' W', (Builtin.append_ #[t, t] ty #[.slice (some ⟨g, 0, none⟩) n cap, .slice A m c]).run P W = .ok (.slice B (n + m) c') W' ∧ Bs W' B (n + m) c' (xs ++ l) ∧ Below base W W' := by
  obtain ⟨i, hi, hzz⟩ := Option.map_eq_some_iff.1 hi
  simp only [Prod.mk.injEq] at hzz
  obtain ⟨hz, hsz, hby⟩ := hzz
  have hs := Bs.src (P := P) t e ht hl
  have hlen := hl.len
  have hul : (u8s l).length = m := by simp [hlen]
  by_cases hroom : n + m ≤ cap
  · have hr := run_append_room_src (P := P) W t t ty e i ht hi g 0 n cap (.slice A m c) m (u8s l) (by rw [hsz]; exact hs) hroom
      (fun j hj => by rw [hsz]; exact h.there _ (by omega)) (fun j hj => by rw [hsz]; exact h.free _ (by omega))
    refine ⟨_, _, _, hr, ⟨by rw [List.length_append, h.hn, hlen], hroom, h.hm, fun _ => ⟨g, 0, rfl, fun k x hx => ?_⟩⟩, Below.setCells h.hb _ _ _ (Below.refl _ _)⟩
    rw [hsz, Nat.mul_one, Nat.zero_add, Nat.zero_add]
    by_cases hk : k < n
    · rw [List.getElem?_append_left (by rw [h.hn]; exact hk)] at hx
      rw [World.cell?_setCells_out g _ _ _ _ (fun _ _ => .inl hk)]
      exact h.cell k x hx
    · rw [List.getElem?_append_right (by rw [h.hn]; omega), h.hn] at hx
      have hk2 := (List.getElem?_eq_some_iff.1 hx).1
      have hin := World.cell?_setCells_in g (u8s l) n W (fun j hj => h.there _ (by omega)) (k - n) (by omega)
      rw [show n + (k - n) = k from by omega] at hin
      rw [hin]
      congr 1
      rw [List.getElem_map]
      rw [List.getElem?_eq_getElem hk2] at hx
      injection hx with hx
      rw [hx]
  · have hold : (Builtin.firstCells i.size n (.slice (some ⟨g, 0, none⟩) n cap)).run P W.drew = .ok (u8s xs).toArray W.drew := by
      rw [hsz]
      exact run_firstCells_some (P := P) W.drew 1 n ⟨g, 0, none⟩ n cap (u8s xs) (by simp [h.hn]) (fun j u hu => by
        obtain ⟨x, hx, rfl⟩ := u8s_get hu
        rw [Addr.add_lit, Nat.zero_add]
        exact h.cell j x hx)
    have hr := run_append_grow_src (P := P) W t t ty e i (.int .u8 0) ht hi hz (some ⟨g, 0, none⟩) n cap (u8s xs) hold (.slice A m c) m (u8s l) (by rw [hsz]; exact hs) (by omega) (by omega)
      (growslice_fits (by omega) (by rw [hby]; omega))
    refine ⟨_, _, _, hr, Bs.of_block (g := W.heap.size) (t := e) (f := (0, 0)) (cur := u8s (xs ++ l) ++ (Builtin.zeroCells (Value.int .u8 0).cells (grownCap W (n + m) cap e - (n + m))).toList) ?_ ?_ (by rw [List.length_append, h.hn, hlen]) (grownCap_ge _ _ _ _) (grownCap_le_maxLen _ _ _ _ (by simp only [maxLen]; omega)), ((Below.refl base W).drew).alloc (by simpa using hb) _⟩
    · rw [show (W.drew.alloc (.cells ((u8s xs ++ u8s l).toArray ++ Builtin.zeroCells (Value.int .u8 0).cells (grownCap W (n + m) cap e - (n + m))) e)).heap[W.heap.size]? = _ from heap_alloc_new W.drew _]
      congr 2
      apply Array.ext'
      simp
    · rw [List.take_append_of_le_length (by simp), List.take_of_length_le (by simp)]

end

end Go.Proofs.YtodjilljcjkacaaGreatDoor
/- Layer 6: which signs may be, without the walk. -/
namespace Go.Proofs.YtodjilljcjkacaaGreatDoor
open Go.RowKit

end Go.Proofs.YtodjilljcjkacaaGreatDoor
/- The document's answer of layer 6: signs, walked. -/
namespace Go.Proofs.YtodjilljcjkacaaGreatDoor
open Go.RowKit

end Go.Proofs.YtodjilljcjkacaaGreatDoor
/- Layer 6's answer: few bytes, or not MSH, walked. -/
namespace Go.Proofs.YtodjilljcjkacaaGreatDoor
open Go.RowKit

end Go.Proofs.YtodjilljcjkacaaGreatDoor
/- Layer 6's answer: signs that may not be, walked. -/
namespace Go.Proofs.YtodjilljcjkacaaGreatDoor
open Go.RowKit

end Go.Proofs.YtodjilljcjkacaaGreatDoor
/- Layer 6's answer: signs that may be, the first one behind them, walked. -/
namespace Go.Proofs.YtodjilljcjkacaaGreatDoor
open Go.RowKit

end Go.Proofs.YtodjilljcjkacaaGreatDoor
/- Layer 6's answer: signs that may be, 13 behind them, walked. -/
namespace Go.Proofs.YtodjilljcjkacaaGreatDoor
open Go.RowKit

end Go.Proofs.YtodjilljcjkacaaGreatDoor
/- Layer 6's answer: signs that may be, another byte behind them, walked. -/
namespace Go.Proofs.YtodjilljcjkacaaGreatDoor
open Go.RowKit

end Go.Proofs.YtodjilljcjkacaaGreatDoor
/- Layer 6's answer: the signs of a message. -/
namespace Go.Proofs.YtodjilljcjkacaaGreatDoor
open Go.RowKit

end Go.Proofs.YtodjilljcjkacaaGreatDoor
/- Layer 9: what it stands on. -/
namespace Go.Proofs.YtodjilljcjkacaaGreatDoor
open Go.RowKit
end Go.Proofs.YtodjilljcjkacaaGreatDoor
/- Layer 9: heads, and the small functions about them, walked. -/
namespace Go.Proofs.YtodjilljcjkacaaGreatDoor
open Go.RowKit

/-- a head: signs and ten texts -/
structure Hd where
  d : Sgn
  a0 : ByteArray
  a1 : ByteArray
  a2 : ByteArray
  a3 : ByteArray
  a4 : ByteArray
  a5 : ByteArray
  a6 : ByteArray
  a7 : ByteArray
  a8 : ByteArray
  a9 : ByteArray

abbrev TH : TypeId := 111
abbrev Hd.cells (h : Hd) : Array Value := #[u8 h.d.a, u8 h.d.b, u8 h.d.c, u8 h.d.d, u8 h.d.e, .string h.a0, .string h.a1, .string h.a2, .string h.a3, .string h.a4, .string h.a5, .string h.a6, .string h.a7, .string h.a8, .string h.a9]
abbrev Hd.v (h : Hd) : Value := .agg #[u8 h.d.a, u8 h.d.b, u8 h.d.c, u8 h.d.d, u8 h.d.e, .string h.a0, .string h.a1, .string h.a2, .string h.a3, .string h.a4, .string h.a5, .string h.a6, .string h.a7, .string h.a8, .string h.a9]
def Hd.l (h : Hd) : List ByteArray := [h.a0, h.a1, h.a2, h.a3, h.a4, h.a5, h.a6, h.a7, h.a8, h.a9]
def Hd.zero : Hd := ⟨⟨0, 0, 0, 0, 0⟩, ⟨#[]⟩, ⟨#[]⟩, ⟨#[]⟩, ⟨#[]⟩, ⟨#[]⟩, ⟨#[]⟩, ⟨#[]⟩, ⟨#[]⟩, ⟨#[]⟩, ⟨#[]⟩⟩
/-- a head in a block of its own -/
def BoxH (h : Hd) (g : Nat) (w : World) : Prop := w.heap[g]? = some (.cells h.cells TH)
theorem BoxH.cells {h : Hd} {g : Nat} {w : World} (k : BoxH h g w) : w.cell? ⟨g, 0, none⟩ = some (u8 h.d.a) ∧ w.cell? ⟨g, 1, none⟩ = some (u8 h.d.b) ∧ w.cell? ⟨g, 2, none⟩ = some (u8 h.d.c) ∧ w.cell? ⟨g, 3, none⟩ = some (u8 h.d.d) ∧ w.cell? ⟨g, 4, none⟩ = some (u8 h.d.e) ∧ w.cell? ⟨g, 5, none⟩ = some (.string h.a0) ∧ w.cell? ⟨g, 6, none⟩ = some (.string h.a1) ∧ w.cell? ⟨g, 7, none⟩ = some (.string h.a2) ∧ w.cell? ⟨g, 8, none⟩ = some (.string h.a3) ∧ w.cell? ⟨g, 9, none⟩ = some (.string h.a4) ∧ w.cell? ⟨g, 10, none⟩ = some (.string h.a5) ∧ w.cell? ⟨g, 11, none⟩ = some (.string h.a6) ∧ w.cell? ⟨g, 12, none⟩ = some (.string h.a7) ∧ w.cell? ⟨g, 13, none⟩ = some (.string h.a8) ∧ w.cell? ⟨g, 14, none⟩ = some (.string h.a9) :=
  ⟨cell_of_row w g 0 _ _ _ k, cell_of_row w g 1 _ _ _ k, cell_of_row w g 2 _ _ _ k, cell_of_row w g 3 _ _ _ k, cell_of_row w g 4 _ _ _ k, cell_of_row w g 5 _ _ _ k, cell_of_row w g 6 _ _ _ k, cell_of_row w g 7 _ _ _ k, cell_of_row w g 8 _ _ _ k, cell_of_row w g 9 _ _ _ k, cell_of_row w g 10 _ _ _ k, cell_of_row w g 11 _ _ _ k, cell_of_row w g 12 _ _ _ k, cell_of_row w g 13 _ _ _ k, cell_of_row w g 14 _ _ _ k⟩
theorem BoxH.below {h : Hd} {g : Nat} {w w' : World} (k : BoxH h g w) (hb : Below w.heap.size w w') : BoxH h g w' := (hb.block g (Array.getElem?_eq_some_iff.1 k).1).trans k
theorem BoxH.keep {h : Hd} {g B : Nat} {w w' : World} (k : BoxH h g w) (hb : Below B w w') (hg : g < B) : BoxH h g w' := (hb.block g hg).trans k
theorem BoxH.new (h : Hd) (w : World) : BoxH h w.heap.size (w.alloc (.cells h.cells TH)) := heap_alloc_new w _
theorem BoxH.drew {h : Hd} {g : Nat} {w : World} (k : BoxH h g w) : BoxH h g w.drew := k
theorem boxHd_below (h : Hd) (w : World) : Below w.heap.size w (w.alloc (.cells h.cells TH)) := (Below.refl _ w).alloc (Nat.le_refl _) _
theorem heap_set_rowH {w : World} {g j : Nat} {C : Array Value} {t : TypeId} {fz : Nat × Nat} (h : w.heap[g]? = some (.cells C t fz)) (u : Value) : (w.setCell ⟨g, j, none⟩ u).heap[g]? = some (.cells (C.setIfInBounds j u) t fz) := by
  simp [World.setCell, Array.getElem?_modify, h]
theorem BoxH.frozen {h : Hd} {g : Nat} {w : World} (k : BoxH h g w) (j : Nat) : w.frozen? ⟨g, j, none⟩ = false := by
  unfold BoxH at k
  simp [World.frozen?, k]

/-- the known versions -/
def vB : Nat → ByteArray
  | 0 => ⟨#[50, 46, 49]⟩
  | 1 => ⟨#[50, 46, 50]⟩
  | 2 => ⟨#[50, 46, 51]⟩
  | 3 => ⟨#[50, 46, 51, 46, 49]⟩
  | 4 => ⟨#[50, 46, 52]⟩
  | 5 => ⟨#[50, 46, 53]⟩
  | 6 => ⟨#[50, 46, 53, 46, 49]⟩
  | 7 => ⟨#[50, 46, 54]⟩
  | 8 => ⟨#[50, 46, 55]⟩
  | 9 => ⟨#[50, 46, 56]⟩
  | _ => ⟨#[]⟩
def versL : List ByteArray := [vB 0, vB 1, vB 2, vB 3, vB 4, vB 5, vB 6, vB 7, vB 8, vB 9]
abbrev versV : Array Value := #[.string (vB 0), .string (vB 1), .string (vB 2), .string (vB 3), .string (vB 4), .string (vB 5), .string (vB 6), .string (vB 7), .string (vB 8), .string (vB 9)]
/-- the program's own table of them -/
def Vers (w : World) : Prop := w.cell? ⟨3, 0, none⟩ = some (.string (vB 0)) ∧ w.cell? ⟨3, 1, none⟩ = some (.string (vB 1)) ∧ w.cell? ⟨3, 2, none⟩ = some (.string (vB 2)) ∧ w.cell? ⟨3, 3, none⟩ = some (.string (vB 3)) ∧ w.cell? ⟨3, 4, none⟩ = some (.string (vB 4)) ∧ w.cell? ⟨3, 5, none⟩ = some (.string (vB 5)) ∧ w.cell? ⟨3, 6, none⟩ = some (.string (vB 6)) ∧ w.cell? ⟨3, 7, none⟩ = some (.string (vB 7)) ∧ w.cell? ⟨3, 8, none⟩ = some (.string (vB 8)) ∧ w.cell? ⟨3, 9, none⟩ = some (.string (vB 9))
theorem Vers.below {w w' : World} (h : Vers w) (hb : Below w.heap.size w w') : Vers w' := by
  obtain ⟨h0, h1, h2, h3, h4, h5, h6, h7, h8, h9⟩ := h
  have hl := World.block_lt_of_cell? w _ h0
  exact ⟨(hb.cell (p := ⟨3, 0, none⟩) hl).trans h0, (hb.cell (p := ⟨3, 1, none⟩) hl).trans h1, (hb.cell (p := ⟨3, 2, none⟩) hl).trans h2, (hb.cell (p := ⟨3, 3, none⟩) hl).trans h3, (hb.cell (p := ⟨3, 4, none⟩) hl).trans h4, (hb.cell (p := ⟨3, 5, none⟩) hl).trans h5, (hb.cell (p := ⟨3, 6, none⟩) hl).trans h6, (hb.cell (p := ⟨3, 7, none⟩) hl).trans h7, (hb.cell (p := ⟨3, 8, none⟩) hl).trans h8, (hb.cell (p := ⟨3, 9, none⟩) hl).trans h9⟩
def knownD (s : ByteArray) : Bool := versL.any fun v => decide (v = s)
set_option maxHeartbeats 4000000 in
set_option maxRecDepth 100000 in
theorem knownVersion_ (s : ByteArray) (w : World) (hv : Vers w) : Calls Tryz.prog 157 #[.string s] w fun e w' => e = .returned (.bool (knownD s)) ∧ w' = w := by
  obtain ⟨v0, v1, v2, v3, v4, v5, v6, v7, v8, v9⟩ := hv
  go_enter Tryz.func157, Tryz.ntmps157
  go_wp2_with (fail)
  clear v0 v1 v2 v3 v4 v5 v6 v7 v8 v9
  go_loop [6, 4] (fun i _ => ∃ k : Nat, k ≤ 10 ∧ i = .int .i64 k ∧ ∀ j, j < k → vB j ≠ s) (fun i _ => 10 - (intOf i).toNat)
  case atStart => exact ⟨0, by omega, rfl, fun j h => absurd h (by omega)⟩
  case round =>
    obtain ⟨k, hk, rfl, hn⟩ := hrel
    have HN := Lib.hid hn
    clear hn
    by_cases hlt : k < 10
    · match k, hlt with
      | 0, _ =>
        rw [show ((0 : Nat) : Int) = 0 from rfl]
        have i0 : ∀ W, (Instr.index 230 (.agg versV) (.int .i64 0)).run Tryz.prog W = .ok (.string (vB 0)) W := fun _ => by kernel_rfl
        clear hlt hk
        by_cases he : vB 0 = s
        · have d := strEq_t he
          have HE : Hid (knownD s = true) := Lib.hid (by unfold knownD versL; simp [he])
          clear he
          go_wp2_with (fail)
          go_ret
          rw [HE.out]; exact ⟨rfl, rfl⟩
        · have d := strEq_f he
          have HM : Hid (∀ j, j < 1 → vB j ≠ s) := Lib.hid (fun j hj => by
            rcases Nat.lt_or_ge j 0 with h | h
            · exact HN.out j h
            · have : j = 0 := by omega
              rw [this]; exact he)
          clear he
          go_wp2_with (fail)
          exact ⟨⟨1, by omega, rfl, HM.out⟩, by simp [intOf]⟩
      | 1, _ =>
        rw [show ((1 : Nat) : Int) = 1 from rfl]
        have i0 : ∀ W, (Instr.index 230 (.agg versV) (.int .i64 1)).run Tryz.prog W = .ok (.string (vB 1)) W := fun _ => by kernel_rfl
        clear hlt hk
        by_cases he : vB 1 = s
        · have d := strEq_t he
          have HE : Hid (knownD s = true) := Lib.hid (by unfold knownD versL; simp [he])
          clear he
          go_wp2_with (fail)
          go_ret
          rw [HE.out]; exact ⟨rfl, rfl⟩
        · have d := strEq_f he
          have HM : Hid (∀ j, j < 2 → vB j ≠ s) := Lib.hid (fun j hj => by
            rcases Nat.lt_or_ge j 1 with h | h
            · exact HN.out j h
            · have : j = 1 := by omega
              rw [this]; exact he)
          clear he
          go_wp2_with (fail)
          exact ⟨⟨2, by omega, rfl, HM.out⟩, by simp [intOf]⟩
      | 2, _ =>
        rw [show ((2 : Nat) : Int) = 2 from rfl]
        have i0 : ∀ W, (Instr.index 230 (.agg versV) (.int .i64 2)).run Tryz.prog W = .ok (.string (vB 2)) W := fun _ => by kernel_rfl
        clear hlt hk
        by_cases he : vB 2 = s
        · have d := strEq_t he
          have HE : Hid (knownD s = true) := Lib.hid (by unfold knownD versL; simp [he])
          clear he
          go_wp2_with (fail)
          go_ret
          rw [HE.out]; exact ⟨rfl, rfl⟩
        · have d := strEq_f he
          have HM : Hid (∀ j, j < 3 → vB j ≠ s) := Lib.hid (fun j hj => by
            rcases Nat.lt_or_ge j 2 with h | h
            · exact HN.out j h
            · have : j = 2 := by omega
              rw [this]; exact he)
          clear he
          go_wp2_with (fail)
          exact ⟨⟨3, by omega, rfl, HM.out⟩, by simp [intOf]⟩
      | 3, _ =>
        rw [show ((3 : Nat) : Int) = 3 from rfl]
        have i0 : ∀ W, (Instr.index 230 (.agg versV) (.int .i64 3)).run Tryz.prog W = .ok (.string (vB 3)) W := fun _ => by kernel_rfl
        clear hlt hk
        by_cases he : vB 3 = s
        · have d := strEq_t he
          have HE : Hid (knownD s = true) := Lib.hid (by unfold knownD versL; simp [he])
          clear he
          go_wp2_with (fail)
          go_ret
          rw [HE.out]; exact ⟨rfl, rfl⟩
        · have d := strEq_f he
          have HM : Hid (∀ j, j < 4 → vB j ≠ s) := Lib.hid (fun j hj => by
            rcases Nat.lt_or_ge j 3 with h | h
            · exact HN.out j h
            · have : j = 3 := by omega
              rw [this]; exact he)
          clear he
          go_wp2_with (fail)
          exact ⟨⟨4, by omega, rfl, HM.out⟩, by simp [intOf]⟩
      | 4, _ =>
        rw [show ((4 : Nat) : Int) = 4 from rfl]
        have i0 : ∀ W, (Instr.index 230 (.agg versV) (.int .i64 4)).run Tryz.prog W = .ok (.string (vB 4)) W := fun _ => by kernel_rfl
        clear hlt hk
        by_cases he : vB 4 = s
        · have d := strEq_t he
          have HE : Hid (knownD s = true) := Lib.hid (by unfold knownD versL; simp [he])
          clear he
          go_wp2_with (fail)
          go_ret
          rw [HE.out]; exact ⟨rfl, rfl⟩
        · have d := strEq_f he
          have HM : Hid (∀ j, j < 5 → vB j ≠ s) := Lib.hid (fun j hj => by
            rcases Nat.lt_or_ge j 4 with h | h
            · exact HN.out j h
            · have : j = 4 := by omega
              rw [this]; exact he)
          clear he
          go_wp2_with (fail)
          exact ⟨⟨5, by omega, rfl, HM.out⟩, by simp [intOf]⟩
      | 5, _ =>
        rw [show ((5 : Nat) : Int) = 5 from rfl]
        have i0 : ∀ W, (Instr.index 230 (.agg versV) (.int .i64 5)).run Tryz.prog W = .ok (.string (vB 5)) W := fun _ => by kernel_rfl
        clear hlt hk
        by_cases he : vB 5 = s
        · have d := strEq_t he
          have HE : Hid (knownD s = true) := Lib.hid (by unfold knownD versL; simp [he])
          clear he
          go_wp2_with (fail)
          go_ret
          rw [HE.out]; exact ⟨rfl, rfl⟩
        · have d := strEq_f he
          have HM : Hid (∀ j, j < 6 → vB j ≠ s) := Lib.hid (fun j hj => by
            rcases Nat.lt_or_ge j 5 with h | h
            · exact HN.out j h
            · have : j = 5 := by omega
              rw [this]; exact he)
          clear he
          go_wp2_with (fail)
          exact ⟨⟨6, by omega, rfl, HM.out⟩, by simp [intOf]⟩
      | 6, _ =>
        rw [show ((6 : Nat) : Int) = 6 from rfl]
        have i0 : ∀ W, (Instr.index 230 (.agg versV) (.int .i64 6)).run Tryz.prog W = .ok (.string (vB 6)) W := fun _ => by kernel_rfl
        clear hlt hk
        by_cases he : vB 6 = s
        · have d := strEq_t he
          have HE : Hid (knownD s = true) := Lib.hid (by unfold knownD versL; simp [he])
          clear he
          go_wp2_with (fail)
          go_ret
          rw [HE.out]; exact ⟨rfl, rfl⟩
        · have d := strEq_f he
          have HM : Hid (∀ j, j < 7 → vB j ≠ s) := Lib.hid (fun j hj => by
            rcases Nat.lt_or_ge j 6 with h | h
            · exact HN.out j h
            · have : j = 6 := by omega
              rw [this]; exact he)
          clear he
          go_wp2_with (fail)
          exact ⟨⟨7, by omega, rfl, HM.out⟩, by simp [intOf]⟩
      | 7, _ =>
        rw [show ((7 : Nat) : Int) = 7 from rfl]
        have i0 : ∀ W, (Instr.index 230 (.agg versV) (.int .i64 7)).run Tryz.prog W = .ok (.string (vB 7)) W := fun _ => by kernel_rfl
        clear hlt hk
        by_cases he : vB 7 = s
        · have d := strEq_t he
          have HE : Hid (knownD s = true) := Lib.hid (by unfold knownD versL; simp [he])
          clear he
          go_wp2_with (fail)
          go_ret
          rw [HE.out]; exact ⟨rfl, rfl⟩
        · have d := strEq_f he
          have HM : Hid (∀ j, j < 8 → vB j ≠ s) := Lib.hid (fun j hj => by
            rcases Nat.lt_or_ge j 7 with h | h
            · exact HN.out j h
            · have : j = 7 := by omega
              rw [this]; exact he)
          clear he
          go_wp2_with (fail)
          exact ⟨⟨8, by omega, rfl, HM.out⟩, by simp [intOf]⟩
      | 8, _ =>
        rw [show ((8 : Nat) : Int) = 8 from rfl]
        have i0 : ∀ W, (Instr.index 230 (.agg versV) (.int .i64 8)).run Tryz.prog W = .ok (.string (vB 8)) W := fun _ => by kernel_rfl
        clear hlt hk
        by_cases he : vB 8 = s
        · have d := strEq_t he
          have HE : Hid (knownD s = true) := Lib.hid (by unfold knownD versL; simp [he])
          clear he
          go_wp2_with (fail)
          go_ret
          rw [HE.out]; exact ⟨rfl, rfl⟩
        · have d := strEq_f he
          have HM : Hid (∀ j, j < 9 → vB j ≠ s) := Lib.hid (fun j hj => by
            rcases Nat.lt_or_ge j 8 with h | h
            · exact HN.out j h
            · have : j = 8 := by omega
              rw [this]; exact he)
          clear he
          go_wp2_with (fail)
          exact ⟨⟨9, by omega, rfl, HM.out⟩, by simp [intOf]⟩
      | 9, _ =>
        rw [show ((9 : Nat) : Int) = 9 from rfl]
        have i0 : ∀ W, (Instr.index 230 (.agg versV) (.int .i64 9)).run Tryz.prog W = .ok (.string (vB 9)) W := fun _ => by kernel_rfl
        clear hlt hk
        by_cases he : vB 9 = s
        · have d := strEq_t he
          have HE : Hid (knownD s = true) := Lib.hid (by unfold knownD versL; simp [he])
          clear he
          go_wp2_with (fail)
          go_ret
          rw [HE.out]; exact ⟨rfl, rfl⟩
        · have d := strEq_f he
          have HM : Hid (∀ j, j < 10 → vB j ≠ s) := Lib.hid (fun j hj => by
            rcases Nat.lt_or_ge j 9 with h | h
            · exact HN.out j h
            · have : j = 9 := by omega
              rw [this]; exact he)
          clear he
          go_wp2_with (fail)
          exact ⟨⟨10, by omega, rfl, HM.out⟩, by simp [intOf]⟩
    · obtain rfl : k = 10 := by omega
      have HE : Hid (knownD s = false) := Lib.hid (by
        have h := HN.out
        unfold knownD versL
        simp only [List.any_cons, List.any_nil, Bool.or_false, Bool.or_eq_false_iff, decide_eq_false_iff_not]
        exact ⟨h 0 (by omega), h 1 (by omega), h 2 (by omega), h 3 (by omega), h 4 (by omega), h 5 (by omega), h 6 (by omega), h 7 (by omega), h 8 (by omega), h 9 (by omega)⟩)
      clear hlt hk
      go_wp2_with (fail)
      go_ret
      rw [HE.out]; exact ⟨rfl, rfl⟩

theorem knownProcess_ (s : ByteArray) (w : World) : Calls Tryz.prog 159 #[.string s] w fun e w' => e = .returned (.bool (s.toList == [80] || s.toList == [68] || s.toList == [84])) ∧ w' = w := by
  cases d1 : (s.toList == [80]) <;> cases d2 : (s.toList == [68]) <;> cases d3 : (s.toList == [84]) <;>
  · go_enter Tryz.func159, Tryz.ntmps159
    go_wp2_with (fail)
    go_ret
    exact ⟨rfl, rfl⟩

/-- the first component of the first repetition -/
def firstD (f : ByteArray) (d : Sgn) : List UInt8 := (cutAt d.b ((cutAt d.c f.data.toList).headD [])).headD []
theorem parts_first (f : ByteArray) (d : Sgn) : nthD (partsD f d 1) 1 = some (firstD f d) := by
  obtain ⟨x, r, hx⟩ : ∃ x r, cutAt d.c f.data.toList = x :: r := by
    cases h : cutAt d.c f.data.toList with
    | nil => exact absurd h (cutAt_ne _ _)
    | cons a b => exact ⟨a, b, rfl⟩
  obtain ⟨y, q, hy⟩ : ∃ y q, cutAt d.b x = y :: q := by
    cases h : cutAt d.b x with
    | nil => exact absurd h (cutAt_ne _ _)
    | cons a b => exact ⟨a, b, rfl⟩
  have h1 : nthD (cutAt d.c f.data.toList) 1 = some x := by rw [hx]; rfl
  unfold partsD firstD
  rw [h1, hx]
  show nthD (cutAt d.b x) 1 = some ((cutAt d.b x).headD [])
  rw [hy]; rfl
set_option maxHeartbeats 1000000 in
theorem asked_ (f : ByteArray) (d : Sgn) (w : World) (hs : f.size ≤ 9223372036854775806) : Calls Tryz.prog 158 #[.string f, d.v] w fun e w' => e = .returned (str (firstD f d)) ∧ Below w.heap.size w w' := by
  have HB0 := Lib.hid (boxSgn_below d w)
  have HX0 : Hid (BoxS d w.heap.size (boxSgn d w)) := Lib.hid (heap_alloc_new w _)
  have HP := Lib.hid (parts_first f d)
  go_enter Tryz.func158, Tryz.ntmps158
  go_wp2_with (fail)
  refine (part_ f 1 1 d _ hs).mono ?_
  rintro e w2 ⟨rfl, hb2⟩
  rw [HP.out]
  have HB2 := Lib.hid (HB0.out.trans (hb2.mono HB0.out.size))
  clear hb2
  go_wp2_with (fail)
  go_ret
  exact ⟨rfl, HB2.out⟩

set_option maxHeartbeats 1000000 in
set_option maxRecDepth 100000 in
theorem otherSigns_ (d : Sgn) (w : World) : Calls Tryz.prog 103 #[d.v] w fun e w' => e = .returned (str [d.b, d.c, d.d, d.e]) ∧ Below w.heap.size w w' := by
  have HX0 : Hid (BoxS d w.heap.size (boxSgn d w)) := Lib.hid (heap_alloc_new w _)
  have HB0 := Lib.hid (boxSgn_below d w)
  obtain ⟨c0, c1, c2, c3, c4⟩ := HX0.out.cells
  go_enter Tryz.func103, Tryz.ntmps103
  have hcv : (convert 40 9 (.slice (some ⟨w.heap.size + 1, 0, none⟩) 4 4)).run Tryz.prog ((w.alloc (.cells #[.int .u8 (d.a.toNat : Int), .int .u8 (d.b.toNat : Int), .int .u8 (d.c.toNat : Int), .int .u8 (d.d.toNat : Int), .int .u8 (d.e.toNat : Int)] 109)).alloc (.cells #[u8 d.b, u8 d.c, u8 d.d, u8 d.e] 5)) = .ok (str [d.b, d.c, d.d, d.e]) ((w.alloc (.cells #[.int .u8 (d.a.toNat : Int), .int .u8 (d.b.toNat : Int), .int .u8 (d.c.toNat : Int), .int .u8 (d.d.toNat : Int), .int .u8 (d.e.toNat : Int)] 109)).alloc (.cells #[u8 d.b, u8 d.c, u8 d.d, u8 d.e] 5)) := (Bs.lit (boxSgn d w) [d.b, d.c, d.d, d.e] 5 #[u8 d.b, u8 d.c, u8 d.d, u8 d.e] (w.heap.size + 1) (boxSgn_size d w).symm rfl rfl (by simp [maxLen])).str (P := Tryz.prog) 40 5 9 Tryz.underlying40 Tryz.underlying5 Tryz.underlying9
  have HB1 : Hid (Below w.heap.size w ((boxSgn d w).alloc (.cells #[u8 d.b, u8 d.c, u8 d.d, u8 d.e] 5))) := Lib.hid (HB0.out.alloc HB0.out.size _)
  go_wp2_with (fail)
  go_ret
  exact ⟨rfl, HB1.out⟩
end Go.Proofs.YtodjilljcjkacaaGreatDoor
/- Layer 9: what is wrong with a head, walked. -/
namespace Go.Proofs.YtodjilljcjkacaaGreatDoor
open Go.RowKit

def procD (s : ByteArray) : Bool := s.toList == [80] || s.toList == [68] || s.toList == [84]
/-- what is wrong with a head -/
def checkD (h : Hd) : Int := if h.a6.toList.isEmpty || h.a7.toList.isEmpty || decide (50 < h.a7.size) then 14 else if !knownD (txt (firstD h.a9 h.d)) then 12 else if !procD (txt (firstD h.a8 h.d)) then 13 else 0

set_option maxHeartbeats 4000000 in
set_option maxRecDepth 100000 in
theorem check_ (h : Hd) (w : World) (hv : Vers w) (h8 : h.a8.size ≤ 1000000000) (h9 : h.a9.size ≤ 1000000000) : Calls Tryz.prog 113 #[h.v] w fun e w' => e = .returned (.int .i64 (checkD h)) ∧ Below w.heap.size w w' := by
  have HX0 := Lib.hid (BoxH.new h w)
  have HB0 := Lib.hid (boxHd_below h w)
  have HV0 := Lib.hid (hv.below (boxHd_below h w))
  have H8 := Lib.hid h8
  have H9 := Lib.hid h9
  have HC : Hid (checkD h = if h.a6.toList.isEmpty || h.a7.toList.isEmpty || decide (50 < h.a7.size) then 14 else if !knownD (txt (firstD h.a9 h.d)) then 12 else if !procD (txt (firstD h.a8 h.d)) then 13 else 0) := Lib.hid rfl
  clear hv h8 h9
  go_enter Tryz.func113, Tryz.ntmps113
  obtain ⟨c0, c1, c2, c3, c4, c5, c6, c7, c8, c9, c10, c11, c12, c13, c14⟩ := HX0.out.cells
  cases d6 : h.a6.toList.isEmpty
  · cases d7 : h.a7.toList.isEmpty
    · by_cases h50 : 50 < h.a7.size
      · have d50 : decide ((50 : Int) < (h.a7.size : Int)) = true := by simp; omega
        have d51 : decide (50 < h.a7.size) = true := by simpa using h50
        have HE : Hid (checkD h = 14) := Lib.hid (by rw [HC.out, d6, d7, d51]; rfl)
        go_wp2_with (fail)
        go_ret
        rw [HE.out]; exact ⟨rfl, HB0.out⟩
      · have d50 : decide ((50 : Int) < (h.a7.size : Int)) = false := by simp; omega
        have d51 : decide (50 < h.a7.size) = false := by simpa using h50
        have HE : Hid (checkD h = if !knownD (txt (firstD h.a9 h.d)) then 12 else if !procD (txt (firstD h.a8 h.d)) then 13 else 0) := Lib.hid (by rw [HC.out, d6, d7, d51]; rfl)
        go_wp2_with (fail)
        generalize (w.alloc (.cells #[u8 h.d.a, u8 h.d.b, u8 h.d.c, u8 h.d.d, u8 h.d.e, .string h.a0, .string h.a1, .string h.a2, .string h.a3, .string h.a4, .string h.a5, .string h.a6, .string h.a7, .string h.a8, .string h.a9] TH)) = w0 at *
        refine (asked_ h.a9 h.d w0 (by have := H9.out; omega)).mono ?_
        rintro e w1 ⟨rfl, hb1⟩
        have HB1 := Lib.hid (HB0.out.trans (hb1.mono HB0.out.size))
        have HX1 := Lib.hid (HX0.out.below hb1)
        have HV1 := Lib.hid (HV0.out.below hb1)
        clear hb1 HX0 HB0 HV0 c0 c1 c2 c3 c4 c5 c6 c7 c8 c9 c10 c11 c12 c13 c14
        go_wp2_with (fail)
        refine (knownVersion_ (txt (firstD h.a9 h.d)) w1 HV1.out).mono ?_
        rintro e w2 ⟨rfl, rfl⟩
        obtain ⟨c0, c1, c2, c3, c4, c5, c6, c7, c8, c9, c10, c11, c12, c13, c14⟩ := HX1.out.cells
        cases dk : knownD (txt (firstD h.a9 h.d))
        · have HE2 : Hid (checkD h = 12) := Lib.hid (by rw [HE.out, dk]; rfl)
          go_wp2_with (fail)
          go_ret
          rw [HE2.out]; exact ⟨rfl, HB1.out⟩
        · have HE2 : Hid (checkD h = if !procD (txt (firstD h.a8 h.d)) then 13 else 0) := Lib.hid (by rw [HE.out, dk]; rfl)
          go_wp2_with (fail)
          refine (asked_ h.a8 h.d _ (by have := H8.out; omega)).mono ?_
          rintro e w3 ⟨rfl, hb3⟩
          have HB3 := Lib.hid (HB1.out.trans (hb3.mono HB1.out.size))
          clear hb3 c0 c1 c2 c3 c4 c5 c6 c7 c8 c9 c10 c11 c12 c13 c14
          go_wp2_with (fail)
          refine (knownProcess_ (txt (firstD h.a8 h.d)) _).mono ?_
          rintro e w4 ⟨rfl, rfl⟩
          have HPD : Hid (procD (txt (firstD h.a8 h.d)) = ((txt (firstD h.a8 h.d)).toList == [80] || (txt (firstD h.a8 h.d)).toList == [68] || (txt (firstD h.a8 h.d)).toList == [84])) := Lib.hid rfl
          rw [← HPD.out]
          clear HPD
          cases dp : procD (txt (firstD h.a8 h.d))
          · have HE3 : Hid (checkD h = 13) := Lib.hid (by rw [HE2.out, dp]; rfl)
            go_wp2_with (fail)
            go_ret
            rw [HE3.out]; exact ⟨rfl, HB3.out⟩
          · have HE3 : Hid (checkD h = 0) := Lib.hid (by rw [HE2.out, dp]; rfl)
            go_wp2_with (fail)
            go_ret
            rw [HE3.out]; exact ⟨rfl, HB3.out⟩
    · have HE : Hid (checkD h = 14) := Lib.hid (by rw [HC.out, d6, d7]; rfl)
      go_wp2_with (fail)
      go_ret
      rw [HE.out]; exact ⟨rfl, HB0.out⟩
  · have HE : Hid (checkD h = 14) := Lib.hid (by rw [HC.out, d6]; rfl)
    go_wp2_with (fail)
    go_ret
    rw [HE.out]; exact ⟨rfl, HB0.out⟩
end Go.Proofs.YtodjilljcjkacaaGreatDoor
/- Layer 9: a head read, walked. -/
namespace Go.Proofs.YtodjilljcjkacaaGreatDoor
open Go.RowKit

theorem row1_ (g : Nat) (w : World) : Calls Tryz.prog 141 #[.pointer (some ⟨g, 0, none⟩)] w fun e w' => e = .returned (.pointer (some ⟨g, 5, none⟩)) ∧ w' = w := by
  go_enter Tryz.func141, Tryz.ntmps141
  go_wp2_with (fail)
  go_ret
  exact ⟨rfl, rfl⟩
theorem row2_ (g : Nat) (w : World) : Calls Tryz.prog 142 #[.pointer (some ⟨g, 0, none⟩)] w fun e w' => e = .returned (.pointer (some ⟨g, 6, none⟩)) ∧ w' = w := by
  go_enter Tryz.func142, Tryz.ntmps142
  go_wp2_with (fail)
  go_ret
  exact ⟨rfl, rfl⟩
theorem row3_ (g : Nat) (w : World) : Calls Tryz.prog 143 #[.pointer (some ⟨g, 0, none⟩)] w fun e w' => e = .returned (.pointer (some ⟨g, 7, none⟩)) ∧ w' = w := by
  go_enter Tryz.func143, Tryz.ntmps143
  go_wp2_with (fail)
  go_ret
  exact ⟨rfl, rfl⟩
theorem row4_ (g : Nat) (w : World) : Calls Tryz.prog 144 #[.pointer (some ⟨g, 0, none⟩)] w fun e w' => e = .returned (.pointer (some ⟨g, 8, none⟩)) ∧ w' = w := by
  go_enter Tryz.func144, Tryz.ntmps144
  go_wp2_with (fail)
  go_ret
  exact ⟨rfl, rfl⟩
theorem row5_ (g : Nat) (w : World) : Calls Tryz.prog 145 #[.pointer (some ⟨g, 0, none⟩)] w fun e w' => e = .returned (.pointer (some ⟨g, 9, none⟩)) ∧ w' = w := by
  go_enter Tryz.func145, Tryz.ntmps145
  go_wp2_with (fail)
  go_ret
  exact ⟨rfl, rfl⟩
theorem row6_ (g : Nat) (w : World) : Calls Tryz.prog 146 #[.pointer (some ⟨g, 0, none⟩)] w fun e w' => e = .returned (.pointer (some ⟨g, 10, none⟩)) ∧ w' = w := by
  go_enter Tryz.func146, Tryz.ntmps146
  go_wp2_with (fail)
  go_ret
  exact ⟨rfl, rfl⟩
theorem row7_ (g : Nat) (w : World) : Calls Tryz.prog 147 #[.pointer (some ⟨g, 0, none⟩)] w fun e w' => e = .returned (.pointer (some ⟨g, 11, none⟩)) ∧ w' = w := by
  go_enter Tryz.func147, Tryz.ntmps147
  go_wp2_with (fail)
  go_ret
  exact ⟨rfl, rfl⟩
theorem row8_ (g : Nat) (w : World) : Calls Tryz.prog 148 #[.pointer (some ⟨g, 0, none⟩)] w fun e w' => e = .returned (.pointer (some ⟨g, 12, none⟩)) ∧ w' = w := by
  go_enter Tryz.func148, Tryz.ntmps148
  go_wp2_with (fail)
  go_ret
  exact ⟨rfl, rfl⟩
theorem row9_ (g : Nat) (w : World) : Calls Tryz.prog 149 #[.pointer (some ⟨g, 0, none⟩)] w fun e w' => e = .returned (.pointer (some ⟨g, 13, none⟩)) ∧ w' = w := by
  go_enter Tryz.func149, Tryz.ntmps149
  go_wp2_with (fail)
  go_ret
  exact ⟨rfl, rfl⟩
theorem row10_ (g : Nat) (w : World) : Calls Tryz.prog 150 #[.pointer (some ⟨g, 0, none⟩)] w fun e w' => e = .returned (.pointer (some ⟨g, 14, none⟩)) ∧ w' = w := by
  go_enter Tryz.func150, Tryz.ntmps150
  go_wp2_with (fail)
  go_ret
  exact ⟨rfl, rfl⟩
abbrev rowsV : Array Value := #[.func (.func 141) #[] #[], .func (.func 142) #[] #[], .func (.func 143) #[] #[], .func (.func 144) #[] #[], .func (.func 145) #[] #[], .func (.func 146) #[] #[], .func (.func 147) #[] #[], .func (.func 148) #[] #[], .func (.func 149) #[] #[], .func (.func 150) #[] #[]]
set_option maxHeartbeats 1000000 in
set_option maxRecDepth 100000 in
theorem rows_ (w : World) : Calls Tryz.prog 104 #[] w fun e w' => e = .returned (.agg rowsV) ∧ Below w.heap.size w w' := by
  go_enter Tryz.func104, Tryz.ntmps104
  go_wp2_with (fail)
  refine bodyPost_ret (v := .agg rowsV) ?_ rfl ⟨rfl, (Below.refl _ w).alloc (Nat.le_refl _) _⟩
  simp [results, Tryz.results104, go_sem]
end Go.Proofs.YtodjilljcjkacaaGreatDoor
