/- Layer 8: what the iterator of texts gives. -/
import Derived.Test.YtodgcmjdnfbegaaDoorStrs
import Derived.Test.YtodgcmjdnfbegaaDoorShelf
import Derived.Lib.IndexLaws
import Derived.RangeFuncNested
import Derived.RangeFuncBound
import Derived.RangeFuncCalls
import Derived.RangeFuncLeaves
import Derived.Shelf.Abstract
import Derived.Shelf.RegionOpen
import Derived.OwnWalkIn
import Derived.TacticsInMore
import Derived.LoopNIn
import Derived.LoopIn
namespace Go.Proofs.YtodgcmjdnfbegaaDoor
open Go.RowKit Go.Shelf
attribute [local go_sem] Oper.semAt_some

theorem cut_no {l : List UInt8} {c : UInt8} (h : Lib.indexByte l c < 0) : cutAt c l = [l] := by
  have h1 := Lib.indexByte_ge l c
  have h2 : Lib.indexByte l c = -1 := by omega
  refine cutAt_none c l fun hm => ?_
  obtain ⟨k, hk, e⟩ := List.mem_iff_getElem.1 hm
  exact Lib.indexByte_none h2 k (by rw [List.getElem?_eq_getElem hk, e])
theorem cut_yes {l : List UInt8} {c : UInt8} {o : Nat} (h : Lib.indexByte l c = o) : o < l.length ∧ cutAt c l = l.take o :: cutAt c (l.drop (o + 1)) := by
  obtain ⟨h1, h2⟩ := Lib.indexByte_some h
  obtain ⟨hlt, he⟩ := List.getElem?_eq_some_iff.1 h1
  refine ⟨hlt, ?_⟩
  have hc : c ∉ l.take o := by
    intro hm
    obtain ⟨k, hk, e⟩ := List.mem_iff_getElem.1 hm
    rw [List.length_take] at hk
    refine h2 k (by omega) ?_
    rw [List.getElem_take] at e
    rw [List.getElem?_eq_getElem (by omega), e]
  have := cutAt_clean c (l.drop (o + 1)) (l.take o) hc
  rw [← this]
  congr 1
  conv => lhs; rw [← List.take_append_drop o l, List.drop_eq_getElem_cons hlt, he]
theorem ex_take (r : ByteArray) (i : Nat) : txt (r.data.toList.take i) = r.extract 0 i := by
  apply ByteArray.ext
  apply Array.toList_inj.1
  rw [ByteArray.data_extract, Array.toList_extract, List.extract_eq_take_drop]
  simp
theorem ex_drop (r : ByteArray) (i : Nat) : (r.extract i r.size).data.toList = r.data.toList.drop i := by
  rw [ByteArray.data_extract, Array.toList_extract, List.extract_eq_take_drop]
  rw [List.take_of_length_le]
  rw [List.length_drop, Array.length_toList]
  exact Nat.le_refl _
theorem u8_back (c : UInt8) : ((c.toNat : Nat) : Int).toNat.toUInt8 = c := by simp

/-- one block lies as it lay -/
def KeepsB (b : Nat) (A B : World) : Prop := B.heap[b]? = A.heap[b]?
theorem KeepsB.cell {b i : Nat} {A B : World} (h : KeepsB b A B) : B.cell? ⟨b, i, none⟩ = A.cell? ⟨b, i, none⟩ := by
  unfold World.cell?
  rw [show B.heap[(⟨b, i, none⟩ : Addr).block]? = A.heap[b]? from h]
theorem keepsB_t {b : Nat} {A B C : World} (h : KeepsB b A B) (k : KeepsB b B C) : KeepsB b A C := Eq.trans k h
theorem keepsB_b {b : Nat} {w : World} (hb : b < w.heap.size) (W : World) (l : Nat) (o o' : Obj) (hl : w.heap.size ≤ l) (_ : W.heap[l]? = some o) (_ : o.isCells = false) (_ : o.isWalk = false) : KeepsB b W (W.putObj l o') :=
  World.putObj_heap_other (by omega)
theorem KeepsB.setCell {b : Nat} {A B : World} (h : KeepsB b A B) {p : Addr} (hp : b ≠ p.block) (v : Value) : KeepsB b A (B.setCell p v) := (Below.heap_setCell B p v b hp).trans h
theorem KeepsB.drew {b : Nat} {A B : World} (h : KeepsB b A B) : KeepsB b A B.drew := h
theorem KeepsB.below {b n : Nat} {A B : World} (h : Below n A B) (hb : b < n) : KeepsB b A B := h.block b hb
theorem KeepsB.refl (b : Nat) (A : World) : KeepsB b A A := rfl
theorem KeepsB.alloc {b : Nat} {A B : World} (h : KeepsB b A B) (hb : b < B.heap.size) (o : Obj) : KeepsB b A (B.alloc o) := (Below.heap_alloc B o b hb).trans h

set_option maxHeartbeats 4000000 in
set_option maxRecDepth 100000 in
theorem texts_in (n : Nat) (hn : 2 ≤ n) (l Bs Bc : Nat) (s : ByteArray) (c : UInt8) (J Jx : List (List UInt8) → World → Prop) (hs : s.size ≤ 9223372036854775807)
    (hY : ∀ pre x W1, J pre W1 → pre.length < (cutAt c s.data.toList).length → YieldAt Fence.wide (n - 1) Tryd.prog l #[str x] W1 fun e W' => (e = .returned (.bool true) ∧ J (pre ++ [x]) W' ∧ KeepsB Bc W1 W') ∨ (e = .returned (.bool false) ∧ Jx (pre ++ [x]) W'))
    (W : World) (hBs : W.cell? ⟨Bs, 0, none⟩ = some (.string s)) (hBc : W.cell? ⟨Bc, 0, none⟩ = some (u8 c)) (h0 : J [] W) :
    CallsIn Fence.wide n Tryd.prog 65 #[.func (.yield l) #[] #[], .pointer (some ⟨Bs, 0, none⟩), .pointer (some ⟨Bc, 0, none⟩)] W fun e W' => (∃ v, e = .returned v) ∧ ((∃ xs, xs = cutAt c s.data.toList ∧ J xs W') ∨ (∃ pre, pre <+: cutAt c s.data.toList ∧ Jx pre W')) := by
  have h1 : 1 ≤ n := by omega
  refine callsIn_of_wp Tryd.func65 rfl trivial ?_ rfl
  simp only [Tryd.ntmps65, List.size_toArray, List.length_cons, List.length_nil, Nat.reduceAdd, Nat.reduceSub, Array.replicate_succ, Array.replicate_zero, List.push_toArray, List.append_toArray, List.nil_append, List.cons_append]
  gi_wp2
  gi_loopw [4] (fun p wr => ∃ (pre : List (List UInt8)) (r : ByteArray), p = .string r ∧ r.size ≤ s.size ∧ cutAt c s.data.toList = pre ++ cutAt c r.data.toList ∧ wr.cell? ⟨Bc, 0, none⟩ = some (u8 c) ∧ J pre wr)
    (fun p _ => match p with | .string r => r.size | _ => 0)
  case atStart => exact ⟨[], s, rfl, Nat.le_refl _, rfl, hBc, h0⟩
  case round =>
    obtain ⟨pre, r, rfl, hrs, hcut, hc, hJ⟩ := hrel
    have HJ := Lib.hid hJ
    have HY := Lib.hid hY
    have HS := Lib.hid (And.intro hs hrs)
    have HCUT := Lib.hid hcut
    clear hJ hY hs hrs hcut h0 hBs hBc
    by_cases hno : Lib.indexByte r.data.toList c < 0
    · have hneg : Lib.indexByte r.data.toList c = -1 := by have := Lib.indexByte_ge r.data.toList c; omega
      have HCN := Lib.hid (cut_no (l := r.data.toList) (c := c) hno)
      obtain ⟨fn, tmps, assign, body, hy, hR⟩ := HY.out pre r.data.toList wr HJ.out (by rw [HCUT.out, HCN.out]; simp)
      rw [show str r.data.toList = .string r from rfl] at hy
      have HR := Lib.hid hR
      clear hno hR
      gi_wp2
      refine ⟨trivial, (callsIn_wide.2 (Tryd.strings_IndexByte r (c.toNat : Int) wr)).mono ?_⟩
      rintro e w1 ⟨rfl, rfl⟩
      rw [u8_back, hneg]
      gi_wp2
      refine HR.out.mono ?_
      have hlast : cutAt c s.data.toList = pre ++ [r.data.toList] := by rw [HCUT.out, HCN.out]
      rintro e W3 (⟨rfl, hJ3, hk3⟩ | ⟨rfl, hJx3⟩)
      · gi_wp2
        refine bodyPost_ret (results_none rfl _ _ _) rfl ?_
        exact ⟨⟨_, rfl⟩, .inl ⟨_, rfl, by rw [hlast]; exact hJ3⟩⟩
      · gi_wp2
        refine bodyPost_ret (results_none rfl _ _ _) rfl ?_
        exact ⟨⟨_, rfl⟩, .inr ⟨_, ⟨[], by rw [hlast]; simp⟩, hJx3⟩⟩
    · obtain ⟨o, ho⟩ : ∃ o : Nat, Lib.indexByte r.data.toList c = o := ⟨(Lib.indexByte r.data.toList c).toNat, by omega⟩
      obtain ⟨hlt, hcy⟩ := cut_yes ho
      have hro : o < r.size := by simpa using hlt
      have HCY := Lib.hid hcy
      have hd0 : decide ((o : Int) < 0) = false := by simp
      have ew : IntKind.i64.wrap ((o : Int) + 1) = ((o + 1 : Nat) : Int) := by have := HS.out; rw [IntKind.wrap_i64]; omega
      obtain ⟨fn, tmps, assign, body, hy, hR⟩ := HY.out pre (r.data.toList.take o) wr HJ.out (by rw [HCUT.out, hcy]; simp)
      rw [show str (r.data.toList.take o) = .string (r.extract 0 o) by rw [← ex_take]] at hy
      have HR := Lib.hid hR
      clear hcy hlt hno hR
      gi_wp2
      refine ⟨trivial, (callsIn_wide.2 (Tryd.strings_IndexByte r (c.toNat : Int) wr)).mono ?_⟩
      rintro e w1 ⟨rfl, rfl⟩
      rw [u8_back, ho]
      gi_wp2
      refine HR.out.mono ?_
      rintro e W3 (⟨rfl, hJ3, hk3⟩ | ⟨rfl, hJx3⟩)
      · have hc3 : W3.cell? ⟨Bc, 0, none⟩ = some (.int .u8 (c.toNat : Int)) := hk3.cell.trans hc
        gi_wp2
        go_roundw
        case rel => exact ⟨pre ++ [r.data.toList.take o], r.extract (o + 1) r.size, rfl, by have := HS.out; rw [ByteArray.size_extract]; omega, by rw [HCUT.out, HCY.out, ex_drop]; simp, hc3, hJ3⟩
        case measure => simp only [ByteArray.size_extract]; omega
      · gi_wp2
        refine bodyPost_ret (results_none rfl _ _ _) rfl ?_
        exact ⟨⟨_, rfl⟩, .inr ⟨pre ++ [r.data.toList.take o], ⟨cutAt c (r.data.toList.drop (o + 1)), by rw [HCUT.out, HCY.out]; simp⟩, hJx3⟩⟩

/-- the iterator of a text that lies in the box Bs, its sign in the box Bc -/
theorem texts_stops (n : Nat) (hn : 2 ≤ n) (Bs Bc : Nat) (s : ByteArray) (c : UInt8) (hs : s.size ≤ 9223372036854775807) {w : World}
    (hBs : w.cell? ⟨Bs, 0, none⟩ = some (.string s)) (hBc : w.cell? ⟨Bc, 0, none⟩ = some (u8 c)) (hls : Bs < w.heap.size) (hlc : Bc < w.heap.size) :
    SeqStopsK Fence.wide n Tryd.prog 65 #[.pointer (some ⟨Bs, 0, none⟩), .pointer (some ⟨Bc, 0, none⟩)] (fun x : List UInt8 => #[str x]) (KeepsB Bc) (fun xs => xs = cutAt c s.data.toList) (fun pre => pre <+: cutAt c s.data.toList) (cutAt c s.data.toList).length w := by
  intro l J Jx W hW hJ hJx hY h0
  exact texts_in n hn l Bs Bc s c J Jx hs hY W ((hW.cell (p := ⟨Bs, 0, none⟩) hls).trans hBs) ((hW.cell (p := ⟨Bc, 0, none⟩) hlc).trans hBc) h0

theorem texts_ (s : ByteArray) (c : UInt8) (w : World) : Calls Tryd.prog 38 #[.string s, u8 c] w fun e w' => e = .returned (.func (.func 65) #[] #[.pointer (some ⟨w.heap.size, 0, none⟩), .pointer (some ⟨w.heap.size + 1, 0, none⟩)]) ∧ w' = (w.alloc (.cells #[.string s] 9)).alloc (.cells #[u8 c] 5) := by
  have hmf : ∀ (fn : Fn) (first cap : Array Value) (w : World), (Instr.makeFunc fn first cap).run Tryd.prog w = .ok (.func fn first cap) w := fun _ _ _ _ => rfl
  go_enter Tryd.func38, Tryd.ntmps38
  go_wp2_with (fail)
  go_ret
  exact ⟨rfl, rfl⟩
end Go.Proofs.YtodgcmjdnfbegaaDoor
