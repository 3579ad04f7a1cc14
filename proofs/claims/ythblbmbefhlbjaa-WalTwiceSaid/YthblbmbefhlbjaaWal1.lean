/- Layer 14: a log, and the methods that only read it, walked. -/
import Derived.Test.YthblbmbefhlbjaaWalM
import Derived.Test.YthblbmbefhlbjaaRw
import Derived.Test.YthblbmbefhlbjaaTail
namespace Go.Proofs.Ythblbmbefhlbjaa
open Go.RowKit Go.MapKept

abbrev TL : TypeId := 79
abbrev pL (L : Nat) : Value := .pointer (some ⟨L, 0, none⟩)
abbrev lgCells (D : Nat) (nm : ByteArray) (v : Value) (g : Nat) : Array Value := #[pD D, .string nm, v, .int .i64 (g : Int)]
/-- the log's block and the disk's blocks -/
def LT (L D M : Nat) (F : List Ent) (k : Nat) : Prop := k = L ∨ DFoot D M F k
/-- a log at block L: its records, and how many bytes these have -/
structure LgAt (w : World) (B L D M : Nat) (F : List Ent) (nm : ByteArray) (rs : List (List UInt8)) (g : Nat) (v : Value) : Prop where
  row : w.heap[L]? = some (.cells (lgCells D nm v g) TL)
  base : B ≤ L
  off : ¬ DFoot D M F L
  rw : Rw B (LT L D M F) w v rs
section
variable {w w' : World} {B L D M g : Nat} {d d' : Dk} {F F' : List Ent} {nm : ByteArray} {rs : List (List UInt8)} {v : Value}
theorem LgAt.lt (h : LgAt w B L D M F nm rs g v) : L < w.heap.size := (Array.getElem?_eq_some_iff.1 h.row).1
theorem LgAt.cell (h : LgAt w B L D M F nm rs g v) (j : Nat) : w.cell? ⟨L, j, none⟩ = (lgCells D nm v g)[j]? := cell_of_row w L j _ _ _ h.row
theorem LgAt.frozen (h : LgAt w B L D M F nm rs g v) (j : Nat) : w.frozen? ⟨L, j, none⟩ = false := by simp [World.frozen?, h.row]
theorem DkCh.dfoot (c : DkCh D M F F' w w') {k : Nat} (hk : DFoot D M F' k) : DFoot D M F k ∨ w.heap.size ≤ k := by
  rcases hk with hk | hk | hk
  · exact .inl (.inl hk)
  · exact .inl (.inr (.inl hk))
  · rcases c.foot k hk with h | h
    · exact .inl (.inr (.inr h))
    · exact .inr h
theorem LgAt.dkch (h : LgAt w B L D M F nm rs g v) (c : DkCh D M F F' w w') : LgAt w' B L D M F' nm rs g v :=
  ⟨c.ch.row h.row h.off, h.base, fun hk => by
    rcases c.dfoot hk with h1 | h1
    · exact h.off h1
    · have := h.lt; omega, h.rw.ch c.ch (fun _ _ hk => .inr hk) (fun k hk ht => by
    rcases ht with ht | ht
    · exact .inl ht
    · rcases c.dfoot ht with h1 | h1
      · exact .inr h1
      · omega)⟩
theorem LgAt.below (h : LgAt w B L D M F nm rs g v) (hb : Below w.heap.size w w') : LgAt w' B L D M F nm rs g v := h.dkch (DkCh.of_below hb)
/-- its blocks, and those of its disk -/
def WFoot (L D M : Nat) (F : List Ent) (v : Value) (k : Nat) : Prop := LT L D M F k ∨ v.ownBlock = some k
structure WlCh (L D M : Nat) (F F' : List Ent) (v v' : Value) (w w' : World) : Prop where
  ch : Ch (WFoot L D M F v) w w'
  foot : ∀ k, WFoot L D M F' v' k → WFoot L D M F v k ∨ w.heap.size ≤ k
theorem WlCh.of_dk (c : DkCh D M F F' w w') : WlCh L D M F F' v v w w' :=
  ⟨(Ch.refl _ w).trans c.ch (fun _ _ hk => .inl (.inr hk)), fun k hk => by
    rcases hk with (hk | hk) | hk
    · exact .inl (.inl (.inl hk))
    · rcases c.dfoot hk with h | h
      · exact .inl (.inl (.inr h))
      · exact .inr h
    · exact .inl (.inr hk)⟩
theorem WlCh.trans {w1 : World} {F1 : List Ent} {v1 v' : Value} (h : WlCh L D M F F1 v v1 w w1) (k : WlCh L D M F1 F' v1 v' w1 w') : WlCh L D M F F' v v' w w' :=
  ⟨h.ch.trans k.ch (fun x hx hf => by
    rcases h.foot x hf with h1 | h1
    · exact h1
    · omega), fun x hx => by
    rcases k.foot x hx with h1 | h1
    · exact h.foot x h1
    · exact .inr (Nat.le_trans h.ch.size h1)⟩
theorem WlCh.of_below (hb : Below w.heap.size w w') : WlCh L D M F F v v w w' := WlCh.of_dk (DkCh.of_below hb)
theorem LgAt.foot_lt (h : LgAt w B L D M F nm rs g v) (hd : DkAt w B D M d F) {k : Nat} (hk : WFoot L D M F v k) : B ≤ k ∧ k < w.heap.size := by
  rcases hk with (hk | hk) | hk
  · rw [hk]; exact ⟨h.base, h.lt⟩
  · exact hd.foot_lt hk
  · obtain ⟨vs, hv⟩ := h.rw
    exact World.ownsRow.lt hv.2.1 k hk
theorem WlCh.below (h : LgAt w B L D M F nm rs g v) (hd : DkAt w B D M d F) {v' : Value} (c : WlCh L D M F F' v v' w w') (hB : B ≤ w.heap.size) : Below B w w' :=
  c.ch.below (fun _ hk => (h.foot_lt hd hk).1) hB
/-- the i-th record's slice -/
theorem LgAt.get (h : LgAt w B L D M F nm rs g v) {i : Nat} (hi : i < rs.length) : ∃ b o c A k, v = .slice (some ⟨b, o, none⟩) rs.length c ∧ rs.length ≤ c ∧ c ≤ maxLen ∧ w.cell? ⟨b, o + i, none⟩ = some (.slice A (rs.getD i []).length k) ∧ Bs w A (rs.getD i []).length k (rs.getD i []) := by
  obtain ⟨A, c, e, hr⟩ := h.rw.rd
  obtain ⟨b, o, rfl, hlt, hc⟩ := hr.2.2.2 (by omega)
  obtain ⟨A', k, hx, hb⟩ := hc i (rs.getD i []) (by rw [List.getD_eq_getElem?_getD, List.getElem?_eq_getElem hi]; rfl)
  exact ⟨b, o, c, A', k, e, hr.2.1, hr.2.2.1, hx, hb⟩

set_option maxRecDepth 100000 in
set_option maxHeartbeats 2000000 in
theorem walLen (h : LgAt w B L D M F nm rs g v) : Calls Try.prog 14 #[pL L] w fun e w' => e = .returned (.int .i64 (rs.length : Int)) ∧ w' = w := by
  obtain ⟨A, c, rfl⟩ := h.rw.form
  have c2 := h.cell 2
  simp only [List.getElem?_toArray, List.getElem?_cons_zero, List.getElem?_cons_succ] at c2
  clear h
  go_enter Try.func14, Try.ntmps14
  go_wp2_with (fail)
  go_ret
  exact ⟨rfl, rfl⟩
set_option maxRecDepth 100000 in
set_option maxHeartbeats 2000000 in
theorem walGood (h : LgAt w B L D M F nm rs g v) : Calls Try.prog 15 #[pL L] w fun e w' => e = .returned (.int .i64 (g : Int)) ∧ w' = w := by
  have c3 := h.cell 3
  simp only [List.getElem?_toArray, List.getElem?_cons_zero, List.getElem?_cons_succ] at c3
  clear h
  go_enter Try.func15, Try.ntmps15
  go_wp2_with (fail)
  go_ret
  exact ⟨rfl, rfl⟩
/-- bytes in a block of their own -/
def RetC (w : World) (l : List UInt8) (e : Ending) (w' : World) : Prop := ∃ b, e = .returned (.slice (some ⟨b, 0, none⟩) l.length l.length) ∧ w.heap.size ≤ b ∧ w'.heap[b]? = some (.cells (u8s l).toArray 5) ∧ Below w.heap.size w w'
set_option maxRecDepth 100000 in
set_option maxHeartbeats 2000000 in
theorem walClone (A : Option Addr) (n c : Nat) (l : List UInt8) (w : World) (hB : Bs w A n c l) (hm : n ≤ 140737488355328) : Calls Try.prog 42 #[.slice A n c] w (RetC w l) := by
  have hnm := hB.nmax
  have hl := hB.len
  subst hl
  obtain ⟨Z, HZ, hzl, hmk⟩ := mk_zeros ((l.length : Nat) : Int) l.length rfl (by omega)
  have HZL := Lib.hid hzl
  have HB := Lib.hid hB
  have tok2 : Hid True := Lib.hid trivial
  clear hB hzl
  go_enter Try.func42, Try.ntmps42
  go_wp2_with (have _t := tok2; with_reducible show wpList _ _ _ _ _ _; refine wpList_cpyTo rfl (.tmp 7) (.tmp 8) 27 27 rfl 5 Try.underlying27 byteInfo w.heap.size 0 _ _ _ rfl Z 5 (heap_alloc_new w _) A l.length l.length c l rfl (HB.out.alloc _) (fun _ => rfl) (by omega) (by rw [HZL.out]; omega) ?_; intro w1 hw1 hb1; have HB1 := Lib.hid hb1; clear hb1 tok2 _t)
  go_ret
  have hr := hw1.out
  rw [List.take_zero, List.nil_append, List.drop_of_length_le (by rw [HZL.out]; omega), List.append_nil] at hr
  exact ⟨w.heap.size, rfl, Nat.le_refl _, hr, ((Below.refl _ w).alloc (Nat.le_refl _) _).trans (HB1.out.mono (Nat.le_refl _))⟩
/-- what Get answers -/
def GetEnd (w : World) (l : List UInt8) (x : Int) (e : Ending) (w' : World) : Prop := ∃ A c, e = .returned (.tuple #[.slice A l.length c, .int .i64 x]) ∧ Bs w' A l.length c l ∧ (0 < l.length → ∀ b, A = some b → w.heap.size ≤ b.block ∧ b.off = 0 ∧ w'.heap[b.block]? = some (.cells (u8s l).toArray 5)) ∧ Below w.heap.size w w'
set_option maxRecDepth 100000 in
set_option maxHeartbeats 2000000 in
theorem walGet_out (h : LgAt w B L D M F nm rs g v) (i : Int) (hi : i < 0 ∨ (rs.length : Int) ≤ i) : Calls Try.prog 16 #[pL L, .int .i64 i] w (GetEnd w [] 3) := by
  obtain ⟨A, c, rfl⟩ := h.rw.form
  have c2 := h.cell 2
  simp only [List.getElem?_toArray, List.getElem?_cons_zero, List.getElem?_cons_succ] at c2
  clear h
  by_cases h0 : i < 0
  · have d0 : decide (i < 0) = true := by simpa using h0
    clear h0 hi
    go_enter Try.func16, Try.ntmps16
    go_wp2_with (fail)
    go_ret2
    exact ⟨none, 0, rfl, Bs.nil _ 0 none (by simp [maxLen]), fun h => absurd h (by decide), Below.refl _ _⟩
  · have d0 : decide (i < 0) = false := by simpa using h0
    have d1 : decide ((rs.length : Int) ≤ i) = true := by simp; omega
    clear h0 hi
    go_enter Try.func16, Try.ntmps16
    go_wp2_with (fail)
    go_ret2
    exact ⟨none, 0, rfl, Bs.nil _ 0 none (by simp [maxLen]), fun h => absurd h (by decide), Below.refl _ _⟩
set_option maxRecDepth 100000 in
set_option maxHeartbeats 2000000 in
theorem walGet (h : LgAt w B L D M F nm rs g v) (i : Nat) (hi : i < rs.length) (hx : (rs.getD i []).length ≤ 65536) : Calls Try.prog 16 #[pL L, .int .i64 (i : Int)] w (GetEnd w (rs.getD i []) 0) := by
  obtain ⟨b, o, c, A, k, rfl, h1, h2, hc, hb⟩ := h.get hi
  have c2 := h.cell 2
  simp only [List.getElem?_toArray, List.getElem?_cons_zero, List.getElem?_cons_succ] at c2
  have HB := Lib.hid hb
  have d0 : decide ((i : Int) < 0) = false := by simp
  have d1 : decide ((rs.length : Int) ≤ (i : Int)) = false := by simp; omega
  have d2 : (i : Int) < (rs.length : Int) := by omega
  have d3 : (0 : Int) ≤ (i : Int) := by omega
  clear h hb hi
  go_enter Try.func16, Try.ntmps16
  go_wp2_with (fail)
  refine (walClone A _ k (rs.getD i []) w HB.out (by omega)).mono ?_
  rintro e w1 ⟨q, rfl, hq, hr, hb1⟩
  have HP : Hid (GetEnd w (rs.getD i []) 0 (.returned (.tuple #[.slice (some ⟨q, 0, none⟩) (rs.getD i []).length (rs.getD i []).length, .int .i64 0])) w1) := Lib.hid ⟨_, _, rfl, Bs.block hr rfl HB.out.nmax, fun _ b hb => by injection hb with hb; subst hb; exact ⟨hq, rfl, hr⟩, hb1⟩
  clear hq hr hb1
  go_wp2_with (fail)
  go_ret2
  exact HP.out
end
end Go.Proofs.Ythblbmbefhlbjaa
