/- Layer 2: what a disk tells, and its small changes, walked. -/
import Derived.Test.YtolomfdommnklaaDk2
namespace Go.Proofs.Ytolomfdommnklaa
open Go.RowKit Go.MapKept

noncomputable abbrev kS : KeyK Try.prog 9 ByteArray .string := keyString Try.underlying9
theorem fget_split (F : List Ent) (n : ByteArray) : (fget (fsOf F) n = none ∧ ∀ e ∈ F, e.nm ≠ n) ∨ ∃ P e Q, F = P ++ e :: Q ∧ e.nm = n ∧ fget (fsOf F) n = some e.f ∧ ∀ x ∈ P, x.nm ≠ n := by
  rcases aget_split F n with ⟨_, h⟩ | ⟨P, e, Q, rfl, rfl, _, h⟩
  · exact .inl ⟨fget_none h, h⟩
  · exact .inr ⟨P, e, Q, rfl, rfl, fget_at h, h⟩
theorem aget_none {F : List Ent} {n : ByteArray} (h : ∀ e ∈ F, e.nm ≠ n) : aget (mapL F) n = none := by
  rcases aget_split F n with ⟨h1, _⟩ | ⟨P, e, Q, rfl, rfl, _, _⟩
  · exact h1
  · exact absurd rfl (h e (by simp))
theorem aget_at {P Q : List Ent} {e : Ent} (h : ∀ x ∈ P, x.nm ≠ e.nm) : aget (mapL (P ++ e :: Q)) e.nm = some (pf e.g) := by
  induction P with
  | nil => simp [mapL, aget]
  | cons a r ih =>
    have := ih (fun x hx => h x (by simp [hx]))
    simp only [mapL, List.cons_append, List.map_cons, aget] at this ⊢
    rw [if_neg (fun e2 => h a (by simp) e2.symm)]
    exact this
/-- a row, cut -/
theorem Own.shrink {E : TypeId} {w : World} {B c n : Nat} {A : Option Addr} {l : List UInt8} (h : Own E w B (.slice A l.length c) l) (hn : n ≤ l.length) : Own E w B (.slice A n c) (l.take n) := by
  have hl : (l.take n).length = n := by rw [List.length_take]; omega
  refine ⟨by simp [hn], ?_⟩
  rcases h.2 with ⟨he, h0⟩ | ⟨g, cap, cur, he, h1, h2, h3, h4, h5, h6⟩
  · left
    rw [hl]
    injection he with e1 e2 e3
    subst e1 e3
    have : n = 0 := by omega
    subst this
    exact ⟨rfl, rfl⟩
  · right
    injection he with e1 e2 e3
    subst e1 e3
    refine ⟨g, c, cur, by rw [hl], h1, h2, by rw [hl]; omega, h4, h5, ?_⟩
    rw [hl, u8s, List.map_take]
    have h7 : (u8s l).take n = (cur.toList.take (l.length * 1)).take n := by rw [h6]
    rw [List.take_take, Nat.mul_one, Nat.min_eq_left hn] at h7
    rw [Nat.mul_one]
    exact h7.symm
set_option maxRecDepth 100000 in
theorem dkLoseC {w : World} {D : Nat} {n : Int} (c3 : w.cell? ⟨D, 3, none⟩ = some (.int .i64 n)) : Calls Try.prog 81 #[pD D] w fun e w' => e = .panicked [{ v := crashI n, recovered := false }] ∧ w = w' := by
  go_enter Try.func81, Try.ntmps81
  go_wp2
  exact ⟨rfl, rfl, rfl⟩
def FreshB (w : World) (l : List UInt8) (e : Ending) (w' : World) : Prop := ∃ g, e = .returned (.tuple #[.slice (some ⟨g, 0, none⟩) l.length l.length, .int .i64 0]) ∧ w.heap.size ≤ g ∧ w'.heap[g]? = some (.cells (u8s l).toArray 5) ∧ Below w.heap.size w w'
section
variable {w : World} {B D M : Nat} {d : Dk} {F : List Ent}

set_option maxHeartbeats 1000000 in
set_option maxRecDepth 100000 in
theorem dkRead_none (h : DkAt w B D M d F) (nm : ByteArray) (hn : ∀ e ∈ F, e.nm ≠ nm) : Calls Try.prog 28 #[pD D, .string nm] w fun e w' => e = .returned (.tuple #[.slice none 0 0, .int .i64 6]) ∧ w = w' := by
  have c0' : w.cell? ⟨D, 0, none⟩ = some (.map (some M)) := h.cell 0
  have hz : (zeroValue 91).run Try.prog w = .ok (.pointer none) w := by kernel_rfl
  have HNO := Lib.hid (aget_none hn)
  have H := Lib.hid h
  have tok1 : Hid True := Lib.hid trivial
  clear h hn
  go_enter Try.func28, Try.ntmps28
  go_wp2_with (first | (at_lookup; have _t := tok1; refine wpList_lookupL rfl kS (.tmp 13) (.tmp 14) 78 91 false rfl Try.underlying78 M (mapL F) rfl H.out.map nm rfl (.pointer none) hz ?_; rw [HNO.out]; simp only [Option.getD_none, Bool.false_eq_true, if_false]; clear tok1 _t))
  go_ret2
  exact ⟨rfl, rfl⟩

set_option maxHeartbeats 1000000 in
set_option maxRecDepth 100000 in
theorem dkRead_some (h : DkAt w B D M d F) (hlen : FileLens F) (nm : ByteArray) (f : Fl) (hf : fget (fsOf F) nm = some f) : Calls Try.prog 28 #[pD D, .string nm] w (FreshB w f.bs) := by
  rcases fget_split F nm with ⟨h0, _⟩ | ⟨P, e, Q, rfl, rfl, h1, hfi⟩
  · rw [h0] at hf; cases hf
  rw [h1] at hf
  injection hf with hf
  subst hf
  obtain ⟨nm, g, v, f⟩ := e
  simp only at *
  have c0' : w.cell? ⟨D, 0, none⟩ = some (.map (some M)) := h.cell 0
  have hz : (zeroValue 91).run Try.prog w = .ok (.pointer none) w := by kernel_rfl
  have HYES : Hid (aget (mapL (P ++ ⟨nm, g, v, f⟩ :: Q)) nm = some (pf g)) := Lib.hid (aget_at (e := ⟨nm, g, v, f⟩) hfi)
  have H := Lib.hid h
  have HFA := Lib.hid (h.files ⟨nm, g, v, f⟩ (by simp))
  have hl : f.bs.length ≤ 1073741824 := hlen ⟨nm, g, v, f⟩ (by simp)
  obtain ⟨A, cp, hv, hfb, _⟩ := Own.bs (show Own 5 w B v f.bs from HFA.out.own)
  subst hv
  have HB := Lib.hid hfb
  have hfm := hfb.nmax
  have y0 : w.cell? ⟨g, 0, none⟩ = some (.slice A f.bs.length cp) := HFA.out.cell 0
  obtain ⟨Z, HZ, hzl, hmk⟩ := mk_zeros ((f.bs.length : Nat) : Int) f.bs.length rfl (by omega)
  have HZL := Lib.hid hzl
  have y0' : ∀ o, (w.alloc o).cell? ⟨g, 0, none⟩ = some (.slice A f.bs.length cp) := fun o => (((Below.refl w.heap.size w).alloc (Nat.le_refl _) o).cell (p := ⟨g, 0, none⟩) HFA.out.lt).trans y0
  have tok1 : Hid True := Lib.hid trivial
  have tok2 : Hid True := Lib.hid trivial
  clear h h1 hfi hfb hzl hlen
  go_enter Try.func28, Try.ntmps28
  go_wp2_with (first | (at_lookup; have _t := tok1; refine wpList_lookupL rfl kS (.tmp 13) (.tmp 14) 78 91 false rfl Try.underlying78 M (mapL (P ++ ⟨nm, g, .slice A f.bs.length cp, f⟩ :: Q)) rfl H.out.map nm rfl (.pointer none) hz ?_; rw [HYES.out]; simp only [Option.getD_some, Bool.false_eq_true, if_false]; clear tok1 _t) | (have _t := tok2; with_reducible show wpList _ _ _ _ _ _; refine wpList_cpyTo rfl (.tmp 24) (.tmp 28) 22 22 rfl 5 Try.underlying22 byteInfo w.heap.size 0 _ _ _ rfl Z 5 (heap_alloc_new w _) A f.bs.length f.bs.length cp f.bs rfl (HB.out.alloc _) (fun _ => rfl) (by omega) (by rw [HZL.out]; omega) ?_; intro w1 hw1 hb1; have HB1 := Lib.hid hb1; clear hb1 tok2 _t))
  go_ret2
  have hr := hw1.out
  rw [List.take_zero, List.nil_append, List.drop_of_length_le (by rw [HZL.out]; omega), List.append_nil] at hr
  exact ⟨w.heap.size, rfl, Nat.le_refl _, hr, ((Below.refl _ w).alloc (Nat.le_refl _) _).trans (HB1.out.mono (Nat.le_refl _))⟩

set_option maxRecDepth 100000 in
theorem dkUsed (h : DkAt w B D M d F) : Calls Try.prog 34 #[pD D] w fun e w' => e = .returned (.int .i64 d.used) ∧ w = w' := by
  have c0' : w.cell? ⟨D, 2, none⟩ = some (.int .i64 d.used) := h.cell 2
  clear h
  go_enter Try.func34, Try.ntmps34
  go_wp2
  go_ret
  exact ⟨rfl, rfl⟩

set_option maxRecDepth 100000 in
theorem dkOps (h : DkAt w B D M d F) : Calls Try.prog 27 #[pD D] w fun e w' => e = .returned (.int .i64 d.ops) ∧ w = w' := by
  have c0' : w.cell? ⟨D, 3, none⟩ = some (.int .i64 d.ops) := h.cell 3
  clear h
  go_enter Try.func27, Try.ntmps27
  go_wp2
  go_ret
  exact ⟨rfl, rfl⟩

set_option maxHeartbeats 1000000 in
set_option maxRecDepth 100000 in
theorem dkSetRoom (h : DkAt w B D M d F) (n : Int) (hn : 0 ≤ n ∧ n ≤ 1073741824) : Calls Try.prog 23 #[pD D, .int .i64 n] w fun e w' => e = .returned (.int .i64 0) ∧ DkAt w' B D M { d with room := n } F ∧ Ch (At1 D) w w' := by
  have c0' : w.cell? ⟨D, 1, none⟩ = some (.int .i64 d.room) := h.cell 1
  have f0 := h.frozen 1
  have H := Lib.hid h
  have HR : Hid ((decide (0 ≤ n) && decide (n ≤ 1073741824)) = true) := Lib.hid (by simp; exact hn)
  clear h hn
  go_enter Try.func23, Try.ntmps23
  go_wp2_with (fail)
  refine (dkRoomOk n w).mono ?_
  rintro e w1 ⟨rfl, rfl⟩
  rw [HR.out]
  go_wp2_with (fail)
  go_ret
  exact ⟨rfl, H.out.nums ((Ch.refl _ w).set1 1 _) (heap_set_row H.out.row _), (Ch.refl _ w).set1 1 _⟩
set_option maxHeartbeats 1000000 in
set_option maxRecDepth 100000 in
theorem dkSetRoom_no (D : Nat) (n : Int) (hn : ¬ (0 ≤ n ∧ n ≤ 1073741824)) (w : World) : Calls Try.prog 23 #[pD D, .int .i64 n] w fun e w' => e = .returned (.int .i64 3) ∧ w = w' := by
  have HR : Hid ((decide (0 ≤ n) && decide (n ≤ 1073741824)) = false) := Lib.hid (by
    cases h : (decide (0 ≤ n) && decide (n ≤ 1073741824))
    · rfl
    · simp at h; exact absurd h hn)
  clear hn
  go_enter Try.func23, Try.ntmps23
  go_wp2_with (fail)
  refine (dkRoomOk n w).mono ?_
  rintro e w1 ⟨rfl, rfl⟩
  rw [HR.out]
  go_wp2_with (fail)
  go_ret
  exact ⟨rfl, rfl⟩
set_option maxHeartbeats 1000000 in
set_option maxRecDepth 100000 in
theorem dkFail (h : DkAt w B D M d F) (n : Int) (hn : 1 ≤ n) : Calls Try.prog 24 #[pD D, .int .i64 n] w fun e w' => e = .returned (.int .i64 0) ∧ DkAt w' B D M { d with failIn := n } F ∧ Ch (At1 D) w w' := by
  have c0' : w.cell? ⟨D, 4, none⟩ = some (.int .i64 d.failIn) := h.cell 4
  have f0 := h.frozen 4
  have H := Lib.hid h
  have d1 : decide (n < 1) = false := by simp; omega
  clear h hn
  go_enter Try.func24, Try.ntmps24
  go_wp2_with (fail)
  go_ret
  exact ⟨rfl, H.out.nums ((Ch.refl _ w).set1 4 _) (heap_set_row H.out.row _), (Ch.refl _ w).set1 4 _⟩
set_option maxHeartbeats 1000000 in
set_option maxRecDepth 100000 in
theorem dkFail_no (D : Nat) (n : Int) (hn : n < 1) (w : World) : Calls Try.prog 24 #[pD D, .int .i64 n] w fun e w' => e = .returned (.int .i64 3) ∧ w = w' := by
  have d1 : decide (n < 1) = true := by simp; omega
  clear hn
  go_enter Try.func24, Try.ntmps24
  go_wp2_with (fail)
  go_ret
  exact ⟨rfl, rfl⟩
set_option maxHeartbeats 1000000 in
set_option maxRecDepth 100000 in
theorem dkArm (h : DkAt w B D M d F) (n k : Int) (hn : 1 ≤ n) : Calls Try.prog 25 #[pD D, .int .i64 n, .int .i64 k] w fun e w' => e = .returned (.int .i64 0) ∧ DkAt w' B D M { d with armedIn := n, armKeep := k } F ∧ Ch (At1 D) w w' := by
  have c0' : w.cell? ⟨D, 5, none⟩ = some (.int .i64 d.armedIn) := h.cell 5
  have c6 : w.cell? ⟨D, 6, none⟩ = some (.int .i64 d.armKeep) := h.cell 6
  have f0 := h.frozen 5
  have f6 := h.frozen 6
  have H := Lib.hid h
  have d1 : decide (n < 1) = false := by simp; omega
  clear h hn
  go_enter Try.func25, Try.ntmps25
  go_wp2_with (fail)
  go_ret
  exact ⟨rfl, H.out.nums (((Ch.refl _ w).set1 5 _).set1 6 _) (heap_set_row (heap_set_row H.out.row _) _), ((Ch.refl _ w).set1 5 _).set1 6 _⟩
set_option maxHeartbeats 1000000 in
set_option maxRecDepth 100000 in
theorem dkArm_no (D : Nat) (n k : Int) (hn : n < 1) (w : World) : Calls Try.prog 25 #[pD D, .int .i64 n, .int .i64 k] w fun e w' => e = .returned (.int .i64 3) ∧ w = w' := by
  have d1 : decide (n < 1) = true := by simp; omega
  clear hn
  go_enter Try.func25, Try.ntmps25
  go_wp2_with (fail)
  go_ret
  exact ⟨rfl, rfl⟩

def Dk.syncs (d : Dk) : Dk := { d with failIn := if d.failIn = 0 then 0 else d.failIn - 1 }
set_option maxHeartbeats 1000000 in
set_option maxRecDepth 100000 in
theorem dkSyncFails (h : DkAt w B D M d F) (ok : d.Ok) : Calls Try.prog 82 #[pD D] w fun e w' => e = .returned (.bool (d.failIn == 1)) ∧ DkAt w' B D M d.syncs F ∧ Ch (At1 D) w w' := by
  have c4 : w.cell? ⟨D, 4, none⟩ = some (.int .i64 d.failIn) := h.cell 4
  have f4 := h.frozen 4
  have o2 := ok.failIn
  have H := Lib.hid h
  clear h ok
  by_cases ha : d.failIn = 0
  · have d1 : (d.failIn == 0) = true := by simpa using ha
    have HB : Hid (d.syncs = d ∧ (d.failIn == 1) = false) := Lib.hid ⟨by unfold Dk.syncs; rw [if_pos ha]; cases d; simp_all, by rw [ha]; rfl⟩
    clear ha
    go_enter Try.func82, Try.ntmps82
    go_wp2_with (fail)
    go_ret
    rw [HB.out.1, HB.out.2]
    exact ⟨rfl, H.out, Ch.refl _ w⟩
  · have d1 : (d.failIn == 0) = false := by simpa using ha
    have e2 : wrap64 (d.failIn - 1) = d.failIn - 1 := IntWalk.wrap64_in _ (by omega)
    have HB : Hid (d.syncs = { d with failIn := d.failIn - 1 } ∧ (d.failIn == 1) = (d.failIn - 1 == 0)) := Lib.hid ⟨by unfold Dk.syncs; rw [if_neg ha], by rw [Bool.eq_iff_iff, beq_iff_eq, beq_iff_eq]; omega⟩
    clear ha
    go_enter Try.func82, Try.ntmps82
    go_wp2_with (fail)
    go_ret
    rw [HB.out.1, HB.out.2]
    exact ⟨rfl, H.out.nums ((Ch.refl _ w).set1 4 _) (heap_set_row H.out.row _), (Ch.refl _ w).set1 4 _⟩

/-- a function that is entered as it stands -/
def FnOk (k : FuncId) : Prop := ∀ (args : Array Value) (w : World), (callFunc k args).run Try.prog w = .ok (.enter k args) w
abbrev fnV (k : FuncId) (caps : Array Value) : Value := .func (.func k) #[] caps
def dOdd (d : Dk) : Bool := d.armKeep.tmod 2 != 0
set_option maxHeartbeats 1000000 in
set_option maxRecDepth 100000 in
theorem dkChange_go (h : DkAt w B D M d F) (ok : d.Ok) (ha : d.armedIn ≠ 1) (k : FuncId) (caps : Array Value) (hk : FnOk k) (R : World → Prop)
    (hdo : ∀ w1, DkAt w1 B D M d.begin F → Ch (At1 D) w w1 → Calls Try.prog k caps w1 fun e w2 => e = .returned (.tuple #[]) ∧ R w2) :
    Calls Try.prog 65 #[pD D, fnV k caps] w fun e w' => e = .returned (.tuple #[]) ∧ R w' := by
  have HA : Hid ((d.armedIn == 1) = false) := Lib.hid (by simpa using ha)
  have H := Lib.hid h
  have OK := Lib.hid ok
  have HDO := Lib.hid hdo
  have hkk : ∀ (args : Array Value) (w : World), (callFunc k args).run Try.prog w = .ok (.enter k args) w := hk
  clear h ok ha hdo hk
  go_enter Try.func65, Try.ntmps65
  go_wp2_with (fail)
  refine (dkBegin H.out OK.out).mono ?_
  rintro e w2 ⟨rfl, h2, hc2⟩
  rw [HA.out]
  have HD2 := Lib.hid (HDO.out w2 h2 hc2)
  clear h2 hc2
  go_wp2_with (fail)
  refine HD2.out.mono ?_
  rintro e w3 ⟨rfl, hr⟩
  have HR := Lib.hid hr
  clear hr
  go_wp2_with (fail)
  go_end0
  exact ⟨rfl, HR.out⟩
set_option maxHeartbeats 1000000 in
set_option maxRecDepth 100000 in
theorem dkChange_odd (h : DkAt w B D M d F) (ok : d.Ok) (ha : d.armedIn = 1) (ho : dOdd d = true) (k : FuncId) (caps : Array Value) (hk : FnOk k) (R : World → Prop)
    (hdo : ∀ w1, DkAt w1 B D M d.begin F → Ch (At1 D) w w1 → Calls Try.prog k caps w1 fun e w2 => e = .returned (.tuple #[]) ∧ R w2) (hR : ∀ w2, R w2 → w2.cell? ⟨D, 3, none⟩ = some (.int .i64 (d.ops + 1))) :
    Calls Try.prog 65 #[pD D, fnV k caps] w fun e w' => e = .panicked [{ v := crashI (d.ops + 1), recovered := false }] ∧ R w' := by
  have HA : Hid ((d.armedIn == 1) = true) := Lib.hid (by simpa using ha)
  have H := Lib.hid h
  have OK := Lib.hid ok
  have HDO := Lib.hid hdo
  have HRC := Lib.hid hR
  have hodd : (d.armKeep.tmod 2 != 0) = true := ho
  have hkk : ∀ (args : Array Value) (w : World), (callFunc k args).run Try.prog w = .ok (.enter k args) w := hk
  clear h ok ha hdo hk hR ho
  go_enter Try.func65, Try.ntmps65
  go_wp2_with (fail)
  refine (dkBegin H.out OK.out).mono ?_
  rintro e w2 ⟨rfl, h2, hc2⟩
  rw [HA.out]
  have HD2 := Lib.hid (HDO.out w2 h2 hc2)
  have c6 : w2.cell? ⟨D, 6, none⟩ = some (.int .i64 d.armKeep) := h2.cell 6
  clear h2 hc2
  go_wp2_with (fail)
  refine HD2.out.mono ?_
  rintro e w3 ⟨rfl, hr⟩
  have HR := Lib.hid hr
  have c3 := HRC.out w3 hr
  clear hr c6
  go_wp2_with (fail)
  refine (dkLoseC c3).mono ?_
  rintro e w4 ⟨rfl, rfl⟩
  go_wp2_with (fail)
  exact ⟨rfl, rfl, HR.out⟩
set_option maxHeartbeats 1000000 in
set_option maxRecDepth 100000 in
theorem dkChange_even (h : DkAt w B D M d F) (ok : d.Ok) (ha : d.armedIn = 1) (ho : dOdd d = false) (k : FuncId) (caps : Array Value) :
    Calls Try.prog 65 #[pD D, fnV k caps] w fun e w' => e = .panicked [{ v := crashI (d.ops + 1), recovered := false }] ∧ DkAt w' B D M d.begin F ∧ Ch (At1 D) w w' := by
  have HA : Hid ((d.armedIn == 1) = true) := Lib.hid (by simpa using ha)
  have H := Lib.hid h
  have OK := Lib.hid ok
  have hodd : (d.armKeep.tmod 2 != 0) = false := ho
  clear h ok ha ho
  go_enter Try.func65, Try.ntmps65
  go_wp2_with (fail)
  refine (dkBegin H.out OK.out).mono ?_
  rintro e w2 ⟨rfl, h2, hc2⟩
  rw [HA.out]
  have c6 : w2.cell? ⟨D, 6, none⟩ = some (.int .i64 d.armKeep) := h2.cell 6
  have H2 := Lib.hid h2
  have HC2 := Lib.hid hc2
  have c3 : w2.cell? ⟨D, 3, none⟩ = some (.int .i64 (d.ops + 1)) := h2.cell 3
  clear h2 hc2
  go_wp2_with (fail)
  refine (dkLoseC c3).mono ?_
  rintro e w4 ⟨rfl, rfl⟩
  go_wp2_with (fail)
  exact ⟨rfl, rfl, H2.out, HC2.out⟩
end
end Go.Proofs.Ytolomfdommnklaa
