/- Layer 2: the disk's small calls, walked. -/
import Derived.Test.YtolomfdommnklaaDk0
import Derived.Tactics
import Derived.Tactics2
import Derived.Defers
import Derived.Recover
import Derived.Laws.Pointers
namespace Go.Proofs.Ytolomfdommnklaa
open Go.RowKit Go.MapKept

abbrev crash (op : Int) : Value := .agg #[.int .i64 op]
abbrev crashI (op : Int) : Value := .iface 46 (crash op)
abbrev pD (D : Nat) : Value := .pointer (some ⟨D, 0, none⟩)
def nameB (c : UInt8) : Bool := (decide (97 ≤ c.toNat) && decide (c.toNat ≤ 122)) || (decide (48 ≤ c.toNat) && decide (c.toNat ≤ 57)) || c.toNat == 46
/-- which names there may be -/
def nameD (n : ByteArray) : Bool := decide (1 ≤ n.size) && decide (n.size ≤ 32) && n.data.toList.all nameB

set_option maxRecDepth 100000 in
theorem fnByte (c : UInt8) (w : World) : Calls Try.prog 59 #[.int .u8 (c.toNat : Int)] w fun e w' => e = .returned (.bool (nameB c)) ∧ w = w' := by
  have hv : nameB c = ((decide (97 ≤ c.toNat) && decide (c.toNat ≤ 122)) || (decide (48 ≤ c.toNat) && decide (c.toNat ≤ 57)) || c.toNat == 46) := rfl
  generalize c.toNat = n at *
  have h : n = 46 ∨ (n < 48 ∧ n ≠ 46) ∨ (48 ≤ n ∧ n ≤ 57) ∨ (58 ≤ n ∧ n ≤ 96) ∨ (97 ≤ n ∧ n ≤ 122) ∨ 123 ≤ n := by omega
  rcases h with h | h | h | h | h | h
  · have hr : nameB c = true := by rw [hv]; simp [h]
    have d1 : decide ((97 : Int) ≤ (n : Int)) = false := by simp; omega
    have d2 : decide ((n : Int) ≤ 122) = true := by simp; omega
    have d3 : decide ((48 : Int) ≤ (n : Int)) = false := by simp; omega
    have d4 : decide ((n : Int) ≤ 57) = true := by simp; omega
    have d5 : ((n : Int) == 46) = true := by simp; omega
    rw [hr]
    clear hr hv h
    go_enter Try.func59, Try.ntmps59
    go_wp2
    go_ret
    exact ⟨rfl, rfl⟩
  · have hr : nameB c = false := by rw [hv]; simp; omega
    have d1 : decide ((97 : Int) ≤ (n : Int)) = false := by simp; omega
    have d2 : decide ((n : Int) ≤ 122) = true := by simp; omega
    have d3 : decide ((48 : Int) ≤ (n : Int)) = false := by simp; omega
    have d4 : decide ((n : Int) ≤ 57) = true := by simp; omega
    have d5 : ((n : Int) == 46) = false := by simp; omega
    rw [hr]
    clear hr hv h
    go_enter Try.func59, Try.ntmps59
    go_wp2
    go_ret
    exact ⟨rfl, rfl⟩
  · have hr : nameB c = true := by rw [hv]; simp; omega
    have d1 : decide ((97 : Int) ≤ (n : Int)) = false := by simp; omega
    have d2 : decide ((n : Int) ≤ 122) = true := by simp; omega
    have d3 : decide ((48 : Int) ≤ (n : Int)) = true := by simp; omega
    have d4 : decide ((n : Int) ≤ 57) = true := by simp; omega
    have d5 : ((n : Int) == 46) = false := by simp; omega
    rw [hr]
    clear hr hv h
    go_enter Try.func59, Try.ntmps59
    go_wp2
    go_ret
    exact ⟨rfl, rfl⟩
  · have hr : nameB c = false := by rw [hv]; simp; omega
    have d1 : decide ((97 : Int) ≤ (n : Int)) = false := by simp; omega
    have d2 : decide ((n : Int) ≤ 122) = true := by simp; omega
    have d3 : decide ((48 : Int) ≤ (n : Int)) = true := by simp; omega
    have d4 : decide ((n : Int) ≤ 57) = false := by simp; omega
    have d5 : ((n : Int) == 46) = false := by simp; omega
    rw [hr]
    clear hr hv h
    go_enter Try.func59, Try.ntmps59
    go_wp2
    go_ret
    exact ⟨rfl, rfl⟩
  · have hr : nameB c = true := by rw [hv]; simp; omega
    have d1 : decide ((97 : Int) ≤ (n : Int)) = true := by simp; omega
    have d2 : decide ((n : Int) ≤ 122) = true := by simp; omega
    have d3 : decide ((48 : Int) ≤ (n : Int)) = true := by simp; omega
    have d4 : decide ((n : Int) ≤ 57) = false := by simp; omega
    have d5 : ((n : Int) == 46) = false := by simp; omega
    rw [hr]
    clear hr hv h
    go_enter Try.func59, Try.ntmps59
    go_wp2
    go_ret
    exact ⟨rfl, rfl⟩
  · have hr : nameB c = false := by rw [hv]; simp; omega
    have d1 : decide ((97 : Int) ≤ (n : Int)) = true := by simp; omega
    have d2 : decide ((n : Int) ≤ 122) = false := by simp; omega
    have d3 : decide ((48 : Int) ≤ (n : Int)) = true := by simp; omega
    have d4 : decide ((n : Int) ≤ 57) = false := by simp; omega
    have d5 : ((n : Int) == 46) = false := by simp; omega
    rw [hr]
    clear hr hv h
    go_enter Try.func59, Try.ntmps59
    go_wp2
    go_ret
    exact ⟨rfl, rfl⟩

set_option maxRecDepth 100000 in
theorem fnRight (x : ByteArray) (w : World) (hx : x.size ≤ 140737488355328) : Calls Try.prog 42 #[.string x] w fun e w' => e = .returned (.bool (nameD x)) ∧ w = w' := by
  go_enter Try.func42, Try.ntmps42
  by_cases h1 : x.size < 1
  · have d1 : decide ((x.size : Int) < 1) = true := by simp; omega
    have HN : Hid (nameD x = false) := Lib.hid (by unfold nameD; simp; omega)
    clear h1
    go_wp2
    go_ret
    exact ⟨by rw [HN.out]; rfl, rfl⟩
  have d1 : decide ((x.size : Int) < 1) = false := by simp; omega
  by_cases h2 : 32 < x.size
  · have d2 : decide ((32 : Int) < (x.size : Int)) = true := by simp; omega
    have HN : Hid (nameD x = false) := Lib.hid (by unfold nameD; simp; omega)
    clear h1 h2
    go_wp2
    go_ret
    exact ⟨by rw [HN.out]; rfl, rfl⟩
  have d2 : decide ((32 : Int) < (x.size : Int)) = false := by simp; omega
  have HND : Hid (nameD x = x.data.toList.all nameB) := Lib.hid (by
    unfold nameD
    rw [decide_eq_true (show 1 ≤ x.size by omega), decide_eq_true (show x.size ≤ 32 by omega)]
    simp)
  have H32 : Hid (x.size ≤ 32) := Lib.hid (by omega)
  clear h1 h2
  go_wp2_with (fail)
  go_loopw [14, 3] (fun i _ wr => ∃ k : Nat, k ≤ x.size ∧ i = .int .i64 k ∧ (x.data.toList.take k).all nameB = true ∧ wr = w) (fun i _ _ => x.size - (intOf i).toNat)
  case atStart => exact ⟨0, Nat.zero_le _, rfl, rfl, rfl⟩
  case round =>
    obtain ⟨k, hk, rfl, hal, rfl⟩ := hrel
    have HAL := Lib.hid hal
    clear hal
    by_cases hlt : k < x.size
    · skip
      have e1 : (k : Int) < (x.size : Int) := by omega
      have HX : Hid (x.data.toList.take (k + 1) = x.data.toList.take k ++ [x[k]]) := Lib.hid (by rw [List.take_succ_eq_append_getElem (by simpa using hlt)]; rfl)
      have HME : Hid (x[k] ∈ x.data.toList) := Lib.hid (List.getElem_mem (l := x.data.toList) (n := k) (by simpa using hlt))
      cases hb : nameB x[k]
      · have HN : Hid (nameD x = false) := Lib.hid (by rw [HND.out, List.all_eq_false]; exact ⟨x[k], HME.out, by rw [hb]; decide⟩)
        have HB := Lib.hid hb
        clear hb
        go_wp2_with (fail)
        refine (fnByte x[k] wr).mono ?_
        rintro e w2 ⟨rfl, rfl⟩
        rw [HB.out]
        go_wp2_with (fail)
        go_ret
        exact ⟨by rw [HN.out]; rfl, rfl⟩
      · have HN : Hid ((x.data.toList.take (k + 1)).all nameB = true) := Lib.hid (by rw [HX.out, List.all_append, HAL.out]; simp [hb])
        have HB := Lib.hid hb
        clear hb
        go_wp2_with (fail)
        refine (fnByte x[k] wr).mono ?_
        rintro e w2 ⟨rfl, rfl⟩
        rw [HB.out]
        go_wp2_with (fail)
        exact ⟨⟨k + 1, by omega, by go_num, HN.out, by trivial⟩, by simp [intOf]; omega⟩
    · obtain rfl : k = x.size := by omega
      have HN : Hid (nameD x = true) := Lib.hid (by
        have h := HAL.out
        rw [List.take_of_length_le (by simp)] at h
        rw [HND.out, h])
      clear hlt
      go_wp2_with (fail)
      go_ret
      exact ⟨by rw [HN.out]; rfl, rfl⟩

set_option maxRecDepth 100000 in
theorem dkRoomOk (n : Int) (w : World) : Calls Try.prog 39 #[.int .i64 n] w fun e w' => e = .returned (.bool (decide (0 ≤ n) && decide (n ≤ 1073741824))) ∧ w = w' := by
  by_cases h1 : 0 ≤ n
  · have d1 : decide ((0 : Int) ≤ n) = true := by simpa using h1
    by_cases h2 : n ≤ 1073741824
    · have d2 : decide (n ≤ (1073741824 : Int)) = true := by simpa using h2
      rw [d1, d2]
      clear h1 h2
      go_enter Try.func39, Try.ntmps39
      go_wp2
      go_ret
      exact ⟨rfl, rfl⟩
    · have d2 : decide (n ≤ (1073741824 : Int)) = false := by simpa using h2
      rw [d1, d2]
      clear h1 h2
      go_enter Try.func39, Try.ntmps39
      go_wp2
      go_ret
      exact ⟨rfl, rfl⟩
  · have d1 : decide ((0 : Int) ≤ n) = false := by simpa using h1
    rw [d1]
    clear h1
    go_enter Try.func39, Try.ntmps39
    go_wp2
    go_ret
    exact ⟨rfl, rfl⟩

def Dk.begin (d : Dk) : Dk := { d with ops := d.ops + 1, armedIn := if d.armedIn = 0 then 0 else d.armedIn - 1 }
/-- numbers as a program's -/
structure Dk.Ok (d : Dk) : Prop where
  room : 0 ≤ d.room ∧ d.room ≤ 1073741824
  used : 0 ≤ d.used ∧ d.used ≤ 1073741824
  ops : 0 ≤ d.ops ∧ d.ops ≤ 1152921504606846976
  failIn : 0 ≤ d.failIn ∧ d.failIn ≤ 9223372036854775807
  armedIn : 0 ≤ d.armedIn ∧ d.armedIn ≤ 9223372036854775807
  armKeep : -9223372036854775808 ≤ d.armKeep ∧ d.armKeep ≤ 9223372036854775807

set_option maxHeartbeats 1000000 in
set_option maxRecDepth 100000 in
theorem dkBegin {w : World} {B D M : Nat} {d : Dk} {F : List Ent} (h : DkAt w B D M d F) (ok : d.Ok) : Calls Try.prog 79 #[pD D] w fun e w' => e = .returned (.bool (d.armedIn == 1)) ∧ DkAt w' B D M d.begin F ∧ Ch (At1 D) w w' := by
  have c3 : w.cell? ⟨D, 3, none⟩ = some (.int .i64 d.ops) := h.cell 3
  have c5 : w.cell? ⟨D, 5, none⟩ = some (.int .i64 d.armedIn) := h.cell 5
  have f3 := h.frozen 3
  have f5 := h.frozen 5
  have o1 := ok.ops
  have o2 := ok.armedIn
  have e1 : wrap64 (d.ops + 1) = d.ops + 1 := IntWalk.wrap64_in _ (by omega)
  have H := Lib.hid h
  clear h ok
  by_cases ha : d.armedIn = 0
  · have d1 : (d.armedIn == 0) = true := by simpa using ha
    have HB : Hid (d.begin = { d with ops := d.ops + 1, armedIn := d.armedIn } ∧ (d.armedIn == 1) = false) := Lib.hid ⟨by unfold Dk.begin; rw [if_pos ha, ha], by rw [ha]; rfl⟩
    clear ha
    go_enter Try.func79, Try.ntmps79
    go_wp2_with (fail)
    go_ret
    rw [HB.out.1, HB.out.2]
    exact ⟨rfl, H.out.nums ((Ch.refl _ w).set1 3 _) (heap_set_row H.out.row _), (Ch.refl _ w).set1 3 _⟩
  · have d1 : (d.armedIn == 0) = false := by simpa using ha
    have e2 : wrap64 (d.armedIn - 1) = d.armedIn - 1 := IntWalk.wrap64_in _ (by omega)
    have HB : Hid (d.begin = { d with ops := d.ops + 1, armedIn := d.armedIn - 1 } ∧ (d.armedIn == 1) = (d.armedIn - 1 == 0)) := Lib.hid ⟨by unfold Dk.begin; rw [if_neg ha], by rw [Bool.eq_iff_iff, beq_iff_eq, beq_iff_eq]; omega⟩
    clear ha
    go_enter Try.func79, Try.ntmps79
    go_wp2_with (fail)
    go_ret
    rw [HB.out.1, HB.out.2]
    exact ⟨rfl, H.out.nums (((Ch.refl _ w).set1 3 _).set1 5 _) (heap_set_row (heap_set_row H.out.row _) _), ((Ch.refl _ w).set1 3 _).set1 5 _⟩

set_option maxRecDepth 100000 in
theorem dkLose {w : World} {B D M : Nat} {d : Dk} {F : List Ent} (h : DkAt w B D M d F) : Calls Try.prog 81 #[pD D] w fun e w' => e = .panicked [{ v := crashI d.ops, recovered := false }] ∧ w = w' := by
  have c3 : w.cell? ⟨D, 3, none⟩ = some (.int .i64 d.ops) := h.cell 3
  clear h
  go_enter Try.func81, Try.ntmps81
  go_wp2
  exact ⟨rfl, rfl, rfl⟩

set_option maxRecDepth 100000 in
theorem dkNew (n : Int) (hn : 0 ≤ n ∧ n ≤ 1073741824) (w : World) : Calls Try.prog 15 #[.int .i64 n] w fun e w' => ∃ D M, e = .returned (.tuple #[pD D, .int .i64 0]) ∧ DkAt w' w.heap.size D M ⟨n, 0, 0, 0, 0, 0⟩ [] ∧ Below w.heap.size w w' := by
  have d1 : decide ((0 : Int) ≤ n) = true := by simpa using hn.1
  have d2 : decide (n ≤ (1073741824 : Int)) = true := by simpa using hn.2
  have hmm := @run_makeMap Try.prog
  clear hn
  go_enter Try.func15, Try.ntmps15
  go_wp2_with (fail)
  refine (dkRoomOk n w).mono ?_
  rintro e w2 ⟨rfl, rfl⟩
  rw [d1, d2]
  go_wp2_with (fail)
  go_ret2
  refine ⟨w.heap.size + 1, w.heap.size, rfl, ⟨by omega, Nat.le_refl _, ?_, ?_, fun e he => (by cases he), List.Pairwise.nil, List.nodup_nil⟩, ((Below.refl _ _).alloc (Nat.le_refl _) _).alloc (by simp) _⟩
  · have := heap_alloc_new (w.alloc (.map #[] 0)) (dkObj w.heap.size ⟨n, 0, 0, 0, 0, 0⟩)
    simpa using this
  · exact (MapIs.new (.string) w).below ((Below.refl _ _).alloc (Nat.le_refl _) _)
end Go.Proofs.Ytolomfdommnklaa
