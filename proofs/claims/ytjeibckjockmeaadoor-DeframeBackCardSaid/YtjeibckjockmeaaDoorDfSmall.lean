/- Layer 5: New, Reset, and what is only told. -/
import Derived.Test.YtjeibckjockmeaaDoorDfFeed
namespace Go.Proofs.YtjeibckjockmeaaDoor
open Go.RowKit

def newS : St := ⟨.out, [], 0, 0, 0⟩
/-- how many bytes are held -/
def heldD (s : St) : Nat := match s.md with
  | .out => 0
  | .inn => 1 + s.fr.length
  | .beh => 1 + s.fr.length + 1

set_option maxRecDepth 100000 in
theorem dNew (m : Nat) (h0 : 1 ≤ m) (h1 : m ≤ 65536) (w : World) : Calls Tryd.prog 8 #[.int .i64 (m : Int)] w fun e w' =>
    ∃ D, e = .returned (.tuple #[.pointer (some ⟨D, 0, none⟩), .int .i64 0]) ∧ Df w.heap.size D none m newS w' ∧ Below w.heap.size w w' := by
  have d0 : ¬ (m : Int) < 1 := by omega
  have d1 : ¬ (65536 : Int) < (m : Int) := by omega
  have H : Hid (IsDfr (w.alloc (.cells (Dfr.cells ⟨m, .nilFunc, false, false, .slice none 0 0, 0, 0, 0⟩) 43)) w.heap.size ⟨m, .nilFunc, false, false, .slice none 0 0, 0, 0, 0⟩) := Lib.hid (heap_alloc_new w _)
  go_enter Tryd.func8, Tryd.ntmps8
  go_wp2_with (fail)
  refine (dfLeave _ w.heap.size _ H.out).mono ?_
  rintro e w2 ⟨rfl, hd, hc, _⟩
  have HD : Hid (Df w.heap.size w.heap.size none m newS w2) := Lib.hid ⟨.slice none 0 0, rfl, by simp, Nat.le_refl _, Own.nil _ _ _, hd⟩
  have HB : Hid (Below w.heap.size w w2) := Lib.hid (((Below.refl _ w).alloc (Nat.le_refl _) _).trans (hc.below (fun k hk => by rw [hk]; exact Nat.le_refl _) (by simp)))
  clear hd hc H
  go_wp2_with (fail)
  exact bodyPost_ret (v := .tuple #[.pointer (some ⟨w.heap.size, 0, none⟩), .int .i64 0]) (by simp [results, Tryd.results8, go_sem]) rfl ⟨w.heap.size, rfl, HD.out, HB.out⟩

set_option maxRecDepth 100000 in
theorem dNew_no (n : Int) (h : n < 1 ∨ 65536 < n) (w : World) : Calls Tryd.prog 8 #[.int .i64 n] w fun e w' => e = .returned (.tuple #[.pointer none, .int .i64 3]) ∧ w = w' := by
  by_cases h1 : n < 1
  · go_enter Tryd.func8, Tryd.ntmps8
    go_wp2_with (fail)
    exact bodyPost_ret (v := .tuple #[.pointer none, .int .i64 3]) (by simp [results, Tryd.results8, go_sem]) rfl ⟨rfl, rfl⟩
  · have h2 : 65536 < n := by omega
    go_enter Tryd.func8, Tryd.ntmps8
    go_wp2_with (fail)
    exact bodyPost_ret (v := .tuple #[.pointer none, .int .i64 3]) (by simp [results, Tryd.results8, go_sem]) rfl ⟨rfl, rfl⟩

section
variable (B D : Nat) (O : Option Nat) (most : Nat) (s : St) (w : World)
set_option maxRecDepth 100000 in
theorem dJunk (h : Df B D O most s w) : Calls Tryd.prog 16 #[.pointer (some ⟨D, 0, none⟩)] w fun e w' => e = .returned (.int .i64 (s.junk : Int)) ∧ w = w' := by
  obtain ⟨fv, _, _, _, _, hd⟩ := h
  have z := hd.cell 5
  simp [St.low] at z
  clear hd
  go_enter Tryd.func16, Tryd.ntmps16
  go_wp2
  go_ret
  exact ⟨rfl, rfl⟩
set_option maxRecDepth 100000 in
theorem dOver (h : Df B D O most s w) : Calls Tryd.prog 13 #[.pointer (some ⟨D, 0, none⟩)] w fun e w' => e = .returned (.int .i64 (s.over : Int)) ∧ w = w' := by
  obtain ⟨fv, _, _, _, _, hd⟩ := h
  have z := hd.cell 6
  simp [St.low] at z
  clear hd
  go_enter Tryd.func13, Tryd.ntmps13
  go_wp2
  go_ret
  exact ⟨rfl, rfl⟩
set_option maxRecDepth 100000 in
theorem dBroken (h : Df B D O most s w) : Calls Tryd.prog 14 #[.pointer (some ⟨D, 0, none⟩)] w fun e w' => e = .returned (.int .i64 (s.broken : Int)) ∧ w = w' := by
  obtain ⟨fv, _, _, _, _, hd⟩ := h
  have z := hd.cell 7
  simp [St.low] at z
  clear hd
  go_enter Tryd.func14, Tryd.ntmps14
  go_wp2
  go_ret
  exact ⟨rfl, rfl⟩
set_option maxRecDepth 100000 in
theorem dHeld (h : Df B D O most s w) (hfl : s.fr.length ≤ 1000000) : Calls Tryd.prog 15 #[.pointer (some ⟨D, 0, none⟩)] w fun e w' => e = .returned (.int .i64 (heldD s : Int)) ∧ w = w' := by
  obtain ⟨fv, _, _, _, hown, hd⟩ := h
  obtain ⟨A, cp, rfl, hfb, _⟩ := Own.bs hown
  have hfm := hfb.nmax
  have z2 := hd.cell 2
  have z3 := hd.cell 3
  have z4 := hd.cell 4
  simp [St.low] at z2 z3 z4
  clear hd hfb hown
  cases hmd : s.md
  · have HM := Lib.hid hmd
    rw [hmd] at z2 z3
    simp only [Md.begun, Md.ending] at z2 z3
    clear hmd
    go_enter Tryd.func15, Tryd.ntmps15
    go_wp2
    go_ret
    exact ⟨by simp [heldD, HM.out], rfl⟩
  · have HM := Lib.hid hmd
    rw [hmd] at z2 z3
    simp only [Md.begun, Md.ending] at z2 z3
    clear hmd
    go_enter Tryd.func15, Tryd.ntmps15
    go_wp2
    go_ret
    exact ⟨by simp [heldD, HM.out], rfl⟩
  · have HM := Lib.hid hmd
    rw [hmd] at z2 z3
    simp only [Md.begun, Md.ending] at z2 z3
    clear hmd
    go_enter Tryd.func15, Tryd.ntmps15
    go_wp2
    go_ret
    exact ⟨by simp [heldD, HM.out], rfl⟩
end

set_option maxRecDepth 100000 in
theorem dMost (n : Int) : ∃ m : Nat, 1 ≤ m ∧ m ≤ 200 ∧ ∀ w, Calls Tryd.prog 9 #[.int .i64 n] w fun e w' => e = .returned (.int .i64 (m : Int)) ∧ w = w' := by
  have h2 : 0 ≤ IntKind.u64.wrap n := by simp [IntKind.wrap, IntKind.signed]; omega
  obtain ⟨u, hu⟩ : ∃ u, IntKind.u64.wrap n = u := ⟨_, rfl⟩
  rw [hu] at h2
  have h3 : 0 ≤ u % 200 ∧ u % 200 < 200 := ⟨Int.emod_nonneg _ (by decide), Int.emod_lt_of_pos _ (by decide)⟩
  obtain ⟨r, hr⟩ : ∃ r : Nat, u % 200 = (r : Int) := ⟨(u % 200).toNat, by omega⟩
  rw [hr] at h3
  refine ⟨1 + r, by omega, by omega, fun w => ?_⟩
  have e1 : u.tmod 200 = (r : Int) := by rw [Int.tmod_eq_emod_of_nonneg h2]; exact hr
  have e2 : IntKind.u64.wrap (r : Int) = (r : Int) := by simp [IntKind.wrap, IntKind.signed, IntKind.bits]; omega
  have e3 : IntKind.i64.wrap (r : Int) = (r : Int) := by rw [IntKind.wrap_i64]; omega
  clear hr
  go_enter Tryd.func9, Tryd.ntmps9
  go_wp2
  go_ret
  exact ⟨by congr 1, rfl⟩
end Go.Proofs.YtjeibckjockmeaaDoor
