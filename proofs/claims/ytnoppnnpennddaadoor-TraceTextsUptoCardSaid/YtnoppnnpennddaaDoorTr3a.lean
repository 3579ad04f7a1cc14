/- Layer 19: the fields of an event's text, walked: rows of one form. -/
import Derived.Test.YtnoppnnpennddaaDoorTr3
import Derived.Deep.RegionHeld3
namespace Go.Proofs.YtnoppnnpennddaaDoor
open Go.RowKit

set_option maxHeartbeats 16000000 in
set_option maxRecDepth 100000 in
theorem read000 (s : ByteArray) (A : Option Addr) (m c : Nat) (F : List (List UInt8)) (w : World) (hS : Ss w A m c F) (hF : ∀ x ∈ F, x.length ≤ 100000000) : Calls Tryd.prog 30 #[rowV s false false false, .slice A m c] w (RetEv (fieldsE false false false F) w) := by
  have hmf : ∀ (fn : Fn) (first cap : Array Value) (w : World), (Instr.makeFunc fn first cap).run Tryd.prog w = .ok (.func fn first cap) w := fun _ _ _ _ => rfl
  have HRB := Lib.hid (RB.new s false false false (.slice A m c) w)
  have hB0 : Below w.heap.size w ((((w.alloc (.cells #[.string s, .bool false, .bool false, .bool false] 58)).alloc (.cells #[.slice A m c] 61)).alloc (.cells (evC 0 0 0 (.slice none 0 0)) TE)).alloc (.cells (evC 0 0 0 (.slice none 0 0)) TE)) := ((((Below.refl _ w).alloc (Nat.le_refl _) _).alloc (by simp) _).alloc (by simp; omega) _).alloc (by simp; omega) _
  have HB := Lib.hid hB0
  have HS := Lib.hid hS
  have HF := Lib.hid hF
  clear hB0 hS hF
  go_enter Tryd.func30, Tryd.ntmps30
  go_wp2_with (fail)
  clear hmf
  generalize hW : ((((w.alloc (.cells #[.string s, .bool false, .bool false, .bool false] 58)).alloc (.cells #[.slice A m c] 61)).alloc (.cells (evC 0 0 0 (.slice none 0 0)) TE)).alloc (.cells (evC 0 0 0 (.slice none 0 0)) TE)) = W0 at *
  clear hW
  obtain ⟨g3, hg3⟩ : ∃ g, g = w.heap.size + 1 + 1 + 1 := ⟨_, rfl⟩
  obtain ⟨g2, hg2⟩ : ∃ g, g = w.heap.size + 1 + 1 := ⟨_, rfl⟩
  obtain ⟨g1, hg1⟩ : ∃ g, g = w.heap.size + 1 := ⟨_, rfl⟩
  obtain ⟨g0, hg0⟩ : ∃ g, g = w.heap.size := ⟨_, rfl⟩
  rw [← hg3] at HRB ⊢
  rw [← hg2] at HRB ⊢
  rw [← hg1] at HRB ⊢
  have HG := Lib.hid hg0
  have l1 : g0 < g1 := by omega
  have l2 : g1 < g2 := by omega
  have l3 : g2 < g3 := by omega
  rw [← hg0] at HRB HB ⊢
  clear hg0 hg1 hg2 hg3
  by_cases hnil : F = []
  · as_aux_lemma =>
    have HE : Hid (fieldsE false false false F = some ([], 0, 0)) := Lib.hid (by simp [fieldsE, *])
    have hm0 : m = 0 := by have := HS.out.len; rw [hnil] at this; simpa using this.symm
    clear hnil
    have e0 : W0.cell? ⟨g3, 0, none⟩ = some (.int .i64 (0)) := cell_of_row W0 g3 0 _ _ _ HRB.out.h3
    have e1 : W0.cell? ⟨g3, 1, none⟩ = some (.int .i64 (0)) := cell_of_row W0 g3 1 _ _ _ HRB.out.h3
    have e2 : W0.cell? ⟨g3, 2, none⟩ = some (.int .i64 (0)) := cell_of_row W0 g3 2 _ _ _ HRB.out.h3
    have e3 : W0.cell? ⟨g3, 3, none⟩ = some (.slice none 0 0) := cell_of_row W0 g3 3 _ _ _ HRB.out.h3
    have f0 : W0.cell? ⟨g1, 0, none⟩ = some (.slice A m c) := cell_of_row W0 g1 0 _ _ _ HRB.out.h1
    have b1 : W0.cell? ⟨g0, 1, none⟩ = some (.bool false) := cell_of_row W0 g0 1 _ _ _ HRB.out.h0
    have b2 : W0.cell? ⟨g0, 2, none⟩ = some (.bool false) := cell_of_row W0 g0 2 _ _ _ HRB.out.h0
    have b3 : W0.cell? ⟨g0, 3, none⟩ = some (.bool false) := cell_of_row W0 g0 3 _ _ _ HRB.out.h0
    have ef1 := frozen_row (j := 1) HRB.out.h3
    have ef2 := frozen_row (j := 2) HRB.out.h3
    have ef3 := frozen_row (j := 3) HRB.out.h3
    have ff := frozen_row (j := 0) HRB.out.h1
    have HZ := Lib.hid HRB.out.h2
    have z0 : W0.cell? ⟨g2, 0, none⟩ = some (.int .i64 0) := cell_of_row W0 g2 0 _ _ _ HZ.out
    have z1 : W0.cell? ⟨g2, 1, none⟩ = some (.int .i64 0) := cell_of_row W0 g2 1 _ _ _ HZ.out
    have z2 : W0.cell? ⟨g2, 2, none⟩ = some (.int .i64 0) := cell_of_row W0 g2 2 _ _ _ HZ.out
    have z3 : W0.cell? ⟨g2, 3, none⟩ = some (.slice none 0 0) := cell_of_row W0 g2 3 _ _ _ HZ.out
    have zf0 := frozen_row (j := 0) HZ.out
    have zf1 := frozen_row (j := 1) HZ.out
    have zf2 := frozen_row (j := 2) HZ.out
    have zf3 := frozen_row (j := 3) HZ.out
    have HBW : Hid (Below g0 w ((((W0.drew.setCell ⟨g2, 0, none⟩ (.int .i64 (0))).setCell ⟨g2, 1, none⟩ (.int .i64 (0))).setCell ⟨g2, 2, none⟩ (.int .i64 (0))).setCell ⟨g2, 3, none⟩ (.slice none 0 0))) := Lib.hid ((((HB.out.drew.setCell (p := ⟨g2, 0, none⟩) (Nat.le_of_lt (Nat.lt_trans l1 l2)) _).setCell (p := ⟨g2, 1, none⟩) (Nat.le_of_lt (Nat.lt_trans l1 l2)) _).setCell (p := ⟨g2, 2, none⟩) (Nat.le_of_lt (Nat.lt_trans l1 l2)) _).setCell (p := ⟨g2, 3, none⟩) (Nat.le_of_lt (Nat.lt_trans l1 l2)) _)
    clear b1 b2 b3 ef1 ef2 ef3 ff
    go_region
    all_goals
      go_wp2_with (fail)
      refine bodyPost_ret (v := .tuple #[evV (0) (0) (0) (.slice none 0 0), .bool true]) ?_ rfl ?_
      · exact resultsE Tryd.results30 _ _ g2 _ _ _ _ _ _ _ (by kernel_rfl) (by kernel_rfl) (finish_heap (w := W0.drew) HZ.out rfl)
      · exact by rw [HE.out]; exact .inr ⟨_, _, _, _, _, _, rfl, rfl, Bs.none_ _, (fun x hx => by cases hx), by rw [HG.out] at HBW; exact HBW.out⟩
  · as_aux_lemma =>
    have HE : Hid (fieldsE false false false F = none) := Lib.hid (by simp [fieldsE, *])
    have hm0 : m ≠ 0 := by have := HS.out.len; intro e; exact hnil (List.eq_nil_of_length_eq_zero (by omega))
    have hmz : ((m : Int) == 0) = false := by rw [beq_eq_false_iff_ne]; omega
    clear hnil
    have e0 : W0.cell? ⟨g3, 0, none⟩ = some (.int .i64 (0)) := cell_of_row W0 g3 0 _ _ _ HRB.out.h3
    have e1 : W0.cell? ⟨g3, 1, none⟩ = some (.int .i64 (0)) := cell_of_row W0 g3 1 _ _ _ HRB.out.h3
    have e2 : W0.cell? ⟨g3, 2, none⟩ = some (.int .i64 (0)) := cell_of_row W0 g3 2 _ _ _ HRB.out.h3
    have e3 : W0.cell? ⟨g3, 3, none⟩ = some (.slice none 0 0) := cell_of_row W0 g3 3 _ _ _ HRB.out.h3
    have f0 : W0.cell? ⟨g1, 0, none⟩ = some (.slice A m c) := cell_of_row W0 g1 0 _ _ _ HRB.out.h1
    have b1 : W0.cell? ⟨g0, 1, none⟩ = some (.bool false) := cell_of_row W0 g0 1 _ _ _ HRB.out.h0
    have b2 : W0.cell? ⟨g0, 2, none⟩ = some (.bool false) := cell_of_row W0 g0 2 _ _ _ HRB.out.h0
    have b3 : W0.cell? ⟨g0, 3, none⟩ = some (.bool false) := cell_of_row W0 g0 3 _ _ _ HRB.out.h0
    have ef1 := frozen_row (j := 1) HRB.out.h3
    have ef2 := frozen_row (j := 2) HRB.out.h3
    have ef3 := frozen_row (j := 3) HRB.out.h3
    have ff := frozen_row (j := 0) HRB.out.h1
    have HZ := Lib.hid HRB.out.h2
    have z0 : W0.cell? ⟨g2, 0, none⟩ = some (.int .i64 0) := cell_of_row W0 g2 0 _ _ _ HZ.out
    have z1 : W0.cell? ⟨g2, 1, none⟩ = some (.int .i64 0) := cell_of_row W0 g2 1 _ _ _ HZ.out
    have z2 : W0.cell? ⟨g2, 2, none⟩ = some (.int .i64 0) := cell_of_row W0 g2 2 _ _ _ HZ.out
    have z3 : W0.cell? ⟨g2, 3, none⟩ = some (.slice none 0 0) := cell_of_row W0 g2 3 _ _ _ HZ.out
    have zf0 := frozen_row (j := 0) HZ.out
    have zf1 := frozen_row (j := 1) HZ.out
    have zf2 := frozen_row (j := 2) HZ.out
    have zf3 := frozen_row (j := 3) HZ.out
    have HBW : Hid (Below g0 w ((((W0.drew.setCell ⟨g2, 0, none⟩ (.int .i64 (0))).setCell ⟨g2, 1, none⟩ (.int .i64 (0))).setCell ⟨g2, 2, none⟩ (.int .i64 (0))).setCell ⟨g2, 3, none⟩ (.slice none 0 0))) := Lib.hid ((((HB.out.drew.setCell (p := ⟨g2, 0, none⟩) (Nat.le_of_lt (Nat.lt_trans l1 l2)) _).setCell (p := ⟨g2, 1, none⟩) (Nat.le_of_lt (Nat.lt_trans l1 l2)) _).setCell (p := ⟨g2, 2, none⟩) (Nat.le_of_lt (Nat.lt_trans l1 l2)) _).setCell (p := ⟨g2, 3, none⟩) (Nat.le_of_lt (Nat.lt_trans l1 l2)) _)
    clear b1 b2 b3 ef1 ef2 ef3 ff
    go_region
    all_goals
      go_wp2_with (fail)
      refine bodyPost_ret (v := .tuple #[evV (0) (0) (0) (.slice none 0 0), .bool false]) ?_ rfl ?_
      · exact resultsE Tryd.results30 _ _ g2 _ _ _ _ _ _ _ (by kernel_rfl) (by kernel_rfl) (finish_heap (w := W0.drew) HZ.out rfl)
      · exact by rw [HE.out]; exact .inl ⟨_, _, _, _, _, _, _, rfl, rfl, Bs.none_ _, by rw [HG.out] at HBW; exact HBW.out⟩

set_option maxHeartbeats 16000000 in
set_option maxRecDepth 100000 in
theorem read100 (s : ByteArray) (A : Option Addr) (m c : Nat) (F : List (List UInt8)) (w : World) (hS : Ss w A m c F) (hF : ∀ x ∈ F, x.length ≤ 100000000) : Calls Tryd.prog 30 #[rowV s true false false, .slice A m c] w (RetEv (fieldsE true false false F) w) := by
  have hmf : ∀ (fn : Fn) (first cap : Array Value) (w : World), (Instr.makeFunc fn first cap).run Tryd.prog w = .ok (.func fn first cap) w := fun _ _ _ _ => rfl
  have HRB := Lib.hid (RB.new s true false false (.slice A m c) w)
  have hB0 : Below w.heap.size w ((((w.alloc (.cells #[.string s, .bool true, .bool false, .bool false] 58)).alloc (.cells #[.slice A m c] 61)).alloc (.cells (evC 0 0 0 (.slice none 0 0)) TE)).alloc (.cells (evC 0 0 0 (.slice none 0 0)) TE)) := ((((Below.refl _ w).alloc (Nat.le_refl _) _).alloc (by simp) _).alloc (by simp; omega) _).alloc (by simp; omega) _
  have HB := Lib.hid hB0
  have HS := Lib.hid hS
  have HF := Lib.hid hF
  clear hB0 hS hF
  go_enter Tryd.func30, Tryd.ntmps30
  go_wp2_with (fail)
  clear hmf
  generalize hW : ((((w.alloc (.cells #[.string s, .bool true, .bool false, .bool false] 58)).alloc (.cells #[.slice A m c] 61)).alloc (.cells (evC 0 0 0 (.slice none 0 0)) TE)).alloc (.cells (evC 0 0 0 (.slice none 0 0)) TE)) = W0 at *
  clear hW
  obtain ⟨g3, hg3⟩ : ∃ g, g = w.heap.size + 1 + 1 + 1 := ⟨_, rfl⟩
  obtain ⟨g2, hg2⟩ : ∃ g, g = w.heap.size + 1 + 1 := ⟨_, rfl⟩
  obtain ⟨g1, hg1⟩ : ∃ g, g = w.heap.size + 1 := ⟨_, rfl⟩
  obtain ⟨g0, hg0⟩ : ∃ g, g = w.heap.size := ⟨_, rfl⟩
  rw [← hg3] at HRB ⊢
  rw [← hg2] at HRB ⊢
  rw [← hg1] at HRB ⊢
  have HG := Lib.hid hg0
  have l1 : g0 < g1 := by omega
  have l2 : g1 < g2 := by omega
  have l3 : g2 < g3 := by omega
  rw [← hg0] at HRB HB ⊢
  clear hg0 hg1 hg2 hg3
  rcases hF1 : F with _ | ⟨x1, F1⟩
  · as_aux_lemma =>
    have hm0 : m = 0 := by have := HS.out.len; rw [hF1] at this; simpa using this.symm
    have e0 : W0.cell? ⟨g3, 0, none⟩ = some (.int .i64 (0)) := cell_of_row W0 g3 0 _ _ _ HRB.out.h3
    have e1 : W0.cell? ⟨g3, 1, none⟩ = some (.int .i64 (0)) := cell_of_row W0 g3 1 _ _ _ HRB.out.h3
    have e2 : W0.cell? ⟨g3, 2, none⟩ = some (.int .i64 (0)) := cell_of_row W0 g3 2 _ _ _ HRB.out.h3
    have e3 : W0.cell? ⟨g3, 3, none⟩ = some (.slice none 0 0) := cell_of_row W0 g3 3 _ _ _ HRB.out.h3
    have f0 : W0.cell? ⟨g1, 0, none⟩ = some (.slice A m c) := cell_of_row W0 g1 0 _ _ _ HRB.out.h1
    have b1 : W0.cell? ⟨g0, 1, none⟩ = some (.bool true) := cell_of_row W0 g0 1 _ _ _ HRB.out.h0
    have b2 : W0.cell? ⟨g0, 2, none⟩ = some (.bool false) := cell_of_row W0 g0 2 _ _ _ HRB.out.h0
    have b3 : W0.cell? ⟨g0, 3, none⟩ = some (.bool false) := cell_of_row W0 g0 3 _ _ _ HRB.out.h0
    have ef1 := frozen_row (j := 1) HRB.out.h3
    have ef2 := frozen_row (j := 2) HRB.out.h3
    have ef3 := frozen_row (j := 3) HRB.out.h3
    have ff := frozen_row (j := 0) HRB.out.h1
    rw [hm0] at f0
    refine (take0 g1 _ _ W0 f0).mono ?_
    rintro e w1 ⟨rfl, hw1⟩
    obtain rfl := hw1.symm
    go_wp2_with (fail)
    have hg3 := (Array.getElem?_eq_some_iff.1 HRB.out.h3).1
    refine (bytes_ (txt []) W0 (by decide)).mono ?_
    rintro e w2 ⟨A5, m5, c5, rfl, hB5, hlow, hb5⟩
    clear e0 e1 e2 e3 f0 b1 b2 b3 ef1 ef2 ef3 ff
    have HLOW : Hid (∀ b, A5 = some b → g3 < b.block) := Lib.hid (fun b hb => Nat.lt_of_lt_of_le hg3 (hlow b hb))
    replace HRB := Lib.hid (HRB.out.below hb5)
    replace HB := Lib.hid (HB.out.trans (hb5.mono (HG.out ▸ HB.out.size)))
    have HB5 := Lib.hid hB5
    clear hb5 hB5 hg3 hlow
    have e0 : w2.cell? ⟨g3, 0, none⟩ = some (.int .i64 (0)) := cell_of_row w2 g3 0 _ _ _ HRB.out.h3
    have e1 : w2.cell? ⟨g3, 1, none⟩ = some (.int .i64 (0)) := cell_of_row w2 g3 1 _ _ _ HRB.out.h3
    have e2 : w2.cell? ⟨g3, 2, none⟩ = some (.int .i64 (0)) := cell_of_row w2 g3 2 _ _ _ HRB.out.h3
    have e3 : w2.cell? ⟨g3, 3, none⟩ = some (.slice none 0 0) := cell_of_row w2 g3 3 _ _ _ HRB.out.h3
    have f0 : w2.cell? ⟨g1, 0, none⟩ = some (.slice A m c) := cell_of_row w2 g1 0 _ _ _ HRB.out.h1
    have b1 : w2.cell? ⟨g0, 1, none⟩ = some (.bool true) := cell_of_row w2 g0 1 _ _ _ HRB.out.h0
    have b2 : w2.cell? ⟨g0, 2, none⟩ = some (.bool false) := cell_of_row w2 g0 2 _ _ _ HRB.out.h0
    have b3 : w2.cell? ⟨g0, 3, none⟩ = some (.bool false) := cell_of_row w2 g0 3 _ _ _ HRB.out.h0
    have ef1 := frozen_row (j := 1) HRB.out.h3
    have ef2 := frozen_row (j := 2) HRB.out.h3
    have ef3 := frozen_row (j := 3) HRB.out.h3
    have ff := frozen_row (j := 0) HRB.out.h1
    rcases hr : bytesD (txt []).data.toList with _ | l5
    · as_aux_lemma =>
      rw [hr] at HB5
      have hr' : bytesD [] = none := hr
      go_wp2_with (fail)
      clear e0 e1 e2 e3 f0 b1 b2 b3 ef1 ef2 ef3 ff
      have HB6 : Hid (Bs (w2.setCell ⟨g3, 3, none⟩ (.slice A5 m5 c5)) A5 m5 c5 []) := Lib.hid (HB5.out.setOther (fun b hb => Nat.ne_of_gt (HLOW.out b hb)) 3 _)
      replace HRB := Lib.hid (HRB.out.setE 3 (.slice A5 m5 c5))
      simp only [List.setIfInBounds_toArray, List.set_cons_zero, List.set_cons_succ] at HRB
      replace HB := Lib.hid (HB.out.setCell (p := ⟨g3, 3, none⟩) (Nat.le_of_lt (Nat.lt_trans l1 (Nat.lt_trans l2 l3))) (.slice A5 m5 c5))
      generalize w2.setCell ⟨g3, 3, none⟩ (.slice A5 m5 c5) = W12 at *
      have HE : Hid (fieldsE true false false F = none) := Lib.hid (by simp [fieldsE, *])
      have e0 : W12.cell? ⟨g3, 0, none⟩ = some (.int .i64 (0)) := cell_of_row W12 g3 0 _ _ _ HRB.out.h3
      have e1 : W12.cell? ⟨g3, 1, none⟩ = some (.int .i64 (0)) := cell_of_row W12 g3 1 _ _ _ HRB.out.h3
      have e2 : W12.cell? ⟨g3, 2, none⟩ = some (.int .i64 (0)) := cell_of_row W12 g3 2 _ _ _ HRB.out.h3
      have e3 : W12.cell? ⟨g3, 3, none⟩ = some (.slice A5 m5 c5) := cell_of_row W12 g3 3 _ _ _ HRB.out.h3
      have f0 : W12.cell? ⟨g1, 0, none⟩ = some (.slice A m c) := cell_of_row W12 g1 0 _ _ _ HRB.out.h1
      have b1 : W12.cell? ⟨g0, 1, none⟩ = some (.bool true) := cell_of_row W12 g0 1 _ _ _ HRB.out.h0
      have b2 : W12.cell? ⟨g0, 2, none⟩ = some (.bool false) := cell_of_row W12 g0 2 _ _ _ HRB.out.h0
      have b3 : W12.cell? ⟨g0, 3, none⟩ = some (.bool false) := cell_of_row W12 g0 3 _ _ _ HRB.out.h0
      have ef1 := frozen_row (j := 1) HRB.out.h3
      have ef2 := frozen_row (j := 2) HRB.out.h3
      have ef3 := frozen_row (j := 3) HRB.out.h3
      have ff := frozen_row (j := 0) HRB.out.h1
      have HZ := Lib.hid HRB.out.h2
      have z0 : W12.cell? ⟨g2, 0, none⟩ = some (.int .i64 0) := cell_of_row W12 g2 0 _ _ _ HZ.out
      have z1 : W12.cell? ⟨g2, 1, none⟩ = some (.int .i64 0) := cell_of_row W12 g2 1 _ _ _ HZ.out
      have z2 : W12.cell? ⟨g2, 2, none⟩ = some (.int .i64 0) := cell_of_row W12 g2 2 _ _ _ HZ.out
      have z3 : W12.cell? ⟨g2, 3, none⟩ = some (.slice none 0 0) := cell_of_row W12 g2 3 _ _ _ HZ.out
      have zf0 := frozen_row (j := 0) HZ.out
      have zf1 := frozen_row (j := 1) HZ.out
      have zf2 := frozen_row (j := 2) HZ.out
      have zf3 := frozen_row (j := 3) HZ.out
      have HBW : Hid (Below g0 w ((((W12.drew.setCell ⟨g2, 0, none⟩ (.int .i64 (0))).setCell ⟨g2, 1, none⟩ (.int .i64 (0))).setCell ⟨g2, 2, none⟩ (.int .i64 (0))).setCell ⟨g2, 3, none⟩ (.slice A5 m5 c5))) := Lib.hid ((((HB.out.drew.setCell (p := ⟨g2, 0, none⟩) (Nat.le_of_lt (Nat.lt_trans l1 l2)) _).setCell (p := ⟨g2, 1, none⟩) (Nat.le_of_lt (Nat.lt_trans l1 l2)) _).setCell (p := ⟨g2, 2, none⟩) (Nat.le_of_lt (Nat.lt_trans l1 l2)) _).setCell (p := ⟨g2, 3, none⟩) (Nat.le_of_lt (Nat.lt_trans l1 l2)) _)
      clear b1 b2 b3 ef1 ef2 ef3 ff
      go_region
      all_goals
        go_wp2_with (fail)
        refine bodyPost_ret (v := .tuple #[evV (0) (0) (0) (.slice A5 m5 c5), .bool false]) ?_ rfl ?_
        · exact resultsE Tryd.results30 _ _ g2 _ _ _ _ _ _ _ (by kernel_rfl) (by kernel_rfl) (finish_heap (w := W12.drew) HZ.out rfl)
        · exact by rw [HE.out]; exact .inl ⟨_, _, _, _, _, _, _, rfl, rfl, HB6.out.drew.fin HLOW.out l3 _ _ _ _, by rw [HG.out] at HBW; exact HBW.out⟩
    · cases hr
  · skip
    have hlen1 := HS.out.len
    rw [hF1] at hlen1
    simp only [List.length_cons] at hlen1
    have HSC1 := Lib.hid (show Ss w A m c (x1 :: F1) from hF1 ▸ HS.out)
    obtain ⟨bk1, ok1, hA1, _⟩ := HSC1.out.at_ (by omega)
    have e0 : W0.cell? ⟨g3, 0, none⟩ = some (.int .i64 (0)) := cell_of_row W0 g3 0 _ _ _ HRB.out.h3
    have e1 : W0.cell? ⟨g3, 1, none⟩ = some (.int .i64 (0)) := cell_of_row W0 g3 1 _ _ _ HRB.out.h3
    have e2 : W0.cell? ⟨g3, 2, none⟩ = some (.int .i64 (0)) := cell_of_row W0 g3 2 _ _ _ HRB.out.h3
    have e3 : W0.cell? ⟨g3, 3, none⟩ = some (.slice none 0 0) := cell_of_row W0 g3 3 _ _ _ HRB.out.h3
    have f0 : W0.cell? ⟨g1, 0, none⟩ = some (.slice A m c) := cell_of_row W0 g1 0 _ _ _ HRB.out.h1
    have b1 : W0.cell? ⟨g0, 1, none⟩ = some (.bool true) := cell_of_row W0 g0 1 _ _ _ HRB.out.h0
    have b2 : W0.cell? ⟨g0, 2, none⟩ = some (.bool false) := cell_of_row W0 g0 2 _ _ _ HRB.out.h0
    have b3 : W0.cell? ⟨g0, 3, none⟩ = some (.bool false) := cell_of_row W0 g0 3 _ _ _ HRB.out.h0
    have ef1 := frozen_row (j := 1) HRB.out.h3
    have ef2 := frozen_row (j := 2) HRB.out.h3
    have ef3 := frozen_row (j := 3) HRB.out.h3
    have ff := frozen_row (j := 0) HRB.out.h1
    rw [hA1] at f0
    rw [hA1] at HSC1
    refine (take1 g1 bk1 ok1 m c x1 F1 W0 (HSC1.out.below (HG.out ▸ HB.out)) f0 ff).mono ?_
    rintro e w1 ⟨rfl, rfl⟩
    clear e0 e1 e2 e3 f0 b1 b2 b3 ef1 ef2 ef3 ff
    replace HB := Lib.hid (HB.out.setCell (p := ⟨g1, 0, none⟩) (Nat.le_of_lt l1) (.slice (if c = 1 then some ⟨bk1, ok1, none⟩ else some ⟨bk1, ok1 + 1, none⟩) (m - 1) (c - 1)))
    replace HRB := Lib.hid (HRB.out.setF (.slice (if c = 1 then some ⟨bk1, ok1, none⟩ else some ⟨bk1, ok1 + 1, none⟩) (m - 1) (c - 1)))
    have HS1 := Lib.hid HSC1.out.tail
    obtain ⟨A1, hA1'⟩ : ∃ A', A' = (if c = 1 then some (⟨bk1, ok1, none⟩ : Addr) else some ⟨bk1, ok1 + 1, none⟩) := ⟨_, rfl⟩
    obtain ⟨m1, hm1⟩ : ∃ m', m' = m - 1 := ⟨_, rfl⟩
    obtain ⟨c1, hc1⟩ : ∃ c', c' = c - 1 := ⟨_, rfl⟩
    rw [← hA1', ← hm1, ← hc1] at HB HRB HS1 ⊢
    clear hA1' hm1 hc1
    generalize W0.setCell ⟨g1, 0, none⟩ (.slice A1 m1 c1) = W10 at *
    have e0 : W10.cell? ⟨g3, 0, none⟩ = some (.int .i64 (0)) := cell_of_row W10 g3 0 _ _ _ HRB.out.h3
    have e1 : W10.cell? ⟨g3, 1, none⟩ = some (.int .i64 (0)) := cell_of_row W10 g3 1 _ _ _ HRB.out.h3
    have e2 : W10.cell? ⟨g3, 2, none⟩ = some (.int .i64 (0)) := cell_of_row W10 g3 2 _ _ _ HRB.out.h3
    have e3 : W10.cell? ⟨g3, 3, none⟩ = some (.slice none 0 0) := cell_of_row W10 g3 3 _ _ _ HRB.out.h3
    have f0 : W10.cell? ⟨g1, 0, none⟩ = some (.slice A1 m1 c1) := cell_of_row W10 g1 0 _ _ _ HRB.out.h1
    have b1 : W10.cell? ⟨g0, 1, none⟩ = some (.bool true) := cell_of_row W10 g0 1 _ _ _ HRB.out.h0
    have b2 : W10.cell? ⟨g0, 2, none⟩ = some (.bool false) := cell_of_row W10 g0 2 _ _ _ HRB.out.h0
    have b3 : W10.cell? ⟨g0, 3, none⟩ = some (.bool false) := cell_of_row W10 g0 3 _ _ _ HRB.out.h0
    have ef1 := frozen_row (j := 1) HRB.out.h3
    have ef2 := frozen_row (j := 2) HRB.out.h3
    have ef3 := frozen_row (j := 3) HRB.out.h3
    have ff := frozen_row (j := 0) HRB.out.h1
    go_wp2_with (fail)
    have hg3 := (Array.getElem?_eq_some_iff.1 HRB.out.h3).1
    refine (bytes_ (txt x1) W10 (by rw [size_txt]; exact HF.out x1 (by simp [*]))).mono ?_
    rintro e w2 ⟨A5, m5, c5, rfl, hB5, hlow, hb5⟩
    clear e0 e1 e2 e3 f0 b1 b2 b3 ef1 ef2 ef3 ff
    have HLOW : Hid (∀ b, A5 = some b → g3 < b.block) := Lib.hid (fun b hb => Nat.lt_of_lt_of_le hg3 (hlow b hb))
    replace HRB := Lib.hid (HRB.out.below hb5)
    replace HB := Lib.hid (HB.out.trans (hb5.mono (HG.out ▸ HB.out.size)))
    have HB5 := Lib.hid hB5
    clear hb5 hB5 hg3 hlow
    have e0 : w2.cell? ⟨g3, 0, none⟩ = some (.int .i64 (0)) := cell_of_row w2 g3 0 _ _ _ HRB.out.h3
    have e1 : w2.cell? ⟨g3, 1, none⟩ = some (.int .i64 (0)) := cell_of_row w2 g3 1 _ _ _ HRB.out.h3
    have e2 : w2.cell? ⟨g3, 2, none⟩ = some (.int .i64 (0)) := cell_of_row w2 g3 2 _ _ _ HRB.out.h3
    have e3 : w2.cell? ⟨g3, 3, none⟩ = some (.slice none 0 0) := cell_of_row w2 g3 3 _ _ _ HRB.out.h3
    have f0 : w2.cell? ⟨g1, 0, none⟩ = some (.slice A1 m1 c1) := cell_of_row w2 g1 0 _ _ _ HRB.out.h1
    have b1 : w2.cell? ⟨g0, 1, none⟩ = some (.bool true) := cell_of_row w2 g0 1 _ _ _ HRB.out.h0
    have b2 : w2.cell? ⟨g0, 2, none⟩ = some (.bool false) := cell_of_row w2 g0 2 _ _ _ HRB.out.h0
    have b3 : w2.cell? ⟨g0, 3, none⟩ = some (.bool false) := cell_of_row w2 g0 3 _ _ _ HRB.out.h0
    have ef1 := frozen_row (j := 1) HRB.out.h3
    have ef2 := frozen_row (j := 2) HRB.out.h3
    have ef3 := frozen_row (j := 3) HRB.out.h3
    have ff := frozen_row (j := 0) HRB.out.h1
    rcases hr : bytesD (txt x1).data.toList with _ | l5
    · as_aux_lemma =>
      rw [hr] at HB5
      have hr' : bytesD x1 = none := hr
      go_wp2_with (fail)
      clear e0 e1 e2 e3 f0 b1 b2 b3 ef1 ef2 ef3 ff
      have HB6 : Hid (Bs (w2.setCell ⟨g3, 3, none⟩ (.slice A5 m5 c5)) A5 m5 c5 []) := Lib.hid (HB5.out.setOther (fun b hb => Nat.ne_of_gt (HLOW.out b hb)) 3 _)
      replace HRB := Lib.hid (HRB.out.setE 3 (.slice A5 m5 c5))
      simp only [List.setIfInBounds_toArray, List.set_cons_zero, List.set_cons_succ] at HRB
      replace HB := Lib.hid (HB.out.setCell (p := ⟨g3, 3, none⟩) (Nat.le_of_lt (Nat.lt_trans l1 (Nat.lt_trans l2 l3))) (.slice A5 m5 c5))
      generalize w2.setCell ⟨g3, 3, none⟩ (.slice A5 m5 c5) = W12 at *
      have HE : Hid (fieldsE true false false F = none) := Lib.hid (by simp [fieldsE, *])
      have e0 : W12.cell? ⟨g3, 0, none⟩ = some (.int .i64 (0)) := cell_of_row W12 g3 0 _ _ _ HRB.out.h3
      have e1 : W12.cell? ⟨g3, 1, none⟩ = some (.int .i64 (0)) := cell_of_row W12 g3 1 _ _ _ HRB.out.h3
      have e2 : W12.cell? ⟨g3, 2, none⟩ = some (.int .i64 (0)) := cell_of_row W12 g3 2 _ _ _ HRB.out.h3
      have e3 : W12.cell? ⟨g3, 3, none⟩ = some (.slice A5 m5 c5) := cell_of_row W12 g3 3 _ _ _ HRB.out.h3
      have f0 : W12.cell? ⟨g1, 0, none⟩ = some (.slice A1 m1 c1) := cell_of_row W12 g1 0 _ _ _ HRB.out.h1
      have b1 : W12.cell? ⟨g0, 1, none⟩ = some (.bool true) := cell_of_row W12 g0 1 _ _ _ HRB.out.h0
      have b2 : W12.cell? ⟨g0, 2, none⟩ = some (.bool false) := cell_of_row W12 g0 2 _ _ _ HRB.out.h0
      have b3 : W12.cell? ⟨g0, 3, none⟩ = some (.bool false) := cell_of_row W12 g0 3 _ _ _ HRB.out.h0
      have ef1 := frozen_row (j := 1) HRB.out.h3
      have ef2 := frozen_row (j := 2) HRB.out.h3
      have ef3 := frozen_row (j := 3) HRB.out.h3
      have ff := frozen_row (j := 0) HRB.out.h1
      have HZ := Lib.hid HRB.out.h2
      have z0 : W12.cell? ⟨g2, 0, none⟩ = some (.int .i64 0) := cell_of_row W12 g2 0 _ _ _ HZ.out
      have z1 : W12.cell? ⟨g2, 1, none⟩ = some (.int .i64 0) := cell_of_row W12 g2 1 _ _ _ HZ.out
      have z2 : W12.cell? ⟨g2, 2, none⟩ = some (.int .i64 0) := cell_of_row W12 g2 2 _ _ _ HZ.out
      have z3 : W12.cell? ⟨g2, 3, none⟩ = some (.slice none 0 0) := cell_of_row W12 g2 3 _ _ _ HZ.out
      have zf0 := frozen_row (j := 0) HZ.out
      have zf1 := frozen_row (j := 1) HZ.out
      have zf2 := frozen_row (j := 2) HZ.out
      have zf3 := frozen_row (j := 3) HZ.out
      have HBW : Hid (Below g0 w ((((W12.drew.setCell ⟨g2, 0, none⟩ (.int .i64 (0))).setCell ⟨g2, 1, none⟩ (.int .i64 (0))).setCell ⟨g2, 2, none⟩ (.int .i64 (0))).setCell ⟨g2, 3, none⟩ (.slice A5 m5 c5))) := Lib.hid ((((HB.out.drew.setCell (p := ⟨g2, 0, none⟩) (Nat.le_of_lt (Nat.lt_trans l1 l2)) _).setCell (p := ⟨g2, 1, none⟩) (Nat.le_of_lt (Nat.lt_trans l1 l2)) _).setCell (p := ⟨g2, 2, none⟩) (Nat.le_of_lt (Nat.lt_trans l1 l2)) _).setCell (p := ⟨g2, 3, none⟩) (Nat.le_of_lt (Nat.lt_trans l1 l2)) _)
      clear b1 b2 b3 ef1 ef2 ef3 ff
      go_region
      all_goals
        go_wp2_with (fail)
        refine bodyPost_ret (v := .tuple #[evV (0) (0) (0) (.slice A5 m5 c5), .bool false]) ?_ rfl ?_
        · exact resultsE Tryd.results30 _ _ g2 _ _ _ _ _ _ _ (by kernel_rfl) (by kernel_rfl) (finish_heap (w := W12.drew) HZ.out rfl)
        · exact by rw [HE.out]; exact .inl ⟨_, _, _, _, _, _, _, rfl, rfl, HB6.out.drew.fin HLOW.out l3 _ _ _ _, by rw [HG.out] at HBW; exact HBW.out⟩
    · skip
      rw [hr] at HB5
      have hr' : bytesD x1 = some l5 := hr
      go_wp2_with (fail)
      clear e0 e1 e2 e3 f0 b1 b2 b3 ef1 ef2 ef3 ff
      have HB6 : Hid (Bs (w2.setCell ⟨g3, 3, none⟩ (.slice A5 m5 c5)) A5 m5 c5 l5) := Lib.hid (HB5.out.setOther (fun b hb => Nat.ne_of_gt (HLOW.out b hb)) 3 _)
      replace HRB := Lib.hid (HRB.out.setE 3 (.slice A5 m5 c5))
      simp only [List.setIfInBounds_toArray, List.set_cons_zero, List.set_cons_succ] at HRB
      replace HB := Lib.hid (HB.out.setCell (p := ⟨g3, 3, none⟩) (Nat.le_of_lt (Nat.lt_trans l1 (Nat.lt_trans l2 l3))) (.slice A5 m5 c5))
      generalize w2.setCell ⟨g3, 3, none⟩ (.slice A5 m5 c5) = W12 at *
      by_cases hnil : F1 = []
      · as_aux_lemma =>
        have HE : Hid (fieldsE true false false F = some (l5, 0, 0)) := Lib.hid (by simp [fieldsE, *])
        have hm0 : m1 = 0 := by have := HS1.out.len; rw [hnil] at this; simpa using this.symm
        clear hnil
        have e0 : W12.cell? ⟨g3, 0, none⟩ = some (.int .i64 (0)) := cell_of_row W12 g3 0 _ _ _ HRB.out.h3
        have e1 : W12.cell? ⟨g3, 1, none⟩ = some (.int .i64 (0)) := cell_of_row W12 g3 1 _ _ _ HRB.out.h3
        have e2 : W12.cell? ⟨g3, 2, none⟩ = some (.int .i64 (0)) := cell_of_row W12 g3 2 _ _ _ HRB.out.h3
        have e3 : W12.cell? ⟨g3, 3, none⟩ = some (.slice A5 m5 c5) := cell_of_row W12 g3 3 _ _ _ HRB.out.h3
        have f0 : W12.cell? ⟨g1, 0, none⟩ = some (.slice A1 m1 c1) := cell_of_row W12 g1 0 _ _ _ HRB.out.h1
        have b1 : W12.cell? ⟨g0, 1, none⟩ = some (.bool true) := cell_of_row W12 g0 1 _ _ _ HRB.out.h0
        have b2 : W12.cell? ⟨g0, 2, none⟩ = some (.bool false) := cell_of_row W12 g0 2 _ _ _ HRB.out.h0
        have b3 : W12.cell? ⟨g0, 3, none⟩ = some (.bool false) := cell_of_row W12 g0 3 _ _ _ HRB.out.h0
        have ef1 := frozen_row (j := 1) HRB.out.h3
        have ef2 := frozen_row (j := 2) HRB.out.h3
        have ef3 := frozen_row (j := 3) HRB.out.h3
        have ff := frozen_row (j := 0) HRB.out.h1
        have HZ := Lib.hid HRB.out.h2
        have z0 : W12.cell? ⟨g2, 0, none⟩ = some (.int .i64 0) := cell_of_row W12 g2 0 _ _ _ HZ.out
        have z1 : W12.cell? ⟨g2, 1, none⟩ = some (.int .i64 0) := cell_of_row W12 g2 1 _ _ _ HZ.out
        have z2 : W12.cell? ⟨g2, 2, none⟩ = some (.int .i64 0) := cell_of_row W12 g2 2 _ _ _ HZ.out
        have z3 : W12.cell? ⟨g2, 3, none⟩ = some (.slice none 0 0) := cell_of_row W12 g2 3 _ _ _ HZ.out
        have zf0 := frozen_row (j := 0) HZ.out
        have zf1 := frozen_row (j := 1) HZ.out
        have zf2 := frozen_row (j := 2) HZ.out
        have zf3 := frozen_row (j := 3) HZ.out
        have HBW : Hid (Below g0 w ((((W12.drew.setCell ⟨g2, 0, none⟩ (.int .i64 (0))).setCell ⟨g2, 1, none⟩ (.int .i64 (0))).setCell ⟨g2, 2, none⟩ (.int .i64 (0))).setCell ⟨g2, 3, none⟩ (.slice A5 m5 c5))) := Lib.hid ((((HB.out.drew.setCell (p := ⟨g2, 0, none⟩) (Nat.le_of_lt (Nat.lt_trans l1 l2)) _).setCell (p := ⟨g2, 1, none⟩) (Nat.le_of_lt (Nat.lt_trans l1 l2)) _).setCell (p := ⟨g2, 2, none⟩) (Nat.le_of_lt (Nat.lt_trans l1 l2)) _).setCell (p := ⟨g2, 3, none⟩) (Nat.le_of_lt (Nat.lt_trans l1 l2)) _)
        clear b1 b2 b3 ef1 ef2 ef3 ff
        go_region
        all_goals
          go_wp2_with (fail)
          refine bodyPost_ret (v := .tuple #[evV (0) (0) (0) (.slice A5 m5 c5), .bool true]) ?_ rfl ?_
          · exact resultsE Tryd.results30 _ _ g2 _ _ _ _ _ _ _ (by kernel_rfl) (by kernel_rfl) (finish_heap (w := W12.drew) HZ.out rfl)
          · exact by rw [HE.out]; exact .inr ⟨_, _, _, _, _, _, rfl, rfl, HB6.out.drew.fin HLOW.out l3 _ _ _ _, (fun x hx => by have h1 := HLOW.out x hx; have h2 := HG.out; omega), by rw [HG.out] at HBW; exact HBW.out⟩
      · as_aux_lemma =>
        have HE : Hid (fieldsE true false false F = none) := Lib.hid (by simp [fieldsE, *])
        have hm0 : m1 ≠ 0 := by have := HS1.out.len; intro e; exact hnil (List.eq_nil_of_length_eq_zero (by omega))
        have hmz : ((m1 : Int) == 0) = false := by rw [beq_eq_false_iff_ne]; omega
        clear hnil
        have e0 : W12.cell? ⟨g3, 0, none⟩ = some (.int .i64 (0)) := cell_of_row W12 g3 0 _ _ _ HRB.out.h3
        have e1 : W12.cell? ⟨g3, 1, none⟩ = some (.int .i64 (0)) := cell_of_row W12 g3 1 _ _ _ HRB.out.h3
        have e2 : W12.cell? ⟨g3, 2, none⟩ = some (.int .i64 (0)) := cell_of_row W12 g3 2 _ _ _ HRB.out.h3
        have e3 : W12.cell? ⟨g3, 3, none⟩ = some (.slice A5 m5 c5) := cell_of_row W12 g3 3 _ _ _ HRB.out.h3
        have f0 : W12.cell? ⟨g1, 0, none⟩ = some (.slice A1 m1 c1) := cell_of_row W12 g1 0 _ _ _ HRB.out.h1
        have b1 : W12.cell? ⟨g0, 1, none⟩ = some (.bool true) := cell_of_row W12 g0 1 _ _ _ HRB.out.h0
        have b2 : W12.cell? ⟨g0, 2, none⟩ = some (.bool false) := cell_of_row W12 g0 2 _ _ _ HRB.out.h0
        have b3 : W12.cell? ⟨g0, 3, none⟩ = some (.bool false) := cell_of_row W12 g0 3 _ _ _ HRB.out.h0
        have ef1 := frozen_row (j := 1) HRB.out.h3
        have ef2 := frozen_row (j := 2) HRB.out.h3
        have ef3 := frozen_row (j := 3) HRB.out.h3
        have ff := frozen_row (j := 0) HRB.out.h1
        have HZ := Lib.hid HRB.out.h2
        have z0 : W12.cell? ⟨g2, 0, none⟩ = some (.int .i64 0) := cell_of_row W12 g2 0 _ _ _ HZ.out
        have z1 : W12.cell? ⟨g2, 1, none⟩ = some (.int .i64 0) := cell_of_row W12 g2 1 _ _ _ HZ.out
        have z2 : W12.cell? ⟨g2, 2, none⟩ = some (.int .i64 0) := cell_of_row W12 g2 2 _ _ _ HZ.out
        have z3 : W12.cell? ⟨g2, 3, none⟩ = some (.slice none 0 0) := cell_of_row W12 g2 3 _ _ _ HZ.out
        have zf0 := frozen_row (j := 0) HZ.out
        have zf1 := frozen_row (j := 1) HZ.out
        have zf2 := frozen_row (j := 2) HZ.out
        have zf3 := frozen_row (j := 3) HZ.out
        have HBW : Hid (Below g0 w ((((W12.drew.setCell ⟨g2, 0, none⟩ (.int .i64 (0))).setCell ⟨g2, 1, none⟩ (.int .i64 (0))).setCell ⟨g2, 2, none⟩ (.int .i64 (0))).setCell ⟨g2, 3, none⟩ (.slice A5 m5 c5))) := Lib.hid ((((HB.out.drew.setCell (p := ⟨g2, 0, none⟩) (Nat.le_of_lt (Nat.lt_trans l1 l2)) _).setCell (p := ⟨g2, 1, none⟩) (Nat.le_of_lt (Nat.lt_trans l1 l2)) _).setCell (p := ⟨g2, 2, none⟩) (Nat.le_of_lt (Nat.lt_trans l1 l2)) _).setCell (p := ⟨g2, 3, none⟩) (Nat.le_of_lt (Nat.lt_trans l1 l2)) _)
        clear b1 b2 b3 ef1 ef2 ef3 ff
        go_region
        all_goals
          go_wp2_with (fail)
          refine bodyPost_ret (v := .tuple #[evV (0) (0) (0) (.slice A5 m5 c5), .bool false]) ?_ rfl ?_
          · exact resultsE Tryd.results30 _ _ g2 _ _ _ _ _ _ _ (by kernel_rfl) (by kernel_rfl) (finish_heap (w := W12.drew) HZ.out rfl)
          · exact by rw [HE.out]; exact .inl ⟨_, _, _, _, _, _, _, rfl, rfl, HB6.out.drew.fin HLOW.out l3 _ _ _ _, by rw [HG.out] at HBW; exact HBW.out⟩
end Go.Proofs.YtnoppnnpennddaaDoor
