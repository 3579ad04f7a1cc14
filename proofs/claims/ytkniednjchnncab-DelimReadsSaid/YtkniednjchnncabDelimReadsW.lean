/- DelimReads, walked. -/
import Derived.Test.YtkniednjchnncabDelimBackW
import Derived.Test.YtkniednjchnncabRef06f
import Derived.Deep.CutRange
import Derived.BigQuiet
namespace Go.Proofs.Ytkniednjchnncab
open Go.RowKit

theorem delims_same (s : Sgn) (w : World) : (binOp .neq 24 s.v s.v).run Try.prog w = .ok (.bool false) w := by
  rw [run_neq_struct, run_equalIn_agg (ht := by kernel_rfl) (hp := by kernel_rfl)]
  simp [Op.eqFields, Program.fieldsOf, Try.underlying24, part, go_sem]

set_option maxHeartbeats 1000000 in
set_option maxRecDepth 100000 in
theorem delimReads_walk (A : Option Addr) (n k : Nat) (l : List UInt8) (s : Sgn) (w : World) (hB : Bs w A n k l) (_hR : k ≤ 140737488351232) : Calls Try.prog 3 #[.slice A n k, s.v] w (True_ w) := by
  have hmax := hB.nmax
  have HB := Lib.hid hB
  clear hB
  go_enter Try.func3, Try.ntmps3
  by_cases hlong : (3000 : Int) < (n : Int)
  · go_wp2_with (fail)
    refine (delimAlive _).mono ?_
    rintro e w2 ⟨rfl, hb2⟩
    go_wp2_with (fail)
    go_ret
    exact ⟨rfl, ((Below.refl _ w).alloc (Nat.le_refl _) _).trans (hb2.mono (by simp))⟩
  · go_wp2_with (fail)
    have HS1 := Lib.hid (HB.out.alloc (dobj s))
    have HH1 : Hid (Held (w.alloc (dobj s)) [(w.heap.size, dobj s)]) := Lib.hid (Held.alloc (W := w) (r := []) trivial (dobj s))
    have HB1 : Hid (Below w.heap.size w (w.alloc (dobj s))) := Lib.hid ((Below.refl _ w).alloc (Nat.le_refl _) _)
    obtain ⟨G0, hG⟩ : ∃ G, G = w.heap.size := ⟨_, rfl⟩
    rw [← hG] at HH1 ⊢
    obtain ⟨w1, hw1⟩ : ∃ y, y = w.alloc (dobj s) := ⟨_, rfl⟩
    rw [show w.alloc (.cells #[.int .u8 (s.a.toNat : Int), .int .u8 (s.b.toNat : Int), .int .u8 (s.c.toNat : Int), .int .u8 (s.d.toNat : Int), .int .u8 (s.e.toNat : Int)] 24) = w1 from hw1.symm]
    rw [← hw1] at HH1 HS1 HB1
    clear hw1 HB hG
    obtain ⟨R, E, hRE⟩ : ∃ R E, readD l = (R, E) := ⟨_, _, rfl⟩
    have HRE := Lib.hid hRE
    clear hRE
    refine (delimRead _ _ _ _ w1 HS1.out).mono ?_
    rw [HRE.out]
    rintro e w2 ⟨rfl, hb2⟩
    have HS2 := Lib.hid (HS1.out.below hb2)
    have HH2 := Lib.hid (HH1.out.below hb2)
    have HB2 : Hid (Below w.heap.size w w2) := Lib.hid (HB1.out.trans (hb2.mono HB1.out.size))
    clear hb2 HS1 HH1 HB1
    go_wp2_with (fail)
    have HS3 := Lib.hid (HS2.out.alloc (dobj R))
    have HH3 : Hid (Held (w2.alloc (dobj R)) [(w2.heap.size, dobj R), (G0, dobj s)]) := Lib.hid (HH2.out.alloc (dobj R))
    have HB3 : Hid (Below w.heap.size w (w2.alloc (dobj R))) := Lib.hid (HB2.out.alloc HB2.out.size _)
    obtain ⟨G5, hG⟩ : ∃ G, G = w2.heap.size := ⟨_, rfl⟩
    rw [← hG] at HH3 ⊢
    clear hG HS2 HH2 HB2
    generalize w2.alloc (dobj R) = w3 at *
    refine (refRead _ _ _ _ w3 HS3.out).mono ?_
    rw [HRE.out]
    rintro e w4 ⟨rfl, hb4⟩
    have HH4 := Lib.hid (HH3.out.below hb4)
    have HB4 : Hid (Below w.heap.size w w4) := Lib.hid (HB3.out.trans (hb4.mono HB3.out.size))
    clear hb4 HS3 HH3 HB3
    go_upto_region 5 with (fail)
    have HH5 : Hid (Held (w4.alloc (dobj R)) [(w4.heap.size, dobj R), (G5, dobj R), (G0, dobj s)]) := Lib.hid (HH4.out.alloc (dobj R))
    have HB5 : Hid (Below w.heap.size w (w4.alloc (dobj R))) := Lib.hid (HB4.out.alloc HB4.out.size _)
    obtain ⟨G7, hG⟩ : ∃ G, G = w4.heap.size := ⟨_, rfl⟩
    rw [← hG] at HH5 ⊢
    clear hG HH4 HB4
    generalize w4.alloc (dobj R) = w5 at *
    have p0 := cell_of_row w5 G0 0 _ _ _ HH5.out.2.2.1
    have p1 := cell_of_row w5 G0 1 _ _ _ HH5.out.2.2.1
    have p2 := cell_of_row w5 G0 2 _ _ _ HH5.out.2.2.1
    have p3 := cell_of_row w5 G0 3 _ _ _ HH5.out.2.2.1
    have p4 := cell_of_row w5 G0 4 _ _ _ HH5.out.2.2.1
    simp only [List.getElem?_toArray, List.getElem?_cons_zero, List.getElem?_cons_succ] at p0 p1 p2 p3 p4
    go_wp2_with (fail)
    refine (delimWrite s w5).mono ?_
    rintro e w8 ⟨rfl, hb8⟩
    have HH8 := Lib.hid (HH5.out.below hb8)
    have HB8 : Hid (Below w.heap.size w w8) := Lib.hid (HB5.out.trans (hb8.mono HB5.out.size))
    clear hb8 HH5 HB5 p0 p1 p2 p3 p4
    go_wp2_with (fail)
    have Lp : ∀ (k : Nat) (x : Value) (cs : Array Value), w8.heap[G0]? = some (.cells cs 24) → cs[k]? = some x → ∀ n : Later w8, n.u.cell? ⟨G0, k, none⟩ = some x := fun k x cs hr hx n => by
      rw [cell_of_row _ _ _ _ _ _ (by rw [n.h.block _ (Array.getElem?_eq_some_iff.1 hr).1]; exact hr)]; exact hx
    have p0 := Lp 0 _ _ HH8.out.2.2.1 rfl
    have p1 := Lp 1 _ _ HH8.out.2.2.1 rfl
    have p2 := Lp 2 _ _ HH8.out.2.2.1 rfl
    have p3 := Lp 3 _ _ HH8.out.2.2.1 rfl
    have p4 := Lp 4 _ _ HH8.out.2.2.1 rfl
    clear Lp
    have Lq : ∀ (k : Nat) (x : Value) (cs : Array Value), w8.heap[G5]? = some (.cells cs 24) → cs[k]? = some x → ∀ n : Later w8, n.u.cell? ⟨G5, k, none⟩ = some x := fun k x cs hr hx n => by
      rw [cell_of_row _ _ _ _ _ _ (by rw [n.h.block _ (Array.getElem?_eq_some_iff.1 hr).1]; exact hr)]; exact hx
    have q0 := Lq 0 _ _ HH8.out.2.1 rfl
    have q1 := Lq 1 _ _ HH8.out.2.1 rfl
    have q2 := Lq 2 _ _ HH8.out.2.1 rfl
    have q3 := Lq 3 _ _ HH8.out.2.1 rfl
    have q4 := Lq 4 _ _ HH8.out.2.1 rfl
    clear Lq
    have Lr : ∀ (k : Nat) (x : Value) (cs : Array Value), w8.heap[G7]? = some (.cells cs 24) → cs[k]? = some x → ∀ n : Later w8, n.u.cell? ⟨G7, k, none⟩ = some x := fun k x cs hr hx n => by
      rw [cell_of_row _ _ _ _ _ _ (by rw [n.h.block _ (Array.getElem?_eq_some_iff.1 hr).1]; exact hr)]; exact hx
    have r0 := Lr 0 _ _ HH8.out.1 rfl
    have r1 := Lr 1 _ _ HH8.out.1 rfl
    have r2 := Lr 2 _ _ HH8.out.1 rfl
    have r3 := Lr 3 _ _ HH8.out.1 rfl
    have r4 := Lr 4 _ _ HH8.out.1 rfl
    clear Lr
    have heq := fun w => delims_same R w
    have hee : (E != E) = false := by simp
    have hgg : (s.good != s.good) = false := by simp
    refine region_later (by kernel_rfl) (by kernel_rfl) ?_
    repeat (go_big_quiet_step ((first
      | (go_at_call 6; exact Calls.later (delimAlive _))
      | (go_at_call 10; exact Calls.later (delimRight s _))
      | (go_at_call 11; exact Calls.later (refRight s _)))))
    refine wpQuiet_nil ?_
    intro nq
    have HH9 := Lib.hid (HH8.out.below nq.h)
    have HB9 : Hid (Below w.heap.size w nq.u) := Lib.hid (HB8.out.trans (nq.h.mono HB8.out.size))
    clear p0 p1 p2 p3 p4 q0 q1 q2 q3 q4 r0 r1 r2 r3 r4 heq hee HH8 HB8
    generalize nq.u = w9 at *
    clear nq
    have p0 := cell_of_row w9 G0 0 _ _ _ HH9.out.2.2.1
    have p1 := cell_of_row w9 G0 1 _ _ _ HH9.out.2.2.1
    have p2 := cell_of_row w9 G0 2 _ _ _ HH9.out.2.2.1
    have p3 := cell_of_row w9 G0 3 _ _ _ HH9.out.2.2.1
    have p4 := cell_of_row w9 G0 4 _ _ _ HH9.out.2.2.1
    simp only [List.getElem?_toArray, List.getElem?_cons_zero, List.getElem?_cons_succ] at p0 p1 p2 p3 p4
    go_wp2_with (fail)
    refine (refRight s w9).mono ?_
    rintro e w10 ⟨rfl, hb10⟩
    have HH10 := Lib.hid (HH9.out.below hb10)
    have HB10 : Hid (Below w.heap.size w w10) := Lib.hid (HB9.out.trans (hb10.mono HB9.out.size))
    clear hb10 HH9 HB9 p0 p1 p2 p3 p4
    cases hgd : s.good
    · have HW : Hid (writeD s = ([], 11)) := Lib.hid (by simp [writeD, hgd])
      rw [HW.out]
      go_wp2_with (fail)
      go_ret
      exact ⟨rfl, HB10.out⟩
    · have HW : Hid (writeD s = ([77, 83, 72] ++ s.l, 0)) := Lib.hid (by simp [writeD, hgd])
      rw [HW.out]
      obtain ⟨sl, hsl⟩ : ∃ y, y = [77, 83, 72] ++ s.l := ⟨_, rfl⟩
      rw [← hsl]
      have HSL := Lib.hid hsl
      clear HW hsl
      have p0 := cell_of_row w10 G0 0 _ _ _ HH10.out.2.2.1
      have p1 := cell_of_row w10 G0 1 _ _ _ HH10.out.2.2.1
      have p2 := cell_of_row w10 G0 2 _ _ _ HH10.out.2.2.1
      have p3 := cell_of_row w10 G0 3 _ _ _ HH10.out.2.2.1
      have p4 := cell_of_row w10 G0 4 _ _ _ HH10.out.2.2.1
      simp only [List.getElem?_toArray, List.getElem?_cons_zero, List.getElem?_cons_succ] at p0 p1 p2 p3 p4
      go_wp2_with (fail)
      refine (refWrite s w10).mono ?_
      rw [← HSL.out]
      rintro e w11 ⟨rfl, hb11⟩
      have HB11 : Hid (Below w.heap.size w w11) := Lib.hid (HB10.out.trans (hb11.mono HB10.out.size))
      clear hb11 HH10 HB10 p0 p1 p2 p3 p4
      go_wp2_with (fail)
      go_ret
      exact ⟨rfl, HB11.out⟩
end Go.Proofs.Ytkniednjchnncab
