/- DeframeResets, walked. -/
import Derived.Test.YtbbamdcdpololaaDfRead
import Derived.Deep.RegionHeld3
namespace Go.Proofs.Ytbbamdcdpololaa
open Go.RowKit

/-- with counts of before -/
def St.plus (s z : St) : St := { s with junk := z.junk + s.junk, over := z.over + s.over, broken := z.broken + s.broken }
theorem enter_plus (s z : St) : enterS (s.plus z) = (enterS s).plus z := rfl
theorem leave_plus (s z : St) : leaveS (s.plus z) = (leaveS s).plus z := rfl
theorem lay_plus (m : Nat) (s z : St) (bs : List UInt8) : layS m (s.plus z) bs = (layS m s bs).plus z := by
  unfold layS
  rw [show (s.plus z).fr = s.fr from rfl]
  by_cases h : m < s.fr.length + bs.length
  · rw [if_pos h, if_pos h]
    simp [St.plus, leaveS, Nat.add_assoc]
  · rw [if_neg h, if_neg h]
    rfl
theorem step_plus (m : Nat) (s z : St) (c : UInt8) : stepD m (s.plus z) c = ((stepD m s c).1.plus z, (stepD m s c).2) := by
  have e1 := lay_plus m s z
  have e2 := lay_plus m { s with md := .inn } z
  unfold stepD
  rw [show (s.plus z).md = s.md from rfl]
  cases s.md <;> simp only
  · split
    · simp [enter_plus]
    · simp [St.plus, Nat.add_assoc]
  · split
    · simp [St.plus, enterS, Nat.add_assoc]
    · split
      · simp [St.plus]
      · simp [e1]
  · split
    · rfl
    · split
      · simp [St.plus, enterS, Nat.add_assoc]
      · split
        · simp [e1]
        · have := e2 [28, c]
          simp only [St.plus] at this
          simp [St.plus, this]
theorem eat_plus (m : Nat) (s z : St) (X : List (List UInt8)) (c : UInt8) : eatD m (s.plus z, X) c = ((eatD m (s, X) c).1.plus z, (eatD m (s, X) c).2) := by
  simp only [eatD, step_plus]
  split
  · simp only [leave_plus]; rfl
  · rfl
theorem foldl_plus (m : Nat) (z : St) : ∀ (l : List UInt8) (s : St) (X : List (List UInt8)), l.foldl (eatD m) (s.plus z, X) = ((l.foldl (eatD m) (s, X)).1.plus z, (l.foldl (eatD m) (s, X)).2)
  | [], s, X => rfl
  | c :: l, s, X => by
    rw [List.foldl_cons, List.foldl_cons, eat_plus, foldl_plus m z l]
theorem feed_left (m : Nat) (z : St) (l : List UInt8) : feedD m (leaveS z) l = ((feedD m newS l).1.plus z, (feedD m newS l).2) := by
  have h : leaveS z = newS.plus z := by simp [leaveS, newS, St.plus]
  rw [h]
  exact foldl_plus m z l newS []
theorem held_plus (s z : St) : heldD (s.plus z) = heldD s := rfl

theorem Df.drew {B D m : Nat} {O : Option Nat} {s : St} {w : World} (h : Df B D O m s w) : Df B D O m s w.drew := h.below (Below.refl _ w).drew

set_option maxHeartbeats 8000000 in
set_option maxRecDepth 100000 in
theorem deframeResets_walk (n : Int) (A : Option Addr) (k c : Nat) (l : List UInt8) (A2 : Option Addr) (k2 c2 : Nat) (l2 : List UInt8) (w : World) (_wf : (Lit.int .i64 n).wf = true) (hB : Bs w A k c l) (_hR : c ≤ 140737488351232) (hI : Bs w A2 k2 c2 l2) (_hR2 : c2 ≤ 140737488351232) :
    Calls Try.prog 4 #[.int .i64 n, .slice A k c, .slice A2 k2 c2] w (True_ w) := by
  obtain ⟨m, hm1, hm2, hmost⟩ := dMost n
  have hmax := hB.nmax
  have hmax2 := hI.nmax
  have HBS := Lib.hid hB
  have HI := Lib.hid hI
  have HMO := Lib.hid hmost
  clear _wf hB _hR hmost hI _hR2
  go_enter Try.func4, Try.ntmps4
  go_wp2_with (fail)
  refine (alive05 w).mono ?_
  rintro e w0 ⟨rfl, hb⟩
  have HB0 := Lib.hid hb
  clear hb
  by_cases hlong : (2000 : Int) < (k : Int)
  · go_wp2_with (fail)
    refine (alive05 w0).mono ?_
    rintro e w3 ⟨rfl, hb⟩
    have HB3 : Hid (Below w.heap.size w w3) := Lib.hid (HB0.out.trans (hb.mono HB0.out.size))
    clear hb
    go_wp2_with (fail)
    go_ret
    exact ⟨rfl, HB3.out⟩
  by_cases hlong2 : (2000 : Int) < (k2 : Int)
  · go_wp2_with (fail)
    refine (alive05 w0).mono ?_
    rintro e w3 ⟨rfl, hb⟩
    have HB3 : Hid (Below w.heap.size w w3) := Lib.hid (HB0.out.trans (hb.mono HB0.out.size))
    clear hb
    go_wp2_with (fail)
    go_ret
    exact ⟨rfl, HB3.out⟩
  have HK : Hid (k ≤ 2000 ∧ k2 ≤ 2000) := Lib.hid (by omega)
  go_wp2_with (fail)
  refine (HMO.out w0).mono ?_
  rintro e w' ⟨rfl, rfl⟩
  go_wp2_with (fail)
  refine (dNew m hm1 (by omega) w0).mono ?_
  rintro e w1 ⟨D, rfl, hd, hb⟩
  have HD1 := Lib.hid hd
  have HB1 : Hid (Below w.heap.size w w1) := Lib.hid (HB0.out.trans (hb.mono HB0.out.size))
  have HW0 : Hid (w.heap.size ≤ w0.heap.size ∧ w0.heap.size ≤ w1.heap.size) := Lib.hid ⟨HB0.out.size, hb.size⟩
  clear hd hb
  go_wp2_with (fail)
  have hbs1 := HBS.out.below HB1.out
  refine (dFeed w0.heap.size D none m 0 newS w1 HD1.out HW0.out.2 (by omega) (new_up m) A k c l hbs1 (fun h0 b hb hs => by
    obtain ⟨b', o', e, hlt, _⟩ := HBS.out.at_ h0
    rw [e] at hb
    injection hb with hb
    subst hb
    rcases hs with hs | hs
    · have := HD1.out.base; have := HW0.out.1; simp at hs; omega
    · cases hs) (by have := HK.out; omega)).mono ?_
  rintro e w2 ⟨v0, O2, rfl, hr, hd2, hm2⟩
  have hup := feed_up (new_up m) l l.length (Nat.le_refl _)
  have hsh := feed_short (new_up m) l l.length (Nat.le_refl _)
  rw [List.take_length] at hup hsh
  obtain ⟨A0, c0, rfl, _⟩ := hr.rd (fun x hx => by have := hsh x hx; simp only [maxLen]; omega)
  obtain ⟨P1, hP1⟩ : ∃ P1, P1 = feedD m newS l := ⟨_, rfl⟩
  rw [← hP1] at hd2 hup
  have HP1 := Lib.hid hP1
  have HD2 := Lib.hid hd2
  have HB2 : Hid (Below w.heap.size w w2) := Lib.hid (HB1.out.trans ((hm2.low HD1.out HW0.out.2).mono HW0.out.1))
  have HS2 : Hid (w0.heap.size ≤ w2.heap.size) := Lib.hid (Nat.le_trans HW0.out.2 hm2.1.size)
  have hU : (P1.1.junk : Int) ≤ 2000 ∧ (P1.1.over : Int) ≤ 2000 ∧ (P1.1.broken : Int) ≤ 2000 := by
    have := hup.junk; have := hup.over; have := hup.broken; have := HBS.out.len; have := HK.out; omega
  obtain ⟨hu1, hu2, hu3⟩ := hU
  clear hr hd2 hm2 hup hsh hP1 hbs1
  go_wp2_with (fail)
  refine (dReset w0.heap.size D O2 m P1.1 w2 HD2.out).mono ?_
  rintro e w3 ⟨rfl, O3, hd3, hm3⟩
  have HD3 := Lib.hid hd3
  have HB3 : Hid (Below w.heap.size w w3) := Lib.hid (HB2.out.trans ((hm3.low HD2.out HS2.out).mono HW0.out.1))
  have HS3 : Hid (w0.heap.size ≤ w3.heap.size) := Lib.hid (Nat.le_trans HS2.out hm3.1.size)
  clear hd3 hm3 HD1 HD2
  go_wp2_with (fail)
  refine (HMO.out w3).mono ?_
  rintro e w' ⟨rfl, rfl⟩
  go_wp2_with (fail)
  refine (refRead m (by omega) A k c l w3 (HBS.out.below HB3.out) (by have := HK.out; omega)).mono ?_
  rintro e w4 ⟨A4, c4, rfl, hrd4, hb4⟩
  rw [← HP1.out]
  have HD4 := Lib.hid (HD3.out.below hb4)
  have HB4 : Hid (Below w.heap.size w w4) := Lib.hid (HB3.out.trans (hb4.mono HB3.out.size))
  have HS4 : Hid (w0.heap.size ≤ w4.heap.size) := Lib.hid (Nat.le_trans HS3.out hb4.size)
  clear hrd4 hb4 HD3
  have hrow := heap_alloc_new w4 (.cells (told (.slice A4 P1.2.length c4) (heldD P1.1) P1.1.junk P1.1.over P1.1.broken) 34)
  have hb5 : Below w4.heap.size w4 (w4.alloc (.cells (told (.slice A4 P1.2.length c4) (heldD P1.1) P1.1.junk P1.1.over P1.1.broken) 34)) := (Below.refl _ w4).alloc (Nat.le_refl _) _
  have HD5 := Lib.hid (HD4.out.below hb5)
  have HB5 : Hid (Below w.heap.size w (w4.alloc (.cells (told (.slice A4 P1.2.length c4) (heldD P1.1) P1.1.junk P1.1.over P1.1.broken) 34))) := Lib.hid (HB4.out.trans (hb5.mono HB4.out.size))
  have HS5 : Hid (w0.heap.size ≤ (w4.alloc (.cells (told (.slice A4 P1.2.length c4) (heldD P1.1) P1.1.junk P1.1.over P1.1.broken) 34)).heap.size) := Lib.hid (Nat.le_trans HS4.out hb5.size)
  have HSS : Hid (w4.heap.size < (w4.alloc (.cells (told (.slice A4 P1.2.length c4) (heldD P1.1) P1.1.junk P1.1.over P1.1.broken) 34)).heap.size) := Lib.hid (by simp)
  have HSB : Hid (¬ dS D O3 w4.heap.size) := Lib.hid (fun hs => by
    rcases hs with hs | hs
    · have := HD4.out.lt; omega
    · have := (HD4.out.own _ hs.symm).2; omega)
  go_wp2_with (fail)
  generalize w4.heap.size = S at *
  generalize (w4.alloc (.cells (told (.slice A4 P1.2.length c4) (heldD P1.1) P1.1.junk P1.1.over P1.1.broken) 34)) = w5 at *
  have s2 := cell_of_row w5 S 2 _ _ _ hrow
  have s3 := cell_of_row w5 S 3 _ _ _ hrow
  have s4 := cell_of_row w5 S 4 _ _ _ hrow
  simp only [told, List.getElem?_toArray, List.getElem?_cons_zero, List.getElem?_cons_succ] at s2 s3 s4
  clear hb5 HD4 HB4 HS4
  have HRW := Lib.hid hrow
  clear hrow
  go_region_held3 (fun w' => w'.cell? ⟨S, 2, none⟩ = some (.int .i64 (P1.1.junk : Int)) ∧ w'.cell? ⟨S, 3, none⟩ = some (.int .i64 (P1.1.over : Int)) ∧ w'.cell? ⟨S, 4, none⟩ = some (.int .i64 (P1.1.broken : Int))) (go_keep)
    (first
    | (go_at_call 16; refine (dHeld w0.heap.size D O3 m (leaveS P1.1) _ HD5.out.drew (by simp [leaveS])).mono ?_; rintro e w' ⟨rfl, rfl⟩; rw [show heldD (leaveS P1.1) = 0 from rfl])
    | (go_at_call 17; refine (dJunk w0.heap.size D O3 m (leaveS P1.1) _ HD5.out.drew).mono ?_; rintro e w' ⟨rfl, rfl⟩; rw [show (leaveS P1.1).junk = P1.1.junk from rfl])
    | (go_at_call 18; refine (dOver w0.heap.size D O3 m (leaveS P1.1) _ HD5.out.drew).mono ?_; rintro e w' ⟨rfl, rfl⟩; rw [show (leaveS P1.1).over = P1.1.over from rfl])
    | (go_at_call 19; refine (dBroken w0.heap.size D O3 m (leaveS P1.1) _ HD5.out.drew).mono ?_; rintro e w' ⟨rfl, rfl⟩; rw [show (leaveS P1.1).broken = P1.1.broken from rfl]))
  go_wp2_with (fail)
  have hbs5 := HI.out.below (HB5.out.drew)
  refine (dFeed w0.heap.size D O3 m 2000 (leaveS P1.1) w5.drew HD5.out.drew HS5.out (by omega) ⟨by simp only [leaveS]; omega, by simp only [leaveS]; omega, by simp only [leaveS]; omega, Nat.zero_le _⟩ A2 k2 c2 l2 hbs5 (fun h0 b hb hs => by
    obtain ⟨b', o', e, hlt, _⟩ := HI.out.at_ h0
    rw [e] at hb
    injection hb with hb
    subst hb
    rcases hs with hs | hs
    · have := HD5.out.base; have := HW0.out.1; simp at hs; omega
    · have := (HD5.out.own b' hs.symm).1; have := HW0.out.1; omega) (by have := HK.out; omega)).mono ?_
  rintro e w6 ⟨v6, O6, rfl, hr6, hd6, hm6⟩
  have hup := feed_up (new_up m) l2 l2.length (Nat.le_refl _)
  have hsh := feed_short (new_up m) l2 l2.length (Nat.le_refl _)
  rw [List.take_length] at hup hsh
  rw [feed_left] at hr6 hd6
  simp only at hr6 hd6
  obtain ⟨A6, c6, rfl, hrd6⟩ := hr6.rd (fun x hx => by have := hsh x hx; simp only [maxLen]; omega)
  obtain ⟨P2, hP2⟩ : ∃ P2, P2 = feedD m newS l2 := ⟨_, rfl⟩
  rw [← hP2] at hd6 hup hrd6 ⊢
  have HP2 := Lib.hid hP2
  have HD6 := Lib.hid hd6
  have HRD6 := Lib.hid hrd6
  have HB6 : Hid (Below w.heap.size w w6) := Lib.hid (HB5.out.drew.trans ((hm6.low HD5.out.drew HS5.out).mono HW0.out.1))
  have HS6 : Hid (w0.heap.size ≤ w6.heap.size) := Lib.hid (Nat.le_trans HS5.out hm6.1.size)
  have HRW6 := Lib.hid (hm6.1.row (w := w5.drew) HRW.out HSB.out)
  have HSS6 : Hid (S < w6.heap.size) := Lib.hid (Nat.lt_of_lt_of_le HSS.out hm6.1.size)
  have hU : (P2.1.junk : Int) ≤ 2000 ∧ (P2.1.over : Int) ≤ 2000 ∧ (P2.1.broken : Int) ≤ 2000 := by
    have := hup.junk; have := hup.over; have := hup.broken; have := HI.out.len; have := HK.out; omega
  obtain ⟨ht1, ht2, ht3⟩ := hU
  have hfr6 : P2.1.fr.length ≤ 200 := by have := hup.fr; omega
  have HFR6 := Lib.hid hfr6
  clear hr6 hd6 hm6 hup hsh hP2 hbs5 hrd6 hfr6 s2 s3 s4 HD5 HB5 HS5 HRW HSS HSB
  go_wp2_with (fail)
  refine (HMO.out w6).mono ?_
  rintro e w' ⟨rfl, rfl⟩
  go_wp2_with (fail)
  refine (refRead m (by omega) A2 k2 c2 l2 w6 (HI.out.below HB6.out) (by have := HK.out; omega)).mono ?_
  rintro e w7 ⟨A7, c7, rfl, hrd7, hb7⟩
  rw [← HP2.out] at hrd7 ⊢
  have hb8 : Below w7.heap.size w7 (w7.alloc (.cells (told (.slice A7 P2.2.length c7) (heldD P2.1) P2.1.junk P2.1.over P2.1.broken) 34)) := (Below.refl _ w7).alloc (Nat.le_refl _) _
  have hb78 : Below w6.heap.size w6 (w7.alloc (.cells (told (.slice A7 P2.2.length c7) (heldD P2.1) P2.1.junk P2.1.over P2.1.broken) 34)) := hb7.trans (hb8.mono hb7.size)
  have HD8 := Lib.hid (HD6.out.below hb78)
  have HB8 : Hid (Below w.heap.size w (w7.alloc (.cells (told (.slice A7 P2.2.length c7) (heldD P2.1) P2.1.junk P2.1.over P2.1.broken) 34))) := Lib.hid (HB6.out.trans (hb78.mono HB6.out.size))
  have HRD8 := Lib.hid (HRD6.out.below hb78)
  have HRD7 := Lib.hid (hrd7.below hb8)
  have hrow8 := heap_alloc_new w7 (.cells (told (.slice A7 P2.2.length c7) (heldD P2.1) P2.1.junk P2.1.over P2.1.broken) 34)
  have hsow8 := (hb78.block S HSS6.out).trans HRW6.out
  have HSS8 : Hid (w6.heap.size ≤ w7.heap.size) := Lib.hid hb7.size
  clear hrd7 hb7 HD6 HB6 HRD6 HRW6 hb8 hb78
  go_wp2_with (fail)
  generalize w7.heap.size = T at *
  generalize (w7.alloc (.cells (told (.slice A7 P2.2.length c7) (heldD P2.1) P2.1.junk P2.1.over P2.1.broken) 34)) = w8 at *
  have s2 := cell_of_row w8 S 2 _ _ _ hsow8
  have s3 := cell_of_row w8 S 3 _ _ _ hsow8
  have s4 := cell_of_row w8 S 4 _ _ _ hsow8
  have t0 := cell_of_row w8 T 0 _ _ _ hrow8
  have t1 := cell_of_row w8 T 1 _ _ _ hrow8
  have t2 := cell_of_row w8 T 2 _ _ _ hrow8
  have t3 := cell_of_row w8 T 3 _ _ _ hrow8
  have t4 := cell_of_row w8 T 4 _ _ _ hrow8
  simp only [told, List.getElem?_toArray, List.getElem?_cons_zero, List.getElem?_cons_succ] at s2 s3 s4 t0 t1 t2 t3 t4
  have HSL : Hid (S < w8.heap.size) := Lib.hid (Array.getElem?_eq_some_iff.1 hsow8).1
  have HTL : Hid (T < w8.heap.size) := Lib.hid (Array.getElem?_eq_some_iff.1 hrow8).1
  clear hrow8 hsow8
  have hw1 : IntKind.i64.wrap ((P1.1.junk : Int) + (P2.1.junk : Int)) = (P1.1.junk : Int) + (P2.1.junk : Int) := by rw [IntKind.wrap_i64]; omega
  have hw2 : IntKind.i64.wrap ((P1.1.over : Int) + (P2.1.over : Int)) = (P1.1.over : Int) + (P2.1.over : Int) := by rw [IntKind.wrap_i64]; omega
  have hw3 : IntKind.i64.wrap ((P1.1.broken : Int) + (P2.1.broken : Int)) = (P1.1.broken : Int) + (P2.1.broken : Int) := by rw [IntKind.wrap_i64]; omega
  go_region_held3 (fun w' => w'.cell? ⟨T, 0, none⟩ = some (.slice A7 P2.2.length c7) ∧ w'.cell? ⟨S, 2, none⟩ = some (.int .i64 (P1.1.junk : Int)) ∧ w'.cell? ⟨S, 3, none⟩ = some (.int .i64 (P1.1.over : Int)) ∧ w'.cell? ⟨S, 4, none⟩ = some (.int .i64 (P1.1.broken : Int)) ∧ w'.cell? ⟨T, 1, none⟩ = some (.int .i64 (heldD P2.1 : Int)) ∧ w'.cell? ⟨T, 2, none⟩ = some (.int .i64 (P2.1.junk : Int)) ∧ w'.cell? ⟨T, 3, none⟩ = some (.int .i64 (P2.1.over : Int)) ∧ w'.cell? ⟨T, 4, none⟩ = some (.int .i64 (P2.1.broken : Int))) (go_keep)
    (first
    | (go_at_call 15; refine (same05 A6 A7 P2.2.length c6 c7 P2.2 w8.drew (HRD8.out.below (Below.refl _ _).drew) (HRD7.out.below (Below.refl _ _).drew)).mono ?_; rintro e w9 ⟨rfl, hb9⟩; have HD9 := Lib.hid (HD8.out.drew.below hb9); have HB9 : Hid (Below w.heap.size w w9) := Lib.hid (HB8.out.drew.trans (hb9.mono HB8.out.size)); have t0' := (hb9.cell (p := ⟨T, 0, none⟩) HTL.out).trans t0; have s2' := (hb9.cell (p := ⟨S, 2, none⟩) HSL.out).trans s2; have s3' := (hb9.cell (p := ⟨S, 3, none⟩) HSL.out).trans s3; have s4' := (hb9.cell (p := ⟨S, 4, none⟩) HSL.out).trans s4; have t1' := (hb9.cell (p := ⟨T, 1, none⟩) HTL.out).trans t1; have t2' := (hb9.cell (p := ⟨T, 2, none⟩) HTL.out).trans t2; have t3' := (hb9.cell (p := ⟨T, 3, none⟩) HTL.out).trans t3; have t4' := (hb9.cell (p := ⟨T, 4, none⟩) HTL.out).trans t4)
    | (go_at_call 16; refine (dHeld w0.heap.size D O6 m (P2.1.plus P1.1) _ HD9.out (by have := HFR6.out; show P2.1.fr.length ≤ 1000000; omega)).mono ?_; rintro e w' ⟨rfl, rfl⟩; rw [held_plus])
    | (go_at_call 17; refine (dJunk w0.heap.size D O6 m (P2.1.plus P1.1) _ HD9.out).mono ?_; rintro e w' ⟨rfl, rfl⟩; rw [show ((P2.1.plus P1.1).junk : Int) = (P1.1.junk : Int) + (P2.1.junk : Int) by simp [St.plus]])
    | (go_at_call 18; refine (dOver w0.heap.size D O6 m (P2.1.plus P1.1) _ HD9.out).mono ?_; rintro e w' ⟨rfl, rfl⟩; rw [show ((P2.1.plus P1.1).over : Int) = (P1.1.over : Int) + (P2.1.over : Int) by simp [St.plus]])
    | (go_at_call 19; refine (dBroken w0.heap.size D O6 m (P2.1.plus P1.1) _ HD9.out).mono ?_; rintro e w' ⟨rfl, rfl⟩; rw [show ((P2.1.plus P1.1).broken : Int) = (P1.1.broken : Int) + (P2.1.broken : Int) by simp [St.plus]]))
  go_wp2_with (fail)
  go_ret
  exact ⟨rfl, HB9.out⟩
end Go.Proofs.Ytbbamdcdpololaa
