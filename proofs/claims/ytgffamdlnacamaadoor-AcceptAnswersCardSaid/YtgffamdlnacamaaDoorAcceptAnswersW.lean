/- AcceptAnswers, walked; FrameU laid into it. -/
import Derived.Test.YtgffamdlnacamaaDoorAccP
import Derived.Test.YtgffamdlnacamaaDoorFrame2

/- Laid together: Frame3, Frame4 as far as refGood, FrameMath as far as wrap_get. -/

/- Layer 4: Unwrap. -/
namespace Go.Proofs.YtgffamdlnacamaaDoor
open Go.RowKit

/-- whether l is a frame -/
def isFrame (l : List UInt8) : Bool :=
  decide (3 ≤ l.length) && (l[0]? == some 11) && (l[l.length - 2]? == some 28) && (l[l.length - 1]? == some 13) && good ((l.take (l.length - 2)).drop 1)
def unwrapErr (l : List UInt8) : Int := if l.length < 3 then 7 else if isFrame l then 0 else 10
def unwrapGet (l : List UInt8) : List UInt8 := if isFrame l then (l.take (l.length - 2)).drop 1 else []

theorem unwrap_short {l : List UInt8} (h : l.length < 3) : unwrapErr l = 7 ∧ unwrapGet l = [] := by
  have hf : isFrame l = false := by unfold isFrame; rw [decide_eq_false (by omega)]; rfl
  exact ⟨by unfold unwrapErr; rw [if_pos h], by unfold unwrapGet; rw [hf]; rfl⟩
theorem unwrap_not {l : List UInt8} (h : 3 ≤ l.length) (hf : isFrame l = false) : unwrapErr l = 10 ∧ unwrapGet l = [] :=
  ⟨by unfold unwrapErr; rw [if_neg (by omega), hf]; rfl, by unfold unwrapGet; rw [hf]; rfl⟩
theorem unwrap_is {l : List UInt8} (h : 3 ≤ l.length) (hf : isFrame l = true) : unwrapErr l = 0 ∧ unwrapGet l = (l.take (l.length - 2)).drop 1 :=
  ⟨by unfold unwrapErr; rw [if_neg (by omega), hf]; rfl, by unfold unwrapGet; rw [hf]; rfl⟩

set_option maxRecDepth 100000 in
theorem frameUnwrap_short (A : Option Addr) (n c : Nat) (w : World) (hn : n < 3) :
    Calls Tryd.prog 16 #[.slice A n c] w (RetBs 7 [] w) := by
  go_enter Tryd.func16, Tryd.ntmps16
  go_wp2
  go_ret2
  exact ⟨none, 0, rfl, Bs.none_ _, Below.refl _ _⟩

set_option maxRecDepth 100000 in
set_option maxHeartbeats 1000000 in
theorem frameUnwrap_long (A : Option Addr) (n c : Nat) (l : List UInt8) (w : World) (hS : Signs w) (hB : Bs w A n c l) (hn : 3 ≤ n) (hN : n ≤ 140737488351232) :
    Calls Tryd.prog 16 #[.slice A n c] w (RetBs (unwrapErr l) (unwrapGet l) w) := by
  have hlen := hB.len
  have hmax := hB.nmax
  have hle := hB.le
  have hcm := hB.max
  obtain ⟨b, o, rfl, hb, hc⟩ := hB.at_ (by omega)
  obtain ⟨x0, e0⟩ : ∃ x, l[0]? = some x := ⟨_, List.getElem?_eq_getElem (by omega)⟩
  obtain ⟨x1, e1⟩ : ∃ x, l[l.length - 2]? = some x := ⟨_, List.getElem?_eq_getElem (by omega)⟩
  obtain ⟨x2, e2⟩ : ∃ x, l[l.length - 1]? = some x := ⟨_, List.getElem?_eq_getElem (by omega)⟩
  have c0 := hc _ _ e0
  have c1 := hc _ _ e1
  have c2 := hc _ _ e2
  have hfr : isFrame l = ((x0 == 11) && (x1 == 28) && (x2 == 13) && good ((l.take (l.length - 2)).drop 1)) := by
    unfold isFrame
    rw [decide_eq_true (by omega), e0, e1, e2]
    rfl
  have hin := hB.cut (i := 1) (j := n - 2) (by omega) (by omega)
  have HF := Lib.hid hfr
  rw [hlen] at c1 c2
  rw [Nat.add_zero] at c0
  rw [if_neg (by omega), Option.map_some, Addr.add_lit] at hin
  clear e0 e1 e2 hfr
  have HL := Lib.hid hlen
  have HS := Lib.hid hS
  have hS' := hS
  have HB := Lib.hid hB
  obtain ⟨s0, s1, s2⟩ := hS
  have hw1 : IntKind.i64.wrap ((n : Int) - 2) = (n : Int) - 2 := IntWalk.i64_in _ (by omega)
  have hw2 : ((n : Int) - 2).toNat = n - 2 := by omega
  have hw3 : (0 : Int) ≤ (n : Int) - 2 := by omega
  have hw4 : (n : Int) - 2 < (n : Int) := by omega
  have hw5 : IntKind.i64.wrap ((n : Int) - 2 + 1) = (n : Int) - 1 := by rw [IntWalk.i64_in _ (by omega)]; omega
  have hw6 : ((n : Int) - 1).toNat = n - 1 := by omega
  have hw7 : (0 : Int) ≤ (n : Int) - 1 := by omega
  have hw8 : (n : Int) - 1 < (n : Int) := by omega
  have hn3 : ¬ (n : Int) < 3 := by omega
  have h0n : (0 : Int) < (n : Int) := by omega
  clear hlen hB hc
  by_cases h0 : x0 = 11
  · subst h0
    by_cases h1 : x1 = 28
    · subst h1
      by_cases h2 : x2 = 13
      · subst h2
        have hmk : ∀ W : World, (Instr.makeSlice 22 (.int .i64 ((n : Int) - 2 - 1)) (.int .i64 ((n : Int) - 2 - 1))).run Tryd.prog W = .ok (.slice (some ⟨W.heap.size, 0, none⟩) (n - 3) (n - 3)) (W.alloc (.cells (Array.replicate (n - 3) (.int .u8 0)) 5)) := by
          intro W
          rw [show ((n : Int) - 2 - 1) = ((n - 3 : Nat) : Int) from by omega]
          exact run_mk _ _ Tryd.underlying22 byteInfoF (n - 3) (n - 3) (by omega) (by omega) W
        cases hg : good ((l.take (n - 2)).drop 1) with
        | false =>
          have hfin := unwrap_not (l := l) (by have := HL.out; omega) (by rw [HF.out, HL.out, hg]; simp)
          rw [hfin.1, hfin.2]
          clear hfin
          have HG := Lib.hid hg
          clear hg
          go_enter Tryd.func16, Tryd.ntmps16
          go_wp2
          go_quiet (fail)
          clear hw1 hw2 hw3 hw4 hw5 hw6 hw7 hw8
          go_wp2_with (fail)
          refine (frameGood_b _ _ _ _ (w.drewN nq) (hS'.drewN nq) (hin.drewN nq) false HG.out).mono ?_
          rintro e w1 ⟨rfl, hb1⟩
          go_wp2
          go_ret2
          exact ⟨none, 0, rfl, Bs.none_ _, (drawN_below (Below.refl _ _) nq).trans hb1⟩
        | true =>
          have hfin := unwrap_is (l := l) (by have := HL.out; omega) (by rw [HF.out, HL.out, hg]; simp)
          rw [hfin.1, hfin.2, HL.out]
          clear hfin
          have HG := Lib.hid hg
          clear hg
          go_enter Tryd.func16, Tryd.ntmps16
          go_wp2
          go_quiet (fail)
          clear hw1 hw2 hw3 hw4 hw5 hw6 hw7 hw8
          go_wp2_with (fail)
          refine (frameGood_b _ _ _ _ (w.drewN nq) (hS'.drewN nq) (hin.drewN nq) true HG.out).mono ?_
          rintro e w1 ⟨rfl, hb1⟩
          have hB1 := Lib.hid ((hin.drewN nq).below hb1)
          clear hin
          go_wp2_with (with_reducible show wpList _ _ _ _ _ _; refine wpList_cpy (o := ⟨some 49, _, _, _, _, _⟩) rfl (.tmp 45) (.tmp 48) 22 22 rfl 5 Tryd.underlying22 byteInfoF w1.heap.size (n - 3) (n - 3) rfl (List.replicate (n - 3) (.int .u8 0)) 5 (heap_new_rep _ _ _ _) List.length_replicate _ _ _ ((l.take (n - 2)).drop 1) rfl (hB1.out.alloc _) (by omega) ?_; intro w2 hw2 hb2; have HW2 := Lib.hid hw2; clear hw2)
          go_ret2
          have hl : ((l.take (n - 2)).drop 1).length = n - 3 := by rw [hB1.out.len]; omega
          refine ⟨some ⟨w1.heap.size, 0, none⟩, n - 3, by rw [hl]; rfl, ?_, ?_⟩
          · exact Bs.of_block HW2.out (List.take_of_length_le (by simp)) rfl (by omega) (by simp only [maxLen]; omega)
          · exact ((drawN_below (Below.refl _ _) nq).trans hb1).trans ((((Below.refl _ _).alloc (Nat.le_refl _) _).trans hb2).mono ((drawN_below (Below.refl _ _) nq).trans hb1).size)
      · have g2 := u8_ne (x := x2) (k := 13) 13 rfl h2
        have gg2 := u8_bne (x := x2) (k := 13) 13 rfl h2
        have hfin := unwrap_not (l := l) (by have := HL.out; omega) (by rw [HF.out]; simp [h2])
        rw [hfin.1, hfin.2]
        clear hfin hin
        go_enter Tryd.func16, Tryd.ntmps16
        go_wp2
        go_quiet (fail)
        go_wp2
        go_ret2
        exact ⟨none, 0, rfl, Bs.none_ _, drawN_below (Below.refl _ _) _⟩
    · have g1 := u8_ne (x := x1) (k := 28) 28 rfl h1
      have gg1 := u8_bne (x := x1) (k := 28) 28 rfl h1
      have hfin := unwrap_not (l := l) (by have := HL.out; omega) (by rw [HF.out]; simp [h1])
      rw [hfin.1, hfin.2]
      clear hfin hin
      go_enter Tryd.func16, Tryd.ntmps16
      go_wp2
      go_quiet (fail)
      go_wp2
      go_ret2
      exact ⟨none, 0, rfl, Bs.none_ _, drawN_below (Below.refl _ _) _⟩
  · have g0 := u8_ne (x := x0) (k := 11) 11 rfl h0
    have gg0 := u8_bne (x := x0) (k := 11) 11 rfl h0
    have hfin := unwrap_not (l := l) (by have := HL.out; omega) (by rw [HF.out]; simp [h0])
    rw [hfin.1, hfin.2]
    clear hfin hin
    go_enter Tryd.func16, Tryd.ntmps16
    go_wp2
    go_quiet (fail)
    go_wp2
    go_ret2
    exact ⟨none, 0, rfl, Bs.none_ _, drawN_below (Below.refl _ _) _⟩

theorem frameUnwrap (A : Option Addr) (n c : Nat) (l : List UInt8) (w : World) (hS : Signs w) (hB : Bs w A n c l) (hN : n ≤ 140737488351232) :
    Calls Tryd.prog 16 #[.slice A n c] w (RetBs (unwrapErr l) (unwrapGet l) w) := by
  by_cases h : n < 3
  · obtain ⟨h1, h2⟩ := unwrap_short (l := l) (by rw [hB.len]; exact h)
    rw [h1, h2]
    exact frameUnwrap_short A n c w h
  · exact frameUnwrap_long A n c l w hS hB (by omega) hN

/-- frame.Wrap, either way -/
def wrapErr (l : List UInt8) : Int := if good l then 0 else 10
def wrapGet (l : List UInt8) : List UInt8 := if good l then 11 :: (l ++ [28, 13]) else []
theorem frameWrap (A : Option Addr) (n c : Nat) (l : List UInt8) (w : World) (hS : Signs w) (hB : Bs w A n c l) (hN : n ≤ 140737488351232) :
    Calls Tryd.prog 29 #[.slice A n c] w (RetBs (wrapErr l) (wrapGet l) w) := by
  unfold wrapErr wrapGet
  cases hg : good l with
  | true => exact frameWrap_yes A n c l w hS hB hg hN
  | false => exact frameWrap_no A n c l w hS hB hg
end Go.Proofs.YtgffamdlnacamaaDoor

/- Layer 4: the document's answers, and the examples. -/
namespace Go.Proofs.YtgffamdlnacamaaDoor
open Go.RowKit

set_option maxRecDepth 100000 in
set_option maxHeartbeats 1000000 in
theorem refGood_yes (A : Option Addr) (n c : Nat) (l : List UInt8) (w : World) (hB : Bs w A n c l) (hg : good l = true) :
    Calls Tryd.prog 15 #[.slice A n c] w fun e w' => e = .returned (.bool true) ∧ w = w' := by
  have hn := hB.nmax
  have HG := Lib.hid hg; clear hg
  have HB := Lib.hid hB; clear hB
  go_enter Tryd.func15, Tryd.ntmps15
  go_wp2
  go_loop [3] (fun i => ∃ k : Nat, k ≤ n ∧ i = .int .i64 k) (fun i => n - (intOf i).toNat)
  case atStart => exact ⟨0, Nat.zero_le _, rfl⟩
  case round =>
    obtain ⟨k, hk, rfl⟩ := hrel
    by_cases hlt : k < n
    · obtain ⟨b, o, rfl, hb, hc⟩ := HB.out.at_ (by omega)
      have hkl : k < l.length := by have := HB.out.len; omega
      have hbad := good_at HG.out hkl
      have hcell := hc k _ (List.getElem?_eq_getElem hkl)
      have h11 : l[k] ≠ 11 := fun e => good_no_start HG.out (e ▸ List.getElem_mem hkl)
      unfold badAt at hbad
      rw [List.getElem?_eq_getElem hkl] at hbad
      generalize l[k] = x at hcell hbad h11
      have h11' := u8_ne (x := x) (k := 11) 11 rfl h11
      by_cases h28 : x = 28
      · subst h28
        have hkn : k + 1 ≠ l.length := by intro e; simp [e] at hbad
        have hk1 : k + 1 < l.length := by omega
        have hcell1 := hc (k + 1) _ (List.getElem?_eq_getElem hk1)
        rw [List.getElem?_eq_getElem hk1] at hbad
        generalize l[k + 1] = y at hcell1 hbad
        have hne := u8_ne (x := y) (k := 13) 13 rfl (by intro e; subst e; simp at hbad)
        have hk2 : ((k : Int) + 1 == n) = false := by rw [beq_eq_false_iff_ne]; have := HB.out.len; omega
        have hk3 : k + 1 < n := by have := HB.out.len; omega
        clear hbad hkn hc h11 h11'
        go_wp2
        go_round
        case rel => exact ⟨k + 1, by omega, by go_num⟩
        case measure => simp [intOf]; omega
      · have hx' := u8_ne (x := x) (k := 28) 28 rfl h28
        clear hbad hc
        go_wp2
        go_round
        case rel => exact ⟨k + 1, by omega, by go_num⟩
        case measure => simp [intOf]; omega
    · go_wp2
      go_ret
      exact ⟨rfl, rfl⟩

theorem not_good_place {l : List UInt8} (h : good l = false) : ∃ j, j < l.length ∧ (l[j]? = some 11 ∨ badAt l j = true) := by
  apply Classical.byContradiction
  intro hne
  rw [good_of (l := l) (fun hm => by
    obtain ⟨j, hj, e⟩ := List.getElem_of_mem hm
    exact hne ⟨j, hj, .inl (by rw [List.getElem?_eq_getElem hj, e])⟩) (fun i hi => by
    cases hb : badAt l i with
    | false => rfl
    | true => exact absurd ⟨i, hi, .inr hb⟩ hne)] at h
  cases h

set_option maxRecDepth 100000 in
set_option maxHeartbeats 1000000 in
theorem refGood_no (A : Option Addr) (n c : Nat) (l : List UInt8) (w : World) (hB : Bs w A n c l) (hg : good l = false) :
    Calls Tryd.prog 15 #[.slice A n c] w fun e w' => e = .returned (.bool false) ∧ w = w' := by
  have hn := hB.nmax
  obtain ⟨j, hj, hjb⟩ := not_good_place hg
  have hjn : j < n := by have := hB.len; omega
  have HJ := Lib.hid hjb; clear hjb hg
  have HB := Lib.hid hB; clear hB
  go_enter Tryd.func15, Tryd.ntmps15
  go_wp2
  go_loop [3] (fun i => ∃ k : Nat, k ≤ j ∧ i = .int .i64 k) (fun i => n - (intOf i).toNat)
  case atStart => exact ⟨0, Nat.zero_le _, rfl⟩
  case round =>
    obtain ⟨k, hk, rfl⟩ := hrel
    have hlt : k < n := by omega
    obtain ⟨b, o, rfl, hb, hc⟩ := HB.out.at_ (by omega)
    have hkl : k < l.length := by have := HB.out.len; omega
    have ek := List.getElem?_eq_getElem hkl
    have hcell := hc k _ ek
    by_cases h11 : l[k] = 11
    · rw [h11] at hcell
      clear hc ek h11
      go_wp2
      go_ret
      exact ⟨rfl, rfl⟩
    · have hJ2 : k = j → badAt l k = true := by
        rintro rfl
        exact HJ.out.resolve_left (by rw [ek]; simpa using h11)
      cases hbad : badAt l k with
      | false =>
        have hkj : k < j := by
          rcases Nat.lt_or_ge k j with h | h
          · exact h
          · rw [hJ2 (by omega)] at hbad; cases hbad
        unfold badAt at hbad
        rw [ek] at hbad
        generalize l[k] = x at hcell hbad h11 ek
        have h11' := u8_ne (x := x) (k := 11) 11 rfl h11
        by_cases h28 : x = 28
        · subst h28
          have hkn : k + 1 ≠ l.length := by intro e; simp [e] at hbad
          have hk1 : k + 1 < l.length := by omega
          have hcell1 := hc (k + 1) _ (List.getElem?_eq_getElem hk1)
          rw [List.getElem?_eq_getElem hk1] at hbad
          generalize l[k + 1] = y at hcell1 hbad
          have hne := u8_ne (x := y) (k := 13) 13 rfl (by intro e; subst e; simp at hbad)
          have hk2 : ((k : Int) + 1 == n) = false := by rw [beq_eq_false_iff_ne]; have := HB.out.len; omega
          have hk3 : k + 1 < n := by have := HB.out.len; omega
          clear hbad hkn hc h11 h11' ek hJ2
          go_wp2
          go_round
          case rel => exact ⟨k + 1, by omega, by go_num⟩
          case measure => simp [intOf]; omega
        · have hx' := u8_ne (x := x) (k := 28) 28 rfl h28
          clear hbad hc ek hJ2 h11
          go_wp2
          go_round
          case rel => exact ⟨k + 1, by omega, by go_num⟩
          case measure => simp [intOf]; omega
      | true =>
        unfold badAt at hbad
        rw [ek] at hbad
        simp only [Bool.and_eq_true, beq_iff_eq, Option.some.injEq, Bool.or_eq_true, decide_eq_true_eq] at hbad
        obtain ⟨h28, hend⟩ := hbad
        rw [h28] at hcell
        by_cases he : k + 1 = l.length
        · have hk2 : ((k : Int) + 1 == n) = true := by rw [beq_iff_eq]; have := HB.out.len; omega
          clear hend he hc h28 ek hJ2 h11
          go_wp2
          go_ret
          exact ⟨rfl, rfl⟩
        · have h13 := hend.resolve_left he
          have hcell1 := hc (k + 1) _ h13
          have hk1 : k + 1 < l.length := by omega
          have hk2 : ((k : Int) + 1 == n) = false := by rw [beq_eq_false_iff_ne]; have := HB.out.len; omega
          have hk3 : k + 1 < n := by have := HB.out.len; omega
          clear hend hc h28 he h13 ek hJ2 h11
          go_wp2
          go_ret
          exact ⟨rfl, rfl⟩

theorem refGood (A : Option Addr) (n c : Nat) (l : List UInt8) (w : World) (hB : Bs w A n c l) (r : Bool) (hr : good l = r) :
    Calls Tryd.prog 15 #[.slice A n c] w fun e w' => e = .returned (.bool r) ∧ w = w' := by
  subst hr
  cases hg : good l with
  | true => exact refGood_yes A n c l w hB hg
  | false => exact refGood_no A n c l w hB hg

end Go.Proofs.YtgffamdlnacamaaDoor

/- Plain facts on frames. -/
namespace Go.Proofs.YtgffamdlnacamaaDoor
open Go.RowKit

theorem wrap_isFrame {l : List UInt8} (h : good l = true) : isFrame (11 :: (l ++ [28, 13])) = true := by
  have h1 : (11 :: (l ++ [28, 13]) : List UInt8).length = l.length + 3 := by simp
  have h2 : (11 :: (l ++ [28, 13]) : List UInt8)[l.length + 1]? = some 28 := by
    rw [List.getElem?_cons_succ, List.getElem?_append_right (Nat.le_refl _)]; simp
  have h3 : (11 :: (l ++ [28, 13]) : List UInt8)[l.length + 2]? = some 13 := by
    rw [List.getElem?_cons_succ, List.getElem?_append_right (by omega)]; simp
  have h4 : ((11 :: (l ++ [28, 13]) : List UInt8).take (l.length + 1)).drop 1 = l := by simp
  unfold isFrame
  rw [h1, show l.length + 3 - 2 = l.length + 1 from rfl, show l.length + 3 - 1 = l.length + 2 from rfl, h2, h3, h4, h]
  simp
theorem wrap_get {l : List UInt8} (h : good l = true) : unwrapErr (11 :: (l ++ [28, 13])) = 0 ∧ unwrapGet (11 :: (l ++ [28, 13])) = l := by
  obtain ⟨e1, e2⟩ := unwrap_is (l := 11 :: (l ++ [28, 13])) (by simp) (wrap_isFrame h)
  refine ⟨e1, e2.trans ?_⟩
  simp
end Go.Proofs.YtgffamdlnacamaaDoor

/- AcceptAnswers, walked. -/
namespace Go.Proofs.YtgffamdlnacamaaDoor
open Go.RowKit

theorem reply_case (l : List UInt8) (kept : Bool) (hlen : l.length ≤ 3000) :
    (replyD l kept = ([], false) ∧ ((verdictD l).2.1 = ⟨#[]⟩ ∨ ((verdictD l).2.1.toList.isEmpty = false ∧ good l = false))) ∨
    ∃ X c', replyD l kept = (11 :: (X ++ [28, 13]), true) ∧ good X = true ∧ X.length ≤ 900000 ∧ readA X = ((c', (verdictD l).1.a7), 0) ∧
      (((verdictD l).2.1 = cB 0 ∧ (verdictD l).2.2 = 0 ∧ ((kept = true ∧ c' = cB 0) ∨ (kept = false ∧ c' = cB 1))) ∨ ((verdictD l).2.1 ≠ cB 0 ∧ (verdictD l).2.2 ≠ 0 ∧ c' = (verdictD l).2.1)) := by
  by_cases hcode : (verdictD l).2.1 = ⟨#[]⟩
  · exact .inl ⟨if_pos (.inl hcode), .inl hcode⟩
  · obtain ⟨g, hr, h28, hvd⟩ := verdict_some hcode
    by_cases hgl : good l = false
    · exact .inl ⟨if_pos (.inr hgl), .inr ⟨by rw [hvd]; exact code_isEmpty _, hgl⟩⟩
    · right
      have hR : replyD l kept = (11 :: ((buildD (verdictD l).1 (if (verdictD l).2.1 = cB 0 ∧ kept = false then cB 1 else (verdictD l).2.1)).1 ++ [28, 13]), true) := if_neg (by rintro (h | h); exact hcode h; exact hgl h)
      rw [hvd] at hR ⊢
      simp only at hR ⊢
      obtain ⟨_, ccd, _⟩ := codeOf_ne (checkD g)
      obtain ⟨c', hc'⟩ : ∃ c', c' = if codeOf (checkD g) = cB 0 ∧ kept = false then cB 1 else codeOf (checkD g) := ⟨_, rfl⟩
      rw [← hc'] at hR
      have hcd : codeD c' = true := by
        rw [hc']
        split
        · decide +kernel
        · exact ccd
      obtain ⟨hbu, hgd⟩ := answer_good hr h28 (by simpa using hgl) hcd
      have hgs : g.d.good = true ∧ (ansH g).l.all (standD g.d.a) = true := by
        rcases buildD_known (h := g) hcd with h | h | ⟨_, h1, h2⟩
        · rw [hbu] at h; injection h with _ h; exact absurd h (by decide)
        · rw [hbu] at h; injection h with _ h; exact absurd h (by decide)
        · exact ⟨h1, h2⟩
      have hsum : g.sum ≤ 290000 := by
        have t := (sum_le_of (read_stands hr).2.2).2.2
        rw [← Hd.sum_eq] at t
        omega
      have hsz : c'.size ≤ 2 := by
        rcases code_mem hcd with h | h | h <;> rw [h] <;> decide
      refine ⟨(buildD g c').1, c', hR, hgd, ?_, ?_, ?_⟩
      · have := buildD_len g c'
        omega
      · rw [hbu]
        exact (build_read hcd hgs.1 hgs.2 []).2
      · by_cases hK : checkD g = 0
        · left
          have h0 : codeOf (checkD g) = cB 0 := by unfold codeOf; rw [if_pos hK]
          refine ⟨h0, hK, ?_⟩
          cases kept
          · right; exact ⟨rfl, by rw [hc', if_pos ⟨h0, rfl⟩]⟩
          · left; exact ⟨rfl, by rw [hc', if_neg (by simp), h0]⟩
        · right
          have h0 : codeOf (checkD g) ≠ cB 0 := by
            unfold codeOf
            rw [if_neg hK]
            split <;> decide
          exact ⟨h0, hK, by rw [hc', if_neg (fun h => h0 h.1)]⟩
set_option maxHeartbeats 8000000 in
set_option maxRecDepth 100000 in
theorem acceptAnswers_walk (A : Option Addr) (n c : Nat) (l : List UInt8) (kept : Bool) (w : World) (hv : Vers w ∧ Signs w ∧ Cds w) (hB : Bs w A n c l) (_hcp : c ≤ 140737488351232) :
    Calls Tryd.prog 4 #[.slice A n c, .bool kept] w (True_ w) := by
  have HV := Lib.hid (fun W (hb : Below w.heap.size w W) => hv.1.below hb)
  have HS := Lib.hid (fun W (hb : Below w.heap.size w W) => hv.2.1.below hb)
  have HC := Lib.hid (fun W (hb : Below w.heap.size w W) => hv.2.2.below hb)
  have HL := Lib.hid hB.len
  have HBS := Lib.hid hB
  have HB0 : Hid (Below w.heap.size w w) := Lib.hid (Below.refl _ _)
  clear hv hB
  go_enter Tryd.func4, Tryd.ntmps4
  by_cases hbig : 3000 < n
  · as_aux_lemma =>
    have d1 : decide ((3000 : Int) < (n : Int)) = true := by simp; omega
    go_wp2_with (fail)
    refine (alive11 w (HV.out _ HB0.out) (HS.out _ HB0.out) (HC.out _ HB0.out)).mono ?_
    rintro e w2 ⟨rfl, hbA⟩
    have HBA := Lib.hid (HB0.out.trans (hbA.mono HB0.out.size))
    clear hbA
    go_wp2_with (fail)
    go_ret
    exact ⟨rfl, HBA.out⟩
  have d1 : decide ((3000 : Int) < (n : Int)) = false := by simp; omega
  have HN : Hid (n ≤ 3000) := Lib.hid (by omega)
  clear hbig
  go_wp2_with (fail)
  clear d1
  refine (verdict_ A n c l w (HV.out _ HB0.out) HBS.out (by have := HN.out; omega)).mono ?_
  rintro e w1 ⟨rfl, hb1⟩
  have HRC := Lib.hid (reply_case l kept (by rw [HL.out]; exact HN.out))
  obtain ⟨h, hh⟩ : ∃ h, h = (verdictD l).1 := ⟨_, rfl⟩
  obtain ⟨cd, hcd⟩ : ∃ cd, cd = (verdictD l).2.1 := ⟨_, rfl⟩
  obtain ⟨K, hK⟩ : ∃ K, K = (verdictD l).2.2 := ⟨_, rfl⟩
  rw [← hh, ← hcd, ← hK] at HRC ⊢
  have HCD := Lib.hid hcd
  clear hh hcd hK
  have HX2 : Hid (BoxH h w1.heap.size (w1.alloc (.cells h.cells TH))) := Lib.hid (BoxH.new h w1)
  have HB2 : Hid (Below w.heap.size w (w1.alloc (.cells h.cells TH))) := Lib.hid (hb1.alloc hb1.size _)
  have HBS2 : Hid (Bs (w1.alloc (.cells h.cells TH)) A n c l) := Lib.hid ((HBS.out.below hb1).alloc _)
  clear hb1
  go_wp2_with (fail)
  obtain ⟨G, hG⟩ : ∃ G, G = w1.heap.size := ⟨_, rfl⟩
  rw [← hG] at HX2 ⊢
  clear hG
  generalize hw2 : w1.alloc (.cells h.cells TH) = w2 at HX2 HB2 HBS2
  clear hw2
  refine (reply_ A n c l kept w2 (HV.out _ HB2.out) (HS.out _ HB2.out) (HC.out _ HB2.out) HBS2.out (by have := HN.out; omega)).mono ?_
  rintro e w3 ⟨A3, m3, c3, rfl, hB3, hb3⟩
  have HB3 := Lib.hid (HB2.out.trans (hb3.mono HB2.out.size))
  have HBS3 := Lib.hid (HBS2.out.below hb3)
  have HX3 := Lib.hid (HX2.out.below hb3)
  clear hb3 HX2 HB2 HBS2
  rcases HRC.out with ⟨hR, hwhy⟩ | ⟨X, c', hR, hgX, hXl, hrA, hcs⟩
  · as_aux_lemma =>
    rw [hR] at hB3 ⊢
    obtain rfl : 0 = m3 := hB3.len
    clear hB3 hR HRC
    have HWY := Lib.hid hwhy
    clear hwhy HCD
    go_wp2_with (fail)
    refine (alive11 w3 (HV.out _ HB3.out) (HS.out _ HB3.out) (HC.out _ HB3.out)).mono ?_
    rintro e w4 ⟨rfl, hb4⟩
    have HB4 := Lib.hid (HB3.out.trans (hb4.mono HB3.out.size))
    have HBS4 := Lib.hid (HBS3.out.below hb4)
    clear hb4 HX3 HBS3 HB3
    rcases HWY.out with rfl | ⟨he, hg⟩
    · as_aux_lemma =>
      have he := nil_t
      go_wp2_with (fail)
      go_ret
      exact ⟨rfl, HB4.out⟩
    · as_aux_lemma =>
      go_wp2_with (fail)
      refine (refGood A n c l w4 HBS4.out false hg).mono ?_
      rintro e w5 ⟨rfl, rfl⟩
      go_wp2_with (fail)
      go_ret
      exact ⟨rfl, HB4.out⟩
  · rw [hR] at hB3 ⊢
    have hl3 := hB3.len
    obtain rfl : X.length + 2 + 1 = m3 := by rw [← hl3]; simp
    have HX3L := Lib.hid hB3
    have HGX := Lib.hid (wrap_get hgX)
    have HXL := Lib.hid hXl
    have HRA := Lib.hid hrA
    obtain ⟨N, hN⟩ : ∃ N, N = X.length + 2 + 1 := ⟨_, rfl⟩
    rw [← hN] at HX3L ⊢
    have HNN : Hid (N ≤ 900003) := Lib.hid (by omega)
    clear hB3 hl3 hgX hXl hrA hR hN HRC
    go_wp2_with (fail)
    refine (frameUnwrap A3 N c3 _ w3 (HS.out _ HB3.out) HX3L.out (by have := HNN.out; omega)).mono ?_
    rw [HGX.out.1, HGX.out.2]
    rintro e w4 ⟨A4, c4, rfl, hB4, hb4⟩
    have HB4 := Lib.hid (HB3.out.trans (hb4.mono HB3.out.size))
    have HBS4 := Lib.hid (HBS3.out.below hb4)
    have HX4 := Lib.hid (HX3.out.below hb4)
    have HY4 := Lib.hid hB4
    clear hb4 hB4 HB3 HBS3 HX3 HX3L HGX HNN
    obtain ⟨M, hM⟩ : ∃ M, M = X.length := ⟨_, rfl⟩
    rw [← hM] at HY4 HXL ⊢
    clear hM
    go_wp2_with (fail)
    refine (ackRead A4 M c4 X w4 (HC.out _ HB4.out) HY4.out (by have := HXL.out; omega)).mono ?_
    rw [HRA.out]
    rintro e w5 ⟨rfl, hb5⟩
    have HZ6 : Hid (BoxA c' h.a7 w5.heap.size (w5.alloc (.cells #[.string c', .string h.a7] 40))) := Lib.hid (heap_alloc_new w5 _)
    have hb6 : Below w4.heap.size w4 (w5.alloc (.cells #[.string c', .string h.a7] 40)) := hb5.alloc hb5.size _
    have HX6 := Lib.hid (HX4.out.below hb6)
    have HB6 := Lib.hid (HB4.out.trans (hb6.mono HB4.out.size))
    have HBS6 := Lib.hid (HBS4.out.below hb6)
    clear hb5 hb6 HX4 HB4 HBS4 HY4 HXL HRA
    go_wp2_with (fail)
    generalize w5.alloc (.cells #[.string c', .string h.a7] 40) = w6 at *
    generalize w5.heap.size = gz at *
    rcases hcs with ⟨k1, k2, ⟨rfl, k3⟩ | ⟨rfl, k3⟩⟩ | ⟨k1, k2, k3⟩
    · as_aux_lemma =>
      have HST : Hid (decide ((verdictD l).2.1 = cB 0) = true) := Lib.hid (decide_eq_true (HCD.out ▸ k1))
      obtain rfl : c' = cd := k3.trans k1.symm
      have f1 : (c'.toList == [65, 65]) = true := by rw [k3]; decide +kernel
      have hK : (K == 0) = true := by rw [k2]; rfl
      clear k1 k2 k3 HCD
      obtain ⟨z0, z1⟩ := HZ6.out.cells
      obtain ⟨c0, c1, c2, c3, c4, c5, c6, c7, c8, c9, c10, c11, c12, c13, c14⟩ := HX6.out.cells
      clear c0 c1 c2 c3 c4 c5 c6 c7 c8 c9 c10 c11 c13 c14
      go_region_held3 (fun w' => w'.cell? ⟨gz, 0, none⟩ = some (.string c') ∧ w'.cell? ⟨gz, 1, none⟩ = some (.string h.a7) ∧ w'.cell? ⟨G, 12, none⟩ = some (.string h.a7)) (go_keep) ((go_at_call 14; go_loud ((refine (stored_ A n c l _ (HV.out _ (by first | exact HB6.out | exact HB6.out.drew)) (by first | exact HBS6.out | exact HBS6.out.drew) (by have := HN.out; omega)).mono ?_; rintro e w7 ⟨rfl, hbS⟩; rw [HST.out]; have hbT : Below w6.heap.size w6 w7 := (by first | exact hbS | exact (Below.refl _ _).drew.trans hbS); have HB7 := Lib.hid (HB6.out.trans (hbT.mono HB6.out.size)); have HBS7 := Lib.hid (HBS6.out.below hbT); have HZ7 := Lib.hid (HZ6.out.below hbT); have y0 := HZ7.out.cells.1; have y1 := HZ7.out.cells.2; have y2 := HX6.out.below hbT; obtain ⟨_, _, _, _, _, _, _, _, _, _, _, _, y3, _, _⟩ := y2.cells; clear hbS hbT y2))))
      go_wp2_with (fail)
      refine (alive11 w7 (HV.out _ HB7.out) (HS.out _ HB7.out) (HC.out _ HB7.out)).mono ?_
      rintro e w8 ⟨rfl, hb8⟩
      have HB8 := Lib.hid (HB7.out.trans (hb8.mono HB7.out.size))
      have HBS8 := Lib.hid (HBS7.out.below hb8)
      have HZ8 := Lib.hid (HZ7.out.below hb8)
      clear hb8
      go_wp2_with (fail)
      refine (stored_ A n c l w8 (HV.out _ HB8.out) HBS8.out (by have := HN.out; omega)).mono ?_
      rintro e w9 ⟨rfl, hbS⟩
      rw [HST.out]
      have HB9 := Lib.hid (HB8.out.trans (hbS.mono HB8.out.size))
      have HBS9 := Lib.hid (HBS8.out.below hbS)
      have HZ9 := Lib.hid (HZ8.out.below hbS)
      obtain ⟨z0, z1⟩ := HZ9.out.cells
      clear hbS
      go_wp2_with (fail)
      go_ret
      exact ⟨rfl, HB9.out⟩
    · as_aux_lemma =>
      have HST : Hid (decide ((verdictD l).2.1 = cB 0) = true) := Lib.hid (decide_eq_true (HCD.out ▸ k1))
      have f1 : (c'.toList == [65, 65]) = false := by rw [k3]; decide +kernel
      have f2 : (cd.toList == [65, 65]) = true := by rw [k1]; decide +kernel
      have f3 : (c'.toList == [65, 69]) = true := by rw [k3]; decide +kernel
      have f4 : (cd.toList == c'.toList) = false := by rw [k1, k3]; decide +kernel
      have f5 : decide (cd = c') = false := by rw [k1, k3]; decide +kernel
      have hK : (K == 0) = true := by rw [k2]; rfl
      clear k1 k2 k3 HCD
      obtain ⟨z0, z1⟩ := HZ6.out.cells
      obtain ⟨c0, c1, c2, c3, c4, c5, c6, c7, c8, c9, c10, c11, c12, c13, c14⟩ := HX6.out.cells
      clear c0 c1 c2 c3 c4 c5 c6 c7 c8 c9 c10 c11 c13 c14
      go_region
      go_wp2_with (fail)
      have HB7 := Lib.hid (HB6.out.drew)
      have HBS7 := Lib.hid (HBS6.out.drew)
      have HZ7 := Lib.hid (HZ6.out.below (Below.refl _ _).drew)
      clear HB6 HBS6 HZ6 HX6 z0 z1 c12
      generalize w6.drew = w7 at *
      refine (alive11 w7 (HV.out _ HB7.out) (HS.out _ HB7.out) (HC.out _ HB7.out)).mono ?_
      rintro e w8 ⟨rfl, hb8⟩
      have HB8 := Lib.hid (HB7.out.trans (hb8.mono HB7.out.size))
      have HBS8 := Lib.hid (HBS7.out.below hb8)
      have HZ8 := Lib.hid (HZ7.out.below hb8)
      clear hb8
      go_wp2_with (fail)
      refine (stored_ A n c l w8 (HV.out _ HB8.out) HBS8.out (by have := HN.out; omega)).mono ?_
      rintro e w9 ⟨rfl, hbS⟩
      rw [HST.out]
      have HB9 := Lib.hid (HB8.out.trans (hbS.mono HB8.out.size))
      have HBS9 := Lib.hid (HBS8.out.below hbS)
      have HZ9 := Lib.hid (HZ8.out.below hbS)
      obtain ⟨z0, z1⟩ := HZ9.out.cells
      clear hbS
      go_wp2_with (fail)
      go_ret
      exact ⟨rfl, HB9.out⟩
    · cases kept
      · as_aux_lemma =>
        have HST : Hid (decide ((verdictD l).2.1 = cB 0) = false) := Lib.hid (decide_eq_false (HCD.out ▸ k1))
        obtain rfl := k3
        have f1 : (c'.toList == [65, 65]) = false := by rw [code_eq0]; exact decide_eq_false k1
        have hK : (K == 0) = false := by simpa using k2
        clear k1 k2 HCD
        obtain ⟨z0, z1⟩ := HZ6.out.cells
        obtain ⟨c0, c1, c2, c3, c4, c5, c6, c7, c8, c9, c10, c11, c12, c13, c14⟩ := HX6.out.cells
        clear c0 c1 c2 c3 c4 c5 c6 c7 c8 c9 c10 c11 c13 c14
        go_region
        go_wp2_with (fail)
        have HB7 := Lib.hid (HB6.out.drew)
        have HBS7 := Lib.hid (HBS6.out.drew)
        have HZ7 := Lib.hid (HZ6.out.below (Below.refl _ _).drew)
        clear HB6 HBS6 HZ6 HX6 z0 z1 c12
        generalize w6.drew = w7 at *
        refine (alive11 w7 (HV.out _ HB7.out) (HS.out _ HB7.out) (HC.out _ HB7.out)).mono ?_
        rintro e w8 ⟨rfl, hb8⟩
        have HB8 := Lib.hid (HB7.out.trans (hb8.mono HB7.out.size))
        have HBS8 := Lib.hid (HBS7.out.below hb8)
        have HZ8 := Lib.hid (HZ7.out.below hb8)
        clear hb8
        go_wp2_with (fail)
        refine (stored_ A n c l w8 (HV.out _ HB8.out) HBS8.out (by have := HN.out; omega)).mono ?_
        rintro e w9 ⟨rfl, hbS⟩
        rw [HST.out]
        have HB9 := Lib.hid (HB8.out.trans (hbS.mono HB8.out.size))
        have HBS9 := Lib.hid (HBS8.out.below hbS)
        have HZ9 := Lib.hid (HZ8.out.below hbS)
        obtain ⟨z0, z1⟩ := HZ9.out.cells
        clear hbS
        go_wp2_with (fail)
        go_ret
        exact ⟨rfl, HB9.out⟩
      · as_aux_lemma =>
        have HST : Hid (decide ((verdictD l).2.1 = cB 0) = false) := Lib.hid (decide_eq_false (HCD.out ▸ k1))
        obtain rfl := k3
        have f1 : (c'.toList == [65, 65]) = false := by rw [code_eq0]; exact decide_eq_false k1
        have hK : (K == 0) = false := by simpa using k2
        clear k1 k2 HCD
        obtain ⟨z0, z1⟩ := HZ6.out.cells
        obtain ⟨c0, c1, c2, c3, c4, c5, c6, c7, c8, c9, c10, c11, c12, c13, c14⟩ := HX6.out.cells
        clear c0 c1 c2 c3 c4 c5 c6 c7 c8 c9 c10 c11 c13 c14
        go_region_held3 (fun w' => w'.cell? ⟨gz, 0, none⟩ = some (.string c') ∧ w'.cell? ⟨gz, 1, none⟩ = some (.string h.a7) ∧ w'.cell? ⟨G, 12, none⟩ = some (.string h.a7)) (go_keep) ((go_at_call 14; go_loud ((refine (stored_ A n c l _ (HV.out _ (by first | exact HB6.out | exact HB6.out.drew)) (by first | exact HBS6.out | exact HBS6.out.drew) (by have := HN.out; omega)).mono ?_; rintro e w7 ⟨rfl, hbS⟩; rw [HST.out]; have hbT : Below w6.heap.size w6 w7 := (by first | exact hbS | exact (Below.refl _ _).drew.trans hbS); have HB7 := Lib.hid (HB6.out.trans (hbT.mono HB6.out.size)); have HBS7 := Lib.hid (HBS6.out.below hbT); have HZ7 := Lib.hid (HZ6.out.below hbT); have y0 := HZ7.out.cells.1; have y1 := HZ7.out.cells.2; have y2 := HX6.out.below hbT; obtain ⟨_, _, _, _, _, _, _, _, _, _, _, _, y3, _, _⟩ := y2.cells; clear hbS hbT y2))))
        go_wp2_with (fail)
        refine (alive11 w7 (HV.out _ HB7.out) (HS.out _ HB7.out) (HC.out _ HB7.out)).mono ?_
        rintro e w8 ⟨rfl, hb8⟩
        have HB8 := Lib.hid (HB7.out.trans (hb8.mono HB7.out.size))
        have HBS8 := Lib.hid (HBS7.out.below hb8)
        have HZ8 := Lib.hid (HZ7.out.below hb8)
        clear hb8
        go_wp2_with (fail)
        refine (stored_ A n c l w8 (HV.out _ HB8.out) HBS8.out (by have := HN.out; omega)).mono ?_
        rintro e w9 ⟨rfl, hbS⟩
        rw [HST.out]
        have HB9 := Lib.hid (HB8.out.trans (hbS.mono HB8.out.size))
        have HBS9 := Lib.hid (HBS8.out.below hbS)
        have HZ9 := Lib.hid (HZ8.out.below hbS)
        obtain ⟨z0, z1⟩ := HZ9.out.cells
        clear hbS
        go_wp2_with (fail)
        go_ret
        exact ⟨rfl, HB9.out⟩
end Go.Proofs.YtgffamdlnacamaaDoor
