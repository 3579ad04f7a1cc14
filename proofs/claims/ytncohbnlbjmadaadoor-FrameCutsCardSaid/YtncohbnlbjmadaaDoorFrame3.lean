/- Layer 4: Unwrap. -/
import Derived.Test.YtncohbnlbjmadaaDoorFrame2
namespace Go.Proofs.YtncohbnlbjmadaaDoor
open Go.RowKit

/-- whether l is a frame -/
def isFrame (l : List UInt8) : Bool :=
  decide (3 ≤ l.length) && (l[0]? == some 11) && (l[l.length - 2]? == some 28) && (l[l.length - 1]? == some 13) && good ((l.take (l.length - 2)).drop 1)
def unwrapErr (l : List UInt8) : Int := if l.length < 3 then 7 else if isFrame l then 0 else 10
def unwrapGet (l : List UInt8) : List UInt8 := if isFrame l then (l.take (l.length - 2)).drop 1 else []

theorem unwrap_short {l : List UInt8} (h : l.length < 3) : unwrapErr l = 7 ∧ unwrapGet l = [] := by
  have hf : isFrame l = false := by unfold isFrame; rw [decide_eq_false (by omega)]; rfl
  exact ⟨by unfold unwrapErr; rw [if_pos h], by unfold unwrapGet; rw [hf]; rfl⟩
theorem unwrap_not {l : List UInt8} (h : 3 ≤ l.length) (hf : isFrame l = false) : unwrapErr l = 10 ∧ unwrapGet l = [] :=
  ⟨by unfold unwrapErr; rw [if_neg (by omega), hf]; rfl, by unfold unwrapGet; rw [hf]; rfl⟩
theorem unwrap_is {l : List UInt8} (h : 3 ≤ l.length) (hf : isFrame l = true) : unwrapErr l = 0 ∧ unwrapGet l = (l.take (l.length - 2)).drop 1 :=
  ⟨by unfold unwrapErr; rw [if_neg (by omega), hf]; rfl, by unfold unwrapGet; rw [hf]; rfl⟩

set_option maxRecDepth 100000 in
theorem frameUnwrap_short (A : Option Addr) (n c : Nat) (w : World) (hn : n < 3) :
    Calls Tryd.prog 8 #[.slice A n c] w (RetBs 7 [] w) := by
  go_enter Tryd.func8, Tryd.ntmps8
  go_wp2
  go_ret2
  exact ⟨none, 0, rfl, Bs.none_ _, Below.refl _ _⟩

set_option maxRecDepth 100000 in
set_option maxHeartbeats 1000000 in
theorem frameUnwrap_long (A : Option Addr) (n c : Nat) (l : List UInt8) (w : World) (hS : Signs w) (hB : Bs w A n c l) (hn : 3 ≤ n) (hN : n ≤ 140737488351232) :
    Calls Tryd.prog 8 #[.slice A n c] w (RetBs (unwrapErr l) (unwrapGet l) w) := by
  have hlen := hB.len
  have hmax := hB.nmax
  have hle := hB.le
  have hcm := hB.max
  obtain ⟨b, o, rfl, hb, hc⟩ := hB.at_ (by omega)
  obtain ⟨x0, e0⟩ : ∃ x, l[0]? = some x := ⟨_, List.getElem?_eq_getElem (by omega)⟩
  obtain ⟨x1, e1⟩ : ∃ x, l[l.length - 2]? = some x := ⟨_, List.getElem?_eq_getElem (by omega)⟩
  obtain ⟨x2, e2⟩ : ∃ x, l[l.length - 1]? = some x := ⟨_, List.getElem?_eq_getElem (by omega)⟩
  have c0 := hc _ _ e0
  have c1 := hc _ _ e1
  have c2 := hc _ _ e2
  have hfr : isFrame l = ((x0 == 11) && (x1 == 28) && (x2 == 13) && good ((l.take (l.length - 2)).drop 1)) := by
    unfold isFrame
    rw [decide_eq_true (by omega), e0, e1, e2]
    rfl
  have hin := hB.cut (i := 1) (j := n - 2) (by omega) (by omega)
  have HF := Lib.hid hfr
  rw [hlen] at c1 c2
  rw [Nat.add_zero] at c0
  rw [if_neg (by omega), Option.map_some, Addr.add_lit] at hin
  clear e0 e1 e2 hfr
  have HL := Lib.hid hlen
  have HS := Lib.hid hS
  have hS' := hS
  have HB := Lib.hid hB
  obtain ⟨s0, s1, s2⟩ := hS
  have hw1 : IntKind.i64.wrap ((n : Int) - 2) = (n : Int) - 2 := IntWalk.i64_in _ (by omega)
  have hw2 : ((n : Int) - 2).toNat = n - 2 := by omega
  have hw3 : (0 : Int) ≤ (n : Int) - 2 := by omega
  have hw4 : (n : Int) - 2 < (n : Int) := by omega
  have hw5 : IntKind.i64.wrap ((n : Int) - 2 + 1) = (n : Int) - 1 := by rw [IntWalk.i64_in _ (by omega)]; omega
  have hw6 : ((n : Int) - 1).toNat = n - 1 := by omega
  have hw7 : (0 : Int) ≤ (n : Int) - 1 := by omega
  have hw8 : (n : Int) - 1 < (n : Int) := by omega
  have hn3 : ¬ (n : Int) < 3 := by omega
  have h0n : (0 : Int) < (n : Int) := by omega
  clear hlen hB hc
  by_cases h0 : x0 = 11
  · subst h0
    by_cases h1 : x1 = 28
    · subst h1
      by_cases h2 : x2 = 13
      · subst h2
        have hmk : ∀ W : World, (Instr.makeSlice 22 (.int .i64 ((n : Int) - 2 - 1)) (.int .i64 ((n : Int) - 2 - 1))).run Tryd.prog W = .ok (.slice (some ⟨W.heap.size, 0, none⟩) (n - 3) (n - 3)) (W.alloc (.cells (Array.replicate (n - 3) (.int .u8 0)) 5)) := by
          intro W
          rw [show ((n : Int) - 2 - 1) = ((n - 3 : Nat) : Int) from by omega]
          exact run_mk _ _ Tryd.underlying22 byteInfoF (n - 3) (n - 3) (by omega) (by omega) W
        cases hg : good ((l.take (n - 2)).drop 1) with
        | false =>
          have hfin := unwrap_not (l := l) (by have := HL.out; omega) (by rw [HF.out, HL.out, hg]; simp)
          rw [hfin.1, hfin.2]
          clear hfin
          have HG := Lib.hid hg
          clear hg
          go_enter Tryd.func8, Tryd.ntmps8
          go_wp2
          go_quiet (fail)
          clear hw1 hw2 hw3 hw4 hw5 hw6 hw7 hw8
          go_wp2_with (fail)
          refine (frameGood_b _ _ _ _ (w.drewN nq) (hS'.drewN nq) (hin.drewN nq) false HG.out).mono ?_
          rintro e w1 ⟨rfl, hb1⟩
          go_wp2
          go_ret2
          exact ⟨none, 0, rfl, Bs.none_ _, (drawN_below (Below.refl _ _) nq).trans hb1⟩
        | true =>
          have hfin := unwrap_is (l := l) (by have := HL.out; omega) (by rw [HF.out, HL.out, hg]; simp)
          rw [hfin.1, hfin.2, HL.out]
          clear hfin
          have HG := Lib.hid hg
          clear hg
          go_enter Tryd.func8, Tryd.ntmps8
          go_wp2
          go_quiet (fail)
          clear hw1 hw2 hw3 hw4 hw5 hw6 hw7 hw8
          go_wp2_with (fail)
          refine (frameGood_b _ _ _ _ (w.drewN nq) (hS'.drewN nq) (hin.drewN nq) true HG.out).mono ?_
          rintro e w1 ⟨rfl, hb1⟩
          have hB1 := Lib.hid ((hin.drewN nq).below hb1)
          clear hin
          go_wp2_with (with_reducible show wpList _ _ _ _ _ _; refine wpList_cpy (o := ⟨some 49, _, _, _, _, _⟩) rfl (.tmp 45) (.tmp 48) 22 22 rfl 5 Tryd.underlying22 byteInfoF w1.heap.size (n - 3) (n - 3) rfl (List.replicate (n - 3) (.int .u8 0)) 5 (heap_new_rep _ _ _ _) List.length_replicate _ _ _ ((l.take (n - 2)).drop 1) rfl (hB1.out.alloc _) (by omega) ?_; intro w2 hw2 hb2; have HW2 := Lib.hid hw2; clear hw2)
          go_ret2
          have hl : ((l.take (n - 2)).drop 1).length = n - 3 := by rw [hB1.out.len]; omega
          refine ⟨some ⟨w1.heap.size, 0, none⟩, n - 3, by rw [hl]; rfl, ?_, ?_⟩
          · exact Bs.of_block HW2.out (List.take_of_length_le (by simp)) rfl (by omega) (by simp only [maxLen]; omega)
          · exact ((drawN_below (Below.refl _ _) nq).trans hb1).trans ((((Below.refl _ _).alloc (Nat.le_refl _) _).trans hb2).mono ((drawN_below (Below.refl _ _) nq).trans hb1).size)
      · have g2 := u8_ne (x := x2) (k := 13) 13 rfl h2
        have gg2 := u8_bne (x := x2) (k := 13) 13 rfl h2
        have hfin := unwrap_not (l := l) (by have := HL.out; omega) (by rw [HF.out]; simp [h2])
        rw [hfin.1, hfin.2]
        clear hfin hin
        go_enter Tryd.func8, Tryd.ntmps8
        go_wp2
        go_quiet (fail)
        go_wp2
        go_ret2
        exact ⟨none, 0, rfl, Bs.none_ _, drawN_below (Below.refl _ _) _⟩
    · have g1 := u8_ne (x := x1) (k := 28) 28 rfl h1
      have gg1 := u8_bne (x := x1) (k := 28) 28 rfl h1
      have hfin := unwrap_not (l := l) (by have := HL.out; omega) (by rw [HF.out]; simp [h1])
      rw [hfin.1, hfin.2]
      clear hfin hin
      go_enter Tryd.func8, Tryd.ntmps8
      go_wp2
      go_quiet (fail)
      go_wp2
      go_ret2
      exact ⟨none, 0, rfl, Bs.none_ _, drawN_below (Below.refl _ _) _⟩
  · have g0 := u8_ne (x := x0) (k := 11) 11 rfl h0
    have gg0 := u8_bne (x := x0) (k := 11) 11 rfl h0
    have hfin := unwrap_not (l := l) (by have := HL.out; omega) (by rw [HF.out]; simp [h0])
    rw [hfin.1, hfin.2]
    clear hfin hin
    go_enter Tryd.func8, Tryd.ntmps8
    go_wp2
    go_quiet (fail)
    go_wp2
    go_ret2
    exact ⟨none, 0, rfl, Bs.none_ _, drawN_below (Below.refl _ _) _⟩

theorem frameUnwrap (A : Option Addr) (n c : Nat) (l : List UInt8) (w : World) (hS : Signs w) (hB : Bs w A n c l) (hN : n ≤ 140737488351232) :
    Calls Tryd.prog 8 #[.slice A n c] w (RetBs (unwrapErr l) (unwrapGet l) w) := by
  by_cases h : n < 3
  · obtain ⟨h1, h2⟩ := unwrap_short (l := l) (by rw [hB.len]; exact h)
    rw [h1, h2]
    exact frameUnwrap_short A n c w h
  · exact frameUnwrap_long A n c l w hS hB (by omega) hN

/-- frame.Wrap, either way -/
def wrapErr (l : List UInt8) : Int := if good l then 0 else 10
def wrapGet (l : List UInt8) : List UInt8 := if good l then 11 :: (l ++ [28, 13]) else []
theorem frameWrap (A : Option Addr) (n c : Nat) (l : List UInt8) (w : World) (hS : Signs w) (hB : Bs w A n c l) (hN : n ≤ 140737488351232) :
    Calls Tryd.prog 6 #[.slice A n c] w (RetBs (wrapErr l) (wrapGet l) w) := by
  unfold wrapErr wrapGet
  cases hg : good l with
  | true => exact frameWrap_yes A n c l w hS hB hg hN
  | false => exact frameWrap_no A n c l w hS hB hg
end Go.Proofs.YtncohbnlbjmadaaDoor
