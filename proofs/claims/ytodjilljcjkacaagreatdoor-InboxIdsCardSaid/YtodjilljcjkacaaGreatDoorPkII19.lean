/- Laid together: UnwI, In15, In14, In16, Plan, Plan2. -/
import Derived.Test.YtodjilljcjkacaaGreatDoorPkII18
import Derived.BigQuiet

/- Layer 4: Unwrap, and what it makes of a frame. -/
namespace Go.Proofs.YtodjilljcjkacaaGreatDoor
open Go.RowKit

/-- whether l is a frame -/
def isFrame (l : List UInt8) : Bool :=
  decide (3 ≤ l.length) && (l[0]? == some 11) && (l[l.length - 2]? == some 28) && (l[l.length - 1]? == some 13) && good ((l.take (l.length - 2)).drop 1)
def unwrapErr (l : List UInt8) : Int := if l.length < 3 then 7 else if isFrame l then 0 else 10
def unwrapGet (l : List UInt8) : List UInt8 := if isFrame l then (l.take (l.length - 2)).drop 1 else []

theorem unwrap_short {l : List UInt8} (h : l.length < 3) : unwrapErr l = 7 ∧ unwrapGet l = [] := by
  have hf : isFrame l = false := by unfold isFrame; rw [decide_eq_false (by omega)]; rfl
  exact ⟨by unfold unwrapErr; rw [if_pos h], by unfold unwrapGet; rw [hf]; rfl⟩
theorem unwrap_not {l : List UInt8} (h : 3 ≤ l.length) (hf : isFrame l = false) : unwrapErr l = 10 ∧ unwrapGet l = [] :=
  ⟨by unfold unwrapErr; rw [if_neg (by omega), hf]; rfl, by unfold unwrapGet; rw [hf]; rfl⟩
theorem unwrap_is {l : List UInt8} (h : 3 ≤ l.length) (hf : isFrame l = true) : unwrapErr l = 0 ∧ unwrapGet l = (l.take (l.length - 2)).drop 1 :=
  ⟨by unfold unwrapErr; rw [if_neg (by omega), hf]; rfl, by unfold unwrapGet; rw [hf]; rfl⟩

set_option maxRecDepth 100000 in
theorem frameUnwrap_short (A : Option Addr) (n c : Nat) (w : World) (hn : n < 3) :
    Calls Tryz.prog 41 #[.slice A n c] w (RetBs 7 [] w) := by
  go_enter Tryz.func41, Tryz.ntmps41
  go_wp2
  go_ret2
  exact ⟨none, 0, rfl, Bs.none_ _, Below.refl _ _⟩

set_option maxRecDepth 100000 in
set_option maxHeartbeats 1000000 in
theorem frameUnwrap_long (A : Option Addr) (n c : Nat) (l : List UInt8) (w : World) (hS : Signs w) (hB : Bs w A n c l) (hn : 3 ≤ n) (hN : n ≤ 140737488351232) :
    Calls Tryz.prog 41 #[.slice A n c] w (RetBs (unwrapErr l) (unwrapGet l) w) := by
  have hlen := hB.len
  have hmax := hB.nmax
  have hle := hB.le
  have hcm := hB.max
  obtain ⟨b, o, rfl, hb, hc⟩ := hB.at_ (by omega)
  obtain ⟨x0, e0⟩ : ∃ x, l[0]? = some x := ⟨_, List.getElem?_eq_getElem (by omega)⟩
  obtain ⟨x1, e1⟩ : ∃ x, l[l.length - 2]? = some x := ⟨_, List.getElem?_eq_getElem (by omega)⟩
  obtain ⟨x2, e2⟩ : ∃ x, l[l.length - 1]? = some x := ⟨_, List.getElem?_eq_getElem (by omega)⟩
  have c0 := hc _ _ e0
  have c1 := hc _ _ e1
  have c2 := hc _ _ e2
  have hfr : isFrame l = ((x0 == 11) && (x1 == 28) && (x2 == 13) && good ((l.take (l.length - 2)).drop 1)) := by
    unfold isFrame
    rw [decide_eq_true (by omega), e0, e1, e2]
    rfl
  have hin := hB.cut (i := 1) (j := n - 2) (by omega) (by omega)
  have HF := Lib.hid hfr
  rw [hlen] at c1 c2
  rw [Nat.add_zero] at c0
  rw [if_neg (by omega), Option.map_some, Addr.add_lit] at hin
  clear e0 e1 e2 hfr
  have HL := Lib.hid hlen
  have HS := Lib.hid hS
  have hS' := hS
  have HB := Lib.hid hB
  obtain ⟨s0, s1, s2⟩ := hS
  have hw1 : IntKind.i64.wrap ((n : Int) - 2) = (n : Int) - 2 := IntWalk.i64_in _ (by omega)
  have hw2 : ((n : Int) - 2).toNat = n - 2 := by omega
  have hw3 : (0 : Int) ≤ (n : Int) - 2 := by omega
  have hw4 : (n : Int) - 2 < (n : Int) := by omega
  have hw5 : IntKind.i64.wrap ((n : Int) - 2 + 1) = (n : Int) - 1 := by rw [IntWalk.i64_in _ (by omega)]; omega
  have hw6 : ((n : Int) - 1).toNat = n - 1 := by omega
  have hw7 : (0 : Int) ≤ (n : Int) - 1 := by omega
  have hw8 : (n : Int) - 1 < (n : Int) := by omega
  have hn3 : ¬ (n : Int) < 3 := by omega
  have h0n : (0 : Int) < (n : Int) := by omega
  clear hlen hB hc
  by_cases h0 : x0 = 11
  · subst h0
    by_cases h1 : x1 = 28
    · subst h1
      by_cases h2 : x2 = 13
      · subst h2
        have hmk : ∀ W : World, (Instr.makeSlice 40 (.int .i64 ((n : Int) - 2 - 1)) (.int .i64 ((n : Int) - 2 - 1))).run Tryz.prog W = .ok (.slice (some ⟨W.heap.size, 0, none⟩) (n - 3) (n - 3)) (W.alloc (.cells (Array.replicate (n - 3) (.int .u8 0)) 5)) := by
          intro W
          rw [show ((n : Int) - 2 - 1) = ((n - 3 : Nat) : Int) from by omega]
          exact run_mk _ _ Tryz.underlying40 byteInfoF (n - 3) (n - 3) (by omega) (by omega) W
        cases hg : good ((l.take (n - 2)).drop 1) with
        | false =>
          have hfin := unwrap_not (l := l) (by have := HL.out; omega) (by rw [HF.out, HL.out, hg]; simp)
          rw [hfin.1, hfin.2]
          clear hfin
          have HG := Lib.hid hg
          clear hg
          go_enter Tryz.func41, Tryz.ntmps41
          go_wp2
          go_quiet (fail)
          clear hw1 hw2 hw3 hw4 hw5 hw6 hw7 hw8
          go_wp2_with (fail)
          refine (frameGood_b _ _ _ _ (w.drewN nq) (hS'.drewN nq) (hin.drewN nq) false HG.out).mono ?_
          rintro e w1 ⟨rfl, hb1⟩
          go_wp2
          go_ret2
          exact ⟨none, 0, rfl, Bs.none_ _, (drawN_below (Below.refl _ _) nq).trans hb1⟩
        | true =>
          have hfin := unwrap_is (l := l) (by have := HL.out; omega) (by rw [HF.out, HL.out, hg]; simp)
          rw [hfin.1, hfin.2, HL.out]
          clear hfin
          have HG := Lib.hid hg
          clear hg
          go_enter Tryz.func41, Tryz.ntmps41
          go_wp2
          go_quiet (fail)
          clear hw1 hw2 hw3 hw4 hw5 hw6 hw7 hw8
          go_wp2_with (fail)
          refine (frameGood_b _ _ _ _ (w.drewN nq) (hS'.drewN nq) (hin.drewN nq) true HG.out).mono ?_
          rintro e w1 ⟨rfl, hb1⟩
          have hB1 := Lib.hid ((hin.drewN nq).below hb1)
          clear hin
          go_wp2_with (with_reducible show wpList _ _ _ _ _ _; refine wpList_cpy (o := ⟨some 49, _, _, _, _, _⟩) rfl (.tmp 45) (.tmp 48) 40 40 rfl 5 Tryz.underlying40 byteInfoF w1.heap.size (n - 3) (n - 3) rfl (List.replicate (n - 3) (.int .u8 0)) 5 (heap_new_rep _ _ _ _) List.length_replicate _ _ _ ((l.take (n - 2)).drop 1) rfl (hB1.out.alloc _) (by omega) ?_; intro w2 hw2 hb2; have HW2 := Lib.hid hw2; clear hw2)
          go_ret2
          have hl : ((l.take (n - 2)).drop 1).length = n - 3 := by rw [hB1.out.len]; omega
          refine ⟨some ⟨w1.heap.size, 0, none⟩, n - 3, by rw [hl]; rfl, ?_, ?_⟩
          · exact Bs.of_block HW2.out (List.take_of_length_le (by simp)) rfl (by omega) (by simp only [maxLen]; omega)
          · exact ((drawN_below (Below.refl _ _) nq).trans hb1).trans ((((Below.refl _ _).alloc (Nat.le_refl _) _).trans hb2).mono ((drawN_below (Below.refl _ _) nq).trans hb1).size)
      · have g2 := u8_ne (x := x2) (k := 13) 13 rfl h2
        have gg2 := u8_bne (x := x2) (k := 13) 13 rfl h2
        have hfin := unwrap_not (l := l) (by have := HL.out; omega) (by rw [HF.out]; simp [h2])
        rw [hfin.1, hfin.2]
        clear hfin hin
        go_enter Tryz.func41, Tryz.ntmps41
        go_wp2
        go_quiet (fail)
        go_wp2
        go_ret2
        exact ⟨none, 0, rfl, Bs.none_ _, drawN_below (Below.refl _ _) _⟩
    · have g1 := u8_ne (x := x1) (k := 28) 28 rfl h1
      have gg1 := u8_bne (x := x1) (k := 28) 28 rfl h1
      have hfin := unwrap_not (l := l) (by have := HL.out; omega) (by rw [HF.out]; simp [h1])
      rw [hfin.1, hfin.2]
      clear hfin hin
      go_enter Tryz.func41, Tryz.ntmps41
      go_wp2
      go_quiet (fail)
      go_wp2
      go_ret2
      exact ⟨none, 0, rfl, Bs.none_ _, drawN_below (Below.refl _ _) _⟩
  · have g0 := u8_ne (x := x0) (k := 11) 11 rfl h0
    have gg0 := u8_bne (x := x0) (k := 11) 11 rfl h0
    have hfin := unwrap_not (l := l) (by have := HL.out; omega) (by rw [HF.out]; simp [h0])
    rw [hfin.1, hfin.2]
    clear hfin hin
    go_enter Tryz.func41, Tryz.ntmps41
    go_wp2
    go_quiet (fail)
    go_wp2
    go_ret2
    exact ⟨none, 0, rfl, Bs.none_ _, drawN_below (Below.refl _ _) _⟩

theorem frameUnwrap (A : Option Addr) (n c : Nat) (l : List UInt8) (w : World) (hS : Signs w) (hB : Bs w A n c l) (hN : n ≤ 140737488351232) :
    Calls Tryz.prog 41 #[.slice A n c] w (RetBs (unwrapErr l) (unwrapGet l) w) := by
  by_cases h : n < 3
  · obtain ⟨h1, h2⟩ := unwrap_short (l := l) (by rw [hB.len]; exact h)
    rw [h1, h2]
    exact frameUnwrap_short A n c w h
  · exact frameUnwrap_long A n c l w hS hB (by omega) hN

end Go.Proofs.YtodjilljcjkacaaGreatDoor

namespace Go.Proofs.YtodjilljcjkacaaGreatDoor
open Go.RowKit
theorem wrap_isFrame {l : List UInt8} (h : good l = true) : isFrame (11 :: (l ++ [28, 13])) = true := by
  have h1 : (11 :: (l ++ [28, 13]) : List UInt8).length = l.length + 3 := by simp
  have h2 : (11 :: (l ++ [28, 13]) : List UInt8)[l.length + 1]? = some 28 := by
    rw [List.getElem?_cons_succ, List.getElem?_append_right (Nat.le_refl _)]; simp
  have h3 : (11 :: (l ++ [28, 13]) : List UInt8)[l.length + 2]? = some 13 := by
    rw [List.getElem?_cons_succ, List.getElem?_append_right (by omega)]; simp
  have h4 : ((11 :: (l ++ [28, 13]) : List UInt8).take (l.length + 1)).drop 1 = l := by simp
  unfold isFrame
  rw [h1, show l.length + 3 - 2 = l.length + 1 from rfl, show l.length + 3 - 1 = l.length + 2 from rfl, h2, h3, h4, h]
  simp
theorem wrap_get {l : List UInt8} (h : good l = true) : unwrapErr (11 :: (l ++ [28, 13])) = 0 ∧ unwrapGet (11 :: (l ++ [28, 13])) = l := by
  obtain ⟨e1, e2⟩ := unwrap_is (l := 11 :: (l ++ [28, 13])) (by simp) (wrap_isFrame h)
  refine ⟨e1, e2.trans ?_⟩
  simp
end Go.Proofs.YtodjilljcjkacaaGreatDoor
/- Layer 17: right messages of any ids, with junk between: what is kept and answered. -/
namespace Go.Proofs.YtodjilljcjkacaaGreatDoor
open Go.RowKit Go.MapKept Lib

/-- a number's digits -/
def digs (n : Nat) : List UInt8 := if n < 10 then [UInt8.ofNat (48 + n)] else digs (n / 10) ++ [UInt8.ofNat (48 + n % 10)]
termination_by n
decreasing_by omega
theorem digs_mem (n : Nat) : ∀ c ∈ digs n, 48 ≤ c.toNat ∧ c.toNat ≤ 57 := by
  induction n using Nat.strongRecOn with
  | _ n ih =>
    intro c hc
    rw [digs] at hc
    split at hc
    · rw [List.mem_singleton.1 hc]
      simp
      omega
    · rcases List.mem_append.1 hc with hc | hc
      · exact ih (n / 10) (by omega) c hc
      · rw [List.mem_singleton.1 hc]
        simp
        omega
theorem digs_short : ∀ (k n : Nat), 1 ≤ k → n < 10 ^ k → (digs n).length ≤ k
  | 0, _, h, _ => by omega
  | k + 1, n, _, hn => by
    rw [digs]
    split
    · simp
    · rename_i h10
      have hk : 1 ≤ k := by
        rcases Nat.eq_zero_or_pos k with rfl | h
        · simp at hn; omega
        · exact h
      have := digs_short k (n / 10) hk (by rw [Nat.pow_succ] at hn; omega)
      simp
      omega
/-- the id of the i-th message -/
def idD (a i : Nat) : List UInt8 := digs a ++ 65 :: digs i
/-- what may be such an id -/
structure IdOk (y : List UInt8) : Prop where
  free : freeC y
  pos : 1 ≤ y.length
  short : y.length ≤ 50
theorem idD_ok (a i : Nat) (ha : a < 10 ^ 20) (hi : i < 10 ^ 20) : IdOk (idD a i) := by
  refine ⟨fun c hc => ?_, by simp [idD]; omega, by have := digs_short 20 a (by decide) ha; have := digs_short 20 i (by decide) hi; simp [idD]; omega⟩
  have key : (48 ≤ c.toNat ∧ c.toNat ≤ 57) ∨ c = 65 := by
    rcases List.mem_append.1 hc with hc | hc
    · exact .inl (digs_mem a c hc)
    · rcases List.mem_cons.1 hc with rfl | hc
      · exact .inr rfl
      · exact .inl (digs_mem i c hc)
  have no : ∀ z : UInt8, (z.toNat < 48 ∨ 57 < z.toNat) → z ≠ 65 → c ≠ z := fun z hz h65 e => by
    subst e
    rcases key with h | h
    · omega
    · exact h65 h
  exact ⟨no _ (by decide) (by decide), no _ (by decide) (by decide), no _ (by decide) (by decide), no _ (by decide) (by decide), no _ (by decide) (by decide), no _ (by decide) (by decide)⟩
abbrev pP : List UInt8 := [80]
abbrev pV : List UInt8 := [50, 46, 53]
theorem right_row (y : List UInt8) : rightD y = rowSeg sgnC (cT y pP pV) ++ [13] := by
  simp [rightD, rowSeg, joinTail, cT, preR, sufR]
theorem fP : freeC pP := fun c hc => by
  obtain rfl : c = 80 := by simpa using hc
  decide
theorem fV : freeC pV := fun c hc => by
  simp only [pV, List.mem_cons, List.not_mem_nil, or_false] at hc
  rcases hc with rfl | rfl | rfl <;> decide
theorem right_no {y : List UInt8} {z : UInt8} (hz : z ∉ ([77, 83, 72, 124, 94, 126, 92, 38, 65, 68, 84, 80, 50, 46, 53, 13] : List UInt8)) (hy : z ∉ y) : z ∉ rightD y := by
  intro hm
  simp only [rightD, preR, sufR, List.mem_append, List.mem_cons, List.not_mem_nil, or_false, not_or] at hm hz
  obtain ⟨z1, z2, z3, z4, z5, z6, z7, z8, z9, z10, z11, z12, z13, z14, z15, z16⟩ := hz
  simp only [z1, z2, z3, z4, z5, z6, z7, z8, z9, z10, z11, z12, z13, z14, z15, z16, hy, or_self] at hm
theorem right_good {y : List UInt8} (h : freeC y) : good (rightD y) = true := by
  have h28 : (28 : UInt8) ∉ rightD y := right_no (by decide) h.no.2.2.1
  refine good_of (right_no (by decide) (fun m => (h _ m).2.2.2.1 rfl)) (fun i hi => ?_)
  unfold badAt
  have hne : (rightD y)[i]? ≠ some 28 := fun e => h28 (List.mem_of_getElem? e)
  simp [hne]
theorem right_check {y : List UInt8} (h : IdOk y) : checkD (cHd y pP pV) = 0 := by
  unfold checkD
  rw [show (cHd y pP pV).a9 = txt pV from rfl, show (cHd y pP pV).a8 = txt pP from rfl, show (cHd y pP pV).d = sgnC from rfl, firstC fP, firstC fV, show (cHd y pP pV).a7 = txt y from rfl]
  have h1 : (cHd y pP pV).a6.toList.isEmpty = false := by show (ByteArray.toList ⟨#[65, 68, 84]⟩).isEmpty = false; rw [Go.ByteArray.toList_eq]; rfl
  have h2 : (txt y).toList.isEmpty = false := by
    rw [Go.ByteArray.toList_eq]
    have := h.pos
    cases y with
    | nil => simp at this
    | cons a r => rfl
  have h3 : decide (50 < (txt y).size) = false := by
    have := h.short
    rw [txt_size]
    simp
    omega
  rw [h1, h2, h3]
  decide +kernel
theorem right_verdict {y : List UInt8} (h : IdOk y) : verdictD (rightD y) = (cHd y pP pV, cB 0, 0) := by
  rw [right_row, cVerdict h.free fP fV, right_check h]
  rfl
/-- what a right message is answered with -/
theorem right_reply {y : List UInt8} (h : IdOk y) : ∃ L, replyD (rightD y) true = (11 :: (L ++ [28, 13]), true) ∧ good L = true ∧ readA L = ((cB 0, txt y), 0) ∧ L.length ≤ 1000 := by
  have hv := right_verdict h
  have hr : readH (rightD y) = (cHd y pP pV, 0) := by rw [right_row]; exact cRead h.free fP fV
  have h13 : (13 : UInt8) ∉ rowSeg sgnC (cT y pP pV) := cSeg_free (by decide) h.free.no.2.1 fP.no.2.1 fV.no.2.1
  have h28 : (28 : UInt8) ∉ seg1 (rightD y) := fun hm => right_no (by decide) h.free.no.2.2.1 (seg1_sub _ _ hm)
  have hg := right_good h.free
  obtain ⟨e1, e2⟩ := answer_good hr h28 hg (c := cB 0) (by decide +kernel)
  have hc : codeD (cB 0) = true := by decide +kernel
  rcases buildD_known (h := cHd y pP pV) hc with hw | hw | ⟨hw, hgd, hst⟩
  · rw [hw] at e1
    have h0 : (11 : Int) = 0 := congrArg Prod.snd e1
    exact absurd h0 (by decide)
  · rw [hw] at e1
    have h0 : (10 : Int) = 0 := congrArg Prod.snd e1
    exact absurd h0 (by decide)
  · refine ⟨(buildD (cHd y pP pV) (cB 0)).1, ?_, e2, ?_, ?_⟩
    · unfold replyD
      rw [hv, hg]
      have hne : ¬ ((cB 0 : ByteArray) = ⟨#[]⟩ ∨ true = false) := by decide +kernel
      rw [if_neg hne]
      rfl
    · rw [hw]
      exact (build_read (h := cHd y pP pV) hc hgd hst []).2
    · have := buildD_len (cHd y pP pV) (cB 0)
      have hy := h.short
      have hc0 : (cB 0).size = 2 := rfl
      have hs : (cHd y pP pV).sum ≤ 100 := by
        simp only [Hd.sum, cHd, txt_size]
        simp
        omega
      omega
/-- .. as a frame -/
def ansY (y : List UInt8) : List UInt8 := (replyD (rightD y) true).1
theorem right_ans {y : List UInt8} (h : IdOk y) : ansD (rightD y) (.inl 0) = [ansY y] := by
  obtain ⟨L, e, _⟩ := right_reply h
  show (if (replyD (rightD y) true).2 = true then [(replyD (rightD y) true).1] else []) = _
  rw [e]
  simp [ansY, e]
theorem right_run : ∀ (Y : List (List UInt8)) (d : Dk) (fs : Fs) (T : List (List UInt8)) (kp : Nat) (La : List (List UInt8)), (∀ y ∈ Y, IdOk y) → WPlain d fs nmI T → ((recs T).length : Int) + 84 * Y.length ≤ d.room →
    (feedM d fs T (recs T).length kp La (Y.map rightD)).T = T ++ Y.map rightD ∧ (feedM d fs T (recs T).length kp La (Y.map rightD)).kp = kp + Y.length ∧ (feedM d fs T (recs T).length kp La (Y.map rightD)).La = La ++ Y.map ansY
  | [], d, fs, T, kp, La, _, _, _ => ⟨by simp [feedM], by simp [feedM], by simp [feedM]⟩
  | y :: r, d, fs, T, kp, La, hY, hp, hfit => by
    have hy := hY y (List.mem_cons_self ..)
    have hlen : (rightD y).length = y.length + 26 := rightD_len y
    have hs := hy.short
    have hk : okLen (rightD y).length = true := by unfold okLen; simp; omega
    have hrl := record_length (rightD y)
    have ek : keepD d fs (recs T).length (rightD y) = addD d fs nmI (recs T).length (rightD y) := by
      unfold keepD
      rw [if_pos (by rw [right_verdict hy])]
    rw [List.length_cons] at hfit
    obtain ⟨hr, h1 | h1⟩ := addD_plain hp nameL (rightD y) hk
    · rw [← ek] at h1 hr
      have e : (keepD d fs (recs T).length (rightD y)).1 = .inl 0 := h1.2.1
      have eg : (recs T).length + (record (rightD y)).length = (recs (T ++ [rightD y])).length := by rw [recs_snoc, List.length_append]
      rw [List.map_cons, feedM_step e]
      simp only [if_true]
      rw [eg]
      obtain ⟨a, b, c⟩ := right_run r _ _ (T ++ [rightD y]) (kp + 1) (La ++ ansD (rightD y) (.inl 0)) (fun z hz => hY z (List.mem_cons_of_mem _ hz)) h1.2.2 (by rw [hr, ← eg]; omega)
      refine ⟨?_, ?_, ?_⟩
      · rw [a]; simp
      · rw [b, List.length_cons]; omega
      · rw [c, right_ans hy]; simp
    · exfalso
      have := h1.1
      omega
/-- bytes p: the messages of the ids Y, framed, with junk between -/
def RunI (p : List UInt8) (Y : List (List UInt8)) : Prop := ∃ n, BackInv 200 p (Y.map rightD) n 0
theorem RunI.nil : RunI [] [] := ⟨0, .nil 200⟩
theorem RunI.junk {p : List UInt8} {Y : List (List UInt8)} (h : RunI p Y) (x : UInt8) (hx : x ≠ 11) : RunI (p ++ [x]) Y := by
  obtain ⟨n, h⟩ := h
  exact ⟨n + 1, h.junk x hx⟩
theorem RunI.right {p : List UInt8} {Y : List (List UInt8)} (h : RunI p Y) {y : List UInt8} (hy : IdOk y) : RunI (p ++ 11 :: (rightD y ++ [28, 13])) (Y ++ [y]) := by
  obtain ⟨n, h⟩ := h
  refine ⟨n, ?_⟩
  rw [List.map_append, List.map_cons, List.map_nil]
  exact h.frame (right_good hy.free) (by have := hy.short; rw [rightD_len]; omega)
theorem RunI.run {p : List UInt8} {Y : List (List UInt8)} (h : RunI p Y) (hY : ∀ y ∈ Y, IdOk y) (hl : Y.length ≤ 30) : (runD 100000 200 p).T = Y.map rightD ∧ (runD 100000 200 p).kp = Y.length ∧ (runD 100000 200 p).La = Y.map ansY := by
  obtain ⟨n, s, e, _⟩ := h
  unfold runD
  rw [e]
  obtain ⟨a, b, c⟩ := right_run Y ⟨100000, 0, 0, 0, 0, 0⟩ (fsOf []) [] 0 [] hY (newW_plain 100000 nmI) (by show ((0 : Nat) : Int) + 84 * (Y.length : Int) ≤ 100000; omega)
  have e0 : (recs []).length = 0 := rfl
  rw [e0] at a b c
  exact ⟨by simpa using a, by simpa using b, by simpa using c⟩
/-- the ids of the first k messages -/
def yk (l : List Nat) (k : Nat) : List (List UInt8) := (List.range k).map (fun i => idD (l.getD i 0) i)
theorem yk_succ (l : List Nat) (k : Nat) : yk l (k + 1) = yk l k ++ [idD (l.getD k 0) k] := by simp [yk, List.range_succ]
theorem yk_len (l : List Nat) (k : Nat) : (yk l k).length = k := by simp [yk]
theorem yk_get (l : List Nat) {k i : Nat} (h : i < k) : (yk l k)[i]? = some (idD (l.getD i 0) i) := by simp [yk, h]
theorem yk_ok {l : List Nat} (hl : ∀ a ∈ l, a ≤ 65535) {k : Nat} (hk : k ≤ 30) : ∀ y ∈ yk l k, IdOk y := by
  intro y hy
  obtain ⟨i, hi, rfl⟩ := List.mem_map.1 hy
  have hi := List.mem_range.1 hi
  refine idD_ok _ _ ?_ (by omega)
  rw [List.getD_eq_getElem?_getD]
  cases h : l[i]? with
  | none => simp
  | some a => have := hl a (List.mem_of_getElem? h); simp; omega
end Go.Proofs.YtodjilljcjkacaaGreatDoor
/- Layer 17: the law's num: a number's digits. -/
namespace Go.Proofs.YtodjilljcjkacaaGreatDoor
open Go.RowKit Go.MapKept

theorem digs_step (n : Nat) (s : List UInt8) : (if n / 10 = 0 ∧ (UInt8.ofNat (48 + n % 10) :: s) ≠ [] then UInt8.ofNat (48 + n % 10) :: s else digs (n / 10) ++ (UInt8.ofNat (48 + n % 10) :: s)) = digs n ++ s := by
  conv => rhs; rw [digs]
  by_cases h10 : n < 10
  · rw [if_pos h10, if_pos ⟨by omega, by simp⟩, Nat.mod_eq_of_lt h10]
    rfl
  · rw [if_neg h10, if_neg (by omega), List.append_assoc]
    rfl
theorem digs_len (n : Nat) : (digs n).length ≤ n + 1 := by
  induction n using Nat.strongRecOn with
  | _ n ih =>
    rw [digs]
    split
    · simp
    · rw [List.length_append, List.length_singleton]
      have := ih (n / 10) (by omega)
      omega
def emptyOf : Value → Nat
  | .string b => if b.size = 0 then 1 else 0
  | _ => 0
set_option maxRecDepth 100000
set_option maxHeartbeats 4000000
theorem num17 (n : Nat) (hn : n ≤ 1000000) (w : World) : Calls Tryz.prog 40 #[.int .i64 (n : Int)] w fun e w' => e = .returned (.string (txt (digs n))) ∧ Below w.heap.size w w' := by
  have HN := Lib.hid hn
  have HL := Lib.hid (digs_len n)
  clear hn
  go_enter Tryz.func40, Tryz.ntmps40
  go_wp2_with (fail)
  go_loopw [0, 3, 4, 5, 6, 7, 8, 9, 10, 11, 12, 13, 14, 15, 16, 17, 18, 19] (fun i s _ _ _ _ _ _ _ _ _ _ _ _ _ _ _ _ wr => ∃ (m : Nat) (y : List UInt8), i = .int .i64 (m : Int) ∧ s = .string (txt y) ∧ m ≤ n ∧ (if m = 0 ∧ y ≠ [] then y else digs m ++ y) = digs n ∧ Below w.heap.size w wr) (fun i s _ _ _ _ _ _ _ _ _ _ _ _ _ _ _ _ _ => (intOf i).toNat * 2 + emptyOf s)
  case atStart => exact ⟨n, [], rfl, rfl, Nat.le_refl _, by simp, Below.refl _ _⟩
  case round =>
    obtain ⟨wo, rfl⟩ : ∃ wo : World, wo = wr := ⟨_, rfl⟩
    obtain ⟨m, y, rfl, rfl, hm, hd, hb⟩ := hrel
    have HB := Lib.hid hb
    have HD := Lib.hid hd
    have HM := Lib.hid hm
    clear hb hd
    by_cases h0 : m = 0
    · subst h0
      have e1 : ¬ (0 : Int) < ((0 : Nat) : Int) := by decide
      by_cases hy : y = []
      · subst hy
        have hbs : Bs (wo.alloc (.cells #[Go.Proofs.YtodjilljcjkacaaGreatDoor.u8 48] 5)) (some ⟨wo.heap.size, 0, none⟩) 1 1 [48] := Bs.lit wo [48] _ _ _ rfl rfl rfl (by simp [maxLen])
        have hs := hbs.str (P := Tryz.prog) 40 5 9 Tryz.underlying40 Tryz.underlying5 Tryz.underlying9
        simp only [Go.Proofs.YtodjilljcjkacaaGreatDoor.u8] at hs
        rw [show (((48 : UInt8).toNat : Nat) : Int) = 48 from rfl] at hs
        have HZ : Hid ([48] = [48] ++ ([] : List UInt8)) := Lib.hid rfl
        have HBA : Hid (Below w.heap.size w (wo.alloc (.cells #[.int .u8 48] 5))) := Lib.hid (HB.out.alloc HB.out.size _)
        have hdn : digs n = [48] := by
          have h1 := HD.out
          rw [if_neg (by simp)] at h1
          rw [← h1, digs]
          rfl
        have HDN := Lib.hid hdn
        clear hbs hdn
        go_wp2_with (with_reducible refine wpList_addT (dst := some 17) [48] [] [48] HZ (by kernel_rfl) (by kernel_rfl) (by simp) ?_)
        refine ⟨⟨0, [48], rfl, rfl, Nat.zero_le _, ?_, HBA.out⟩, by simp [emptyOf, txt_size, intOf]⟩
        rw [HDN.out, if_pos ⟨rfl, by simp⟩]
      · have hye : y.isEmpty = false := by
          obtain ⟨a, r, rfl⟩ : ∃ a r, y = a :: r := by cases y with
            | nil => exact absurd rfl hy
            | cons a r => exact ⟨a, r, rfl⟩
          rfl
        have hd := HD.out
        rw [if_pos ⟨rfl, hy⟩] at hd
        have HE := Lib.hid hd
        clear hd
        go_wp2_with (fail)
        go_ret
        rw [← HE.out]
        exact ⟨rfl, HB.out⟩
    · have e1 : (0 : Int) < (m : Int) := by omega
      obtain ⟨c, hc⟩ : ∃ c, c = UInt8.ofNat (48 + m % 10) := ⟨_, rfl⟩
      have hcn : (48 + (m : Int) % 10) = ((c.toNat : Nat) : Int) := by
        rw [hc]
        simp
        omega
      have HC := Lib.hid hc
      have hbs : Bs (wo.alloc (.cells #[Go.Proofs.YtodjilljcjkacaaGreatDoor.u8 c] 5)) (some ⟨wo.heap.size, 0, none⟩) 1 1 [c] := Bs.lit wo [c] _ _ _ rfl rfl rfl (by simp [maxLen])
      have hs := hbs.str (P := Tryz.prog) 40 5 9 Tryz.underlying40 Tryz.underlying5 Tryz.underlying9
      simp only [Go.Proofs.YtodjilljcjkacaaGreatDoor.u8] at hs
      rw [← hcn] at hs
      have HYL : Hid (y.length ≤ 2000000) := Lib.hid (by
        have h1 := HD.out
        have h2 := HL.out
        have h3 := HN.out
        split at h1
        · rw [h1]; omega
        · rw [← h1, List.length_append] at h2; omega)
      have HZ : Hid (c :: y = [c] ++ y) := Lib.hid rfl
      have HBA : Hid (Below w.heap.size w (wo.alloc (.cells #[.int .u8 (48 + (m : Int) % 10)] 5))) := Lib.hid (HB.out.alloc HB.out.size _)
      clear hbs hc hcn
      have e0 : wrap64 ((m : Int) / 10) = ((m / 10 : Nat) : Int) := by have := HN.out; have := HM.out; simp only [wrap64]; omega
      go_wp2_with (with_reducible refine wpList_addT (dst := some 17) [c] y (c :: y) HZ (by kernel_rfl) (by kernel_rfl) (by have := HYL.out; simp; omega) ?_)
      refine ⟨⟨m / 10, c :: y, by rw [e0], rfl, by have := HM.out; omega, ?_, HBA.out⟩, ?_⟩
      · have := digs_step m y
        rw [← HC.out] at this
        rw [this, ← HD.out, if_neg (by omega)]
      · have h2 : emptyOf (str (c :: y)) = 0 := by simp [emptyOf, txt_size]
        rw [e0, h2]
        simp [intOf]
        omega
end Go.Proofs.YtodjilljcjkacaaGreatDoor
/- Layer 17: an inbox that is fed right messages with junk between, as it lies; rows of numbers of 16 bits. -/
namespace Go.Proofs.YtodjilljcjkacaaGreatDoor
open Go.RowKit Go.MapKept

/-- the slice reads as numbers of 16 bits -/
def Us (w : World) (A : Option Addr) (n c : Nat) (Z : List Nat) : Prop :=
  Z.length = n ∧ n ≤ c ∧ c ≤ maxLen ∧ (∀ x ∈ Z, x ≤ 65535) ∧ (0 < n → ∃ b o, A = some ⟨b, o, none⟩ ∧ b < w.heap.size ∧ ∀ (i : Nat) (x : Nat), Z[i]? = some x → w.cell? ⟨b, o + i, none⟩ = some (.int .u16 (x : Int)))
theorem Us.below {w w' : World} {A : Option Addr} {n c : Nat} {Z : List Nat} (h : Us w A n c Z) (hb : Below w.heap.size w w') : Us w' A n c Z :=
  ⟨h.1, h.2.1, h.2.2.1, h.2.2.2.1, fun hn => by
    obtain ⟨b, o, e, hlt, hc⟩ := h.2.2.2.2 hn
    exact ⟨b, o, e, Nat.lt_of_lt_of_le hlt hb.size, fun i x hx => (hb.cell (p := ⟨b, o + i, none⟩) hlt).trans (hc i x hx)⟩⟩
theorem Us.read {w : World} {A : Option Addr} {n c : Nat} {Z : List Nat} (h : Us w A n c Z) {i : Nat} (hi : i < n) : ∃ b o, A = some ⟨b, o, none⟩ ∧ b < w.heap.size ∧ w.cell? ⟨b, o + i, none⟩ = some (.int .u16 ((Z.getD i 0 : Nat) : Int)) := by
  obtain ⟨b, o, e, hlt, hc⟩ := h.2.2.2.2 (by omega)
  refine ⟨b, o, e, hlt, hc i _ ?_⟩
  rw [List.getD_eq_getElem?_getD, List.getElem?_eq_getElem (by rw [h.1]; exact hi)]
  rfl
theorem Us.nmax {w : World} {A : Option Addr} {n c : Nat} {Z : List Nat} (h : Us w A n c Z) : n ≤ 9223372036854775807 := by
  have := h.2.1
  have := h.2.2.1
  simp only [maxLen] at this
  omega
theorem Us.small {w : World} {A : Option Addr} {n c : Nat} {Z : List Nat} (h : Us w A n c Z) (i : Nat) : Z.getD i 0 ≤ 65535 := by
  rw [List.getD_eq_getElem?_getD]
  cases hx : Z[i]? with
  | none => simp
  | some x => exact h.2.2.2.1 x (List.mem_of_getElem? hx)
/-- an inbox of frames of up to 200 bytes on a log with much room, fed p; Y are the ids; beside blocks Zr -/
def IdP (Zr : Nat → Prop) (w : World) (B D M L Q X : Nat) (p : List UInt8) (Y : List (List UInt8)) (N : Nat) (W : World) : Prop :=
  ∃ O F v va, Fed Zr W B D M L Q X 100000 200 p O F v va ∧ RunI p Y ∧ p.length ≤ N ∧ Below w.heap.size w W ∧ B ≤ W.heap.size ∧ w.heap.size ≤ B
section
variable {Zr Zr' : Nat → Prop} {w W W' : World} {B D M L Q X N : Nat} {p : List UInt8} {Y : List (List UInt8)}
theorem IdP.low (h : IdP Zr w B D M L Q X p Y N W) : Below w.heap.size w W := by
  obtain ⟨O, F, v, va, h1, h2, h3, h4, h5, h6⟩ := h
  exact h4
theorem IdP.add (h : IdP Zr w B D M L Q X p Y N W) (hb : Below W.heap.size W W') (hZ : ∀ k, Zr' k → Zr k ∨ (W.heap.size ≤ k ∧ k < W'.heap.size)) : IdP Zr' w B D M L Q X p Y N W' := by
  obtain ⟨O, F, v, va, ⟨h1, h1b⟩, h2, h3, h4, h5, h6⟩ := h
  exact ⟨O, F, v, va, ⟨h1.addZ hb hZ, h1b⟩, h2, h3, h4.trans (hb.mono h4.size), Nat.le_trans h5 hb.size, h6⟩
theorem IdP.below (h : IdP Zr w B D M L Q X p Y N W) (hb : Below W.heap.size W W') : IdP Zr w B D M L Q X p Y N W' := h.add hb (fun _ hk => .inl hk)
theorem IdP.less (h : IdP Zr w B D M L Q X p Y N W) (hZ : ∀ k, Zr' k → Zr k) : IdP Zr' w B D M L Q X p Y N W := h.add (Below.refl _ _) (fun k hk => .inl (hZ k hk))
theorem IdP.more {N' : Nat} (h : IdP Zr w B D M L Q X p Y N W) (hN : N ≤ N') : IdP Zr w B D M L Q X p Y N' W := by
  obtain ⟨O, F, v, va, h1, h2, h3, h4, h5, h6⟩ := h
  exact ⟨O, F, v, va, h1, h2, Nat.le_trans h3 hN, h4, h5, h6⟩
/-- it is fed -/
theorem id_feed (h : IdP Zr w B D M L Q X p Y N W) (hb : Below W.heap.size W W') (hG : ∀ W, Below w.heap.size w W → Vers W ∧ Signs W ∧ Cds W) (A : Option Addr) (n c : Nat) (y : List UInt8) (Y' : List (List UInt8)) (hl : Bs W' A n c y)
    (hoff : 0 < n → ∀ b, A = some b → Zr b.block ∨ W.heap.size ≤ b.block) (hr : RunI p Y → RunI (p ++ y) Y') (hN : N + n ≤ 1000000) :
    Calls Tryz.prog 16 #[pI X, .slice A n c] W' fun e W2 => e = .returned (.int .i64 0) ∧ IdP Zr w B D M L Q X (p ++ y) Y' (N + n) W2 ∧ (∀ A n c l, Bs W' A n c l → (∀ b, A = some b → Zr b.block) → Bs W2 A n c l) := by
  have hin := h
  obtain ⟨O, F, v, va, ⟨h1, h1b⟩, h2, h3, h4, h5, h6⟩ := h
  have hw := h4.trans (hb.mono h4.size)
  have hFl := fun k (hk : FI L D M Q X O F v va k) => (h1.foot_lt hk)
  have h1' : Fed Zr W' B D M L Q X 100000 200 p O F v va := ⟨h1.below hb, h1b⟩
  have hy := hl.len
  refine (mFed h1' (by decide) (by decide) A n c y hl (by omega) (fun h0 b hbb hk => ?_) (fun W2 hb2 => hG W2 (hw.trans (hb2.mono h6))) (Nat.le_trans h5 hb.size)).mono ?_
  · rcases hoff h0 b hbb with hz | hz
    · exact h1.zf hz hk
    · have := (hFl _ hk).2; omega
  · rintro e W2 ⟨he, O', F', v', va', hf, hic⟩
    refine ⟨he, ⟨O', F', v', va', hf, hr h2, by rw [List.length_append]; omega, hw.trans ((hic.ch.below (fun k hk => (hFl k hk).1) (Nat.le_trans h5 hb.size)).mono h6), Nat.le_trans (Nat.le_trans h5 hb.size) hic.ch.size, h6⟩, fun A2 n2 c2 l2 hb2 hz => ?_⟩
    exact hb2.ch hic.ch (fun _ b hbb hk => h1.zf (hz b hbb) hk)
end
theorem ack_same (x y : ByteArray) (w : World) : (binOp .neq 80 (ackV x y) (ackV x y)).run Tryz.prog w = .ok (.bool false) w := by
  rw [run_neq_struct, run_equalIn_agg (ht := by kernel_rfl) (hp := by kernel_rfl)]
  simp [Op.eqFields, Program.fieldsOf, Tryz.underlying80, part, go_sem]
end Go.Proofs.YtodjilljcjkacaaGreatDoor
/- A region that draws its order: operations that only read are taken first, by the cheap step; the others come up one at a time. No condition. -/
namespace Go.Proofs.YtodjilljcjkacaaGreatDoor
open Go.RowKit

/-- worlds that meet S -/
structure Meets (S : World → Prop) where
  u : World
  h : S u
/-- an operation that yields a value, and enters no function -/
def isV : Op → Bool
  | .move _ | .assign _ | .pick .. | .load .. | .nilCheck _ | .binOp .. | .unOp .. | .convert .. | .fieldAddr .. | .indexAddr .. | .index .. | .field .. | .extract .. | .slice .. | .makeInterface .. => true
  | .call c => match c.callee with
    | .builtin .len => true
    | .builtin .max => true
    | .builtin .min => true
    | _ => false
  | _ => false
def IsVal (s : Sem Next) : Prop := ∀ P w n w', s.run P w = .ok n w' → ∃ u, n = .value u
theorem IsVal.pure (v : Value) : IsVal (pure (.value v)) := fun P w n w' h => by simp at h; exact ⟨_, h.1.symm⟩
theorem IsVal.bind {α : Type} {s : Sem α} {k : α → Sem Next} (hk : ∀ x, IsVal (k x)) : IsVal (s >>= k) := fun P w n w' h => by
  simp only [Sem.run_bind] at h
  cases hs : s.run P w with
  | ok u w1 => rw [hs] at h; exact hk u P w1 n w' h
  | halt x w1 => rw [hs] at h; simp [Result.andThen] at h
theorem IsVal.nil : IsVal (runtimePanic .nilDeref) := fun P w n w' h => by simp [runtimePanic, goPanic] at h
theorem isV_value {o : Oper} {f : Operand → Value} (h : isV o.op = true) : IsVal (execOp f o) := by
  unfold execOp
  cases ho : o.op <;> rw [ho] at h <;> simp only [isV] at h <;> try cases h
  all_goals first
    | exact IsVal.pure _
    | exact IsVal.bind (fun _ => IsVal.pure _)
    | skip
  · dsimp only
    split
    all_goals first
      | exact IsVal.pure _
      | exact IsVal.nil
      | skip
    split
    · exact IsVal.nil
    · refine IsVal.bind (fun _ => IsVal.bind (fun _ => ?_))
      split
      · exact IsVal.bind (fun _ => IsVal.pure _)
      · exact IsVal.pure _
    · exact IsVal.pure _
  · rename_i c
    dsimp only
    have hr : ∀ b, c.callee = .builtin b → resolve f c o.type = pure { target := .builtin b c.argTypes o.type (c.args.map fun | .const _ => true | _ => false), args := c.args.map f } := fun b hb => by
      unfold resolve
      rw [hb]
      rfl
    split at h
    · rename_i hb
      rw [hr _ hb]
      simp only [pure_bind, invoke, builtin]
      exact IsVal.bind (fun _ => IsVal.pure _)
    · rename_i hb
      rw [hr _ hb]
      simp only [pure_bind, invoke, builtin]
      exact IsVal.bind (fun _ => IsVal.pure _)
    · rename_i hb
      rw [hr _ hb]
      simp only [pure_bind, invoke, builtin]
      exact IsVal.bind (fun _ => IsVal.pure _)
    · cases h

/-- the operations of these numbers -/
def pick (l : List Oper) : List Nat → List Oper
  | [] => []
  | i :: r => match l[i]? with
    | some o => o :: pick l r
    | none => pick l r
def setAll (listed : Array Bool) : List Nat → Array Bool
  | [] => listed
  | i :: r => setAll (listed.setIfInBounds i true) r
/-- may these be taken one after another? -/
def takesB (ops : Array Oper) (listed : Array Bool) : List Nat → Bool
  | [] => true
  | i :: r => ((ops[i]?).map (fun o => isV o.op)).getD false && Region.free .any ops listed i && (Region.ready .any ops listed).contains i && takesB ops (listed.setIfInBounds i true) r
/-- a plan: groups that are taken, each with one that comes up behind it; at last a group -/
def planB (ops : Array Oper) (listed : Array Bool) : List (List Nat × Nat) → List Nat → Bool
  | [], last => takesB ops listed last && (Region.ready .any ops (setAll listed last) == [])
  | (qs, i) :: r, last => takesB ops listed qs && (Region.ready .any ops (setAll listed qs) == [i]) && planB ops ((setAll listed qs).setIfInBounds i true) r last
def planN : List (List Nat × Nat) → List Nat → Nat
  | [], last => last.length
  | (qs, _) :: r, last => (planN r last + 1) + qs.length
section
variable {P : Program} {l : List Oper} {Q : Exit → Act → World → Prop} {S : World → Prop}
abbrev InS (S : World → Prop) : World → Prop := fun w => ∃ m : Meets S, w = m.u
theorem takes (hs : Region.noSelect l.toArray = true) (hQ : ∀ c a d v w, Q (.panic c) (a.put (some d) v) w → Q (.panic c) a w) :
    ∀ (qs : List Nat) (fuel : Nat) (listed : Array Bool) (a : Act) (w : World), takesB l.toArray listed qs = true → S w →
      wpQuiet P l.toArray (InS S) (fun a' => wpAnyH P .any l.toArray Q S fuel (setAll listed qs) a' w) (pick l qs) a → wpAnyH P .any l.toArray Q S (fuel + qs.length) listed a w
  | [], fuel, listed, a, w, _, _, h => h
  | i :: r, fuel, listed, a, w, hB, hS, h => by
    simp only [takesB, Bool.and_eq_true, List.getElem?_toArray] at hB
    obtain ⟨⟨⟨h1, h2⟩, h3⟩, h4⟩ := hB
    cases ho : l[i]? with
    | none => rw [ho] at h1; cases h1
    | some o =>
      rw [ho] at h1
      have hv : isV o.op = true := h1
      have hp : pick l (i :: r) = o :: pick l r := by simp only [pick, ho]
      rw [hp] at h
      unfold wpQuiet at h
      have hq : ∀ v c a w, Q (.panic c) (a.put o.dst v) w → Q (.panic c) a w := fun v c a w => by
        cases o.dst with
        | none => exact id
        | some d => exact hQ c a d v w
      have hi : l.toArray[i]? = some o := by rw [List.getElem?_toArray]; exact ho
      have ih := takes hs hQ r fuel (listed.setIfInBounds i true)
      by_cases hw : Region.wanted o (yielded l.toArray a.tmps) = true
      · rw [if_pos hw] at h
        obtain ⟨v, hy, hk⟩ := h
        refine wpAnyH_take (v := v) hi hs h2 h3 (hq v) (.inl ⟨hw, fun W hW => ?_⟩) hS (ih _ w h4 hS hk)
        have := hy W ⟨⟨W, hW⟩, rfl⟩
        unfold Oper.quietAt at this
        cases hr : (execOp a.eval o).run P W with
        | ok n w' =>
          obtain ⟨u, rfl⟩ := isV_value hv P W n w' hr
          rw [hr] at this
          obtain ⟨rfl, rfl⟩ := this
          rfl
        | halt x w' => rw [hr] at this; cases this
      · rw [if_neg hw] at h
        exact wpAnyH_take (v := undef) hi hs h2 h3 (hq undef) (.inr ⟨by simpa using hw, rfl⟩) hS (ih _ w h4 hS h)
theorem wpQuiet_mono {ops : Array Oper} {C : World → Prop} {A B : Act → Prop} (h : ∀ a, A a → B a) : ∀ (os : List Oper) (a : Act), wpQuiet P ops C A os a → wpQuiet P ops C B os a
  | [], a, k => h a k
  | o :: r, a, k => by
    unfold wpQuiet at k ⊢
    split
    · rename_i hw
      rw [if_pos hw] at k
      obtain ⟨v, h1, h2⟩ := k
      exact ⟨v, h1, wpQuiet_mono h r _ h2⟩
    · rename_i hw
      rw [if_neg hw] at k
      exact wpQuiet_mono h r _ k
end
end Go.Proofs.YtodjilljcjkacaaGreatDoor
/- A region by a plan, where what the worlds meet may grow behind each operation that is no reading. No condition. -/
namespace Go.Proofs.YtodjilljcjkacaaGreatDoor
open Go.RowKit

section
variable {P : Program} {l : List Oper} {Q : Exit → Act → World → Prop}
def wpPlan2 (P : Program) (l : List Oper) (Q : Exit → Act → World → Prop) : List (List Nat × Nat) → List Nat → (World → Prop) → Act → World → Prop
  | [], last, S, a, w => wpQuiet P l.toArray (InS S) (fun a' => Q .normal a' w) (pick l last) a
  | (qs, i) :: r, last, S, a, w => wpQuiet P l.toArray (InS S) (fun a' => ∀ K : Act → World → Prop, Shut (∀ (S' : World → Prop) a w, (∀ u, S' u → S u) → S' w → (Nonempty (Meets S') → wpPlan2 P l Q r last S' a w) → K a w) →
      (l[i]?).elim False fun o => if Region.wanted o (yielded l.toArray a'.tmps) = true then Oper.wp P o a' w K Q else K (a'.put o.dst undef) w) (pick l qs) a
theorem plan_any2 (hs : Region.noSelect l.toArray = true) (hQ : ∀ c a d v w, Q (.panic c) (a.put (some d) v) w → Q (.panic c) a w) :
    ∀ (r : List (List Nat × Nat)) (last : List Nat) (S : World → Prop) (listed : Array Bool) (a : Act) (w : World), planB l.toArray listed r last = true → S w → wpPlan2 P l Q r last S a w → wpAnyH P .any l.toArray Q S (planN r last) listed a w
  | [], last, S, listed, a, w, hB, hS, h => by
    simp only [planB, Bool.and_eq_true, beq_iff_eq] at hB
    have := takes (P := P) hs hQ last 0 listed a w hB.1 hS (wpQuiet_mono (fun a' ha => wpAnyH_done hB.2 ha 0) _ _ h)
    simpa [planN] using this
  | (qs, i) :: r, last, S, listed, a, w, hB, hS, h => by
    simp only [planB, Bool.and_eq_true, beq_iff_eq] at hB
    refine takes (P := P) hs hQ qs (planN r last + 1) listed a w hB.1.1 hS (wpQuiet_mono (fun a' ha => ?_) _ _ h)
    refine wpAnyH_ready hB.1.2 (by simp) (fun j hj => ?_)
    rw [List.mem_singleton.1 hj]
    have h1 := fun K hK => ha K hK
    cases ho : l[i]? with
    | none =>
      rw [ho] at h1
      exact (h1 (fun _ _ => True) (fun _ _ _ _ _ _ => trivial)).elim
    | some o =>
      rw [ho] at h1
      exact wpOp_step (by rw [List.getElem?_toArray]; exact ho) (fun K hK => h1 K (fun S' a w hSS hS' hW => hK a w ⟨hSS w hS', wpAnyH_imp hSS _ _ _ _ (plan_any2 hs hQ r last S' _ a w hB.2 hS' (hW ⟨⟨w, hS'⟩⟩))⟩))
/-- A region by a plan. -/
theorem region_plan2 {id : Nat} {a : Act} {w : World} (S : World → Prop) (r : List (List Nat × Nat)) (last : List Nat) (hm : P.follows .mixedOrders = true)
    (hB : (Region.noSelect l.toArray && planB l.toArray (Array.replicate l.length false) r last && (planN r last == l.length)) = true) (hQ : ∀ c a d v w, Q (.panic c) (a.put (some d) v) w → Q (.panic c) a w) (hS : S w.drew)
    (h : Nonempty (Meets S) → wpPlan2 P l Q r last S a w.drew) : (Code.region id l.toArray true).wp P Q a w := by
  simp only [Bool.and_eq_true, beq_iff_eq] at hB
  refine wp_region_held_drew (S := S) hm hS (fun _ => ?_)
  have := plan_any2 (P := P) hB.1.1 hQ r last S (Array.replicate l.length false) a w.drew hB.1.2 hS (h ⟨⟨_, hS⟩⟩)
  rw [hB.2] at this
  simpa using this
end
end Go.Proofs.YtodjilljcjkacaaGreatDoor
