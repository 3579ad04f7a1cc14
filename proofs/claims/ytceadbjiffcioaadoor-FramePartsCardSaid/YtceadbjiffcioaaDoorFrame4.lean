/- Layer 4: the document's answers, and the examples. -/
import Derived.Test.YtceadbjiffcioaaDoorFrame3
namespace Go.Proofs.YtceadbjiffcioaaDoor
open Go.RowKit

set_option maxRecDepth 100000 in
set_option maxHeartbeats 1000000 in
theorem refGood_yes (A : Option Addr) (n c : Nat) (l : List UInt8) (w : World) (hB : Bs w A n c l) (hg : good l = true) :
    Calls Tryd.prog 11 #[.slice A n c] w fun e w' => e = .returned (.bool true) ∧ w = w' := by
  have hn := hB.nmax
  have HG := Lib.hid hg; clear hg
  have HB := Lib.hid hB; clear hB
  go_enter Tryd.func11, Tryd.ntmps11
  go_wp2
  go_loop [3] (fun i => ∃ k : Nat, k ≤ n ∧ i = .int .i64 k) (fun i => n - (intOf i).toNat)
  case atStart => exact ⟨0, Nat.zero_le _, rfl⟩
  case round =>
    obtain ⟨k, hk, rfl⟩ := hrel
    by_cases hlt : k < n
    · obtain ⟨b, o, rfl, hb, hc⟩ := HB.out.at_ (by omega)
      have hkl : k < l.length := by have := HB.out.len; omega
      have hbad := good_at HG.out hkl
      have hcell := hc k _ (List.getElem?_eq_getElem hkl)
      have h11 : l[k] ≠ 11 := fun e => good_no_start HG.out (e ▸ List.getElem_mem hkl)
      unfold badAt at hbad
      rw [List.getElem?_eq_getElem hkl] at hbad
      generalize l[k] = x at hcell hbad h11
      have h11' := u8_ne (x := x) (k := 11) 11 rfl h11
      by_cases h28 : x = 28
      · subst h28
        have hkn : k + 1 ≠ l.length := by intro e; simp [e] at hbad
        have hk1 : k + 1 < l.length := by omega
        have hcell1 := hc (k + 1) _ (List.getElem?_eq_getElem hk1)
        rw [List.getElem?_eq_getElem hk1] at hbad
        generalize l[k + 1] = y at hcell1 hbad
        have hne := u8_ne (x := y) (k := 13) 13 rfl (by intro e; subst e; simp at hbad)
        have hk2 : ((k : Int) + 1 == n) = false := by rw [beq_eq_false_iff_ne]; have := HB.out.len; omega
        have hk3 : k + 1 < n := by have := HB.out.len; omega
        clear hbad hkn hc h11 h11'
        go_wp2
        go_round
        case rel => exact ⟨k + 1, by omega, by go_num⟩
        case measure => simp [intOf]; omega
      · have hx' := u8_ne (x := x) (k := 28) 28 rfl h28
        clear hbad hc
        go_wp2
        go_round
        case rel => exact ⟨k + 1, by omega, by go_num⟩
        case measure => simp [intOf]; omega
    · go_wp2
      go_ret
      exact ⟨rfl, rfl⟩

theorem not_good_place {l : List UInt8} (h : good l = false) : ∃ j, j < l.length ∧ (l[j]? = some 11 ∨ badAt l j = true) := by
  apply Classical.byContradiction
  intro hne
  rw [good_of (l := l) (fun hm => by
    obtain ⟨j, hj, e⟩ := List.getElem_of_mem hm
    exact hne ⟨j, hj, .inl (by rw [List.getElem?_eq_getElem hj, e])⟩) (fun i hi => by
    cases hb : badAt l i with
    | false => rfl
    | true => exact absurd ⟨i, hi, .inr hb⟩ hne)] at h
  cases h

set_option maxRecDepth 100000 in
set_option maxHeartbeats 1000000 in
theorem refGood_no (A : Option Addr) (n c : Nat) (l : List UInt8) (w : World) (hB : Bs w A n c l) (hg : good l = false) :
    Calls Tryd.prog 11 #[.slice A n c] w fun e w' => e = .returned (.bool false) ∧ w = w' := by
  have hn := hB.nmax
  obtain ⟨j, hj, hjb⟩ := not_good_place hg
  have hjn : j < n := by have := hB.len; omega
  have HJ := Lib.hid hjb; clear hjb hg
  have HB := Lib.hid hB; clear hB
  go_enter Tryd.func11, Tryd.ntmps11
  go_wp2
  go_loop [3] (fun i => ∃ k : Nat, k ≤ j ∧ i = .int .i64 k) (fun i => n - (intOf i).toNat)
  case atStart => exact ⟨0, Nat.zero_le _, rfl⟩
  case round =>
    obtain ⟨k, hk, rfl⟩ := hrel
    have hlt : k < n := by omega
    obtain ⟨b, o, rfl, hb, hc⟩ := HB.out.at_ (by omega)
    have hkl : k < l.length := by have := HB.out.len; omega
    have ek := List.getElem?_eq_getElem hkl
    have hcell := hc k _ ek
    by_cases h11 : l[k] = 11
    · rw [h11] at hcell
      clear hc ek h11
      go_wp2
      go_ret
      exact ⟨rfl, rfl⟩
    · have hJ2 : k = j → badAt l k = true := by
        rintro rfl
        exact HJ.out.resolve_left (by rw [ek]; simpa using h11)
      cases hbad : badAt l k with
      | false =>
        have hkj : k < j := by
          rcases Nat.lt_or_ge k j with h | h
          · exact h
          · rw [hJ2 (by omega)] at hbad; cases hbad
        unfold badAt at hbad
        rw [ek] at hbad
        generalize l[k] = x at hcell hbad h11 ek
        have h11' := u8_ne (x := x) (k := 11) 11 rfl h11
        by_cases h28 : x = 28
        · subst h28
          have hkn : k + 1 ≠ l.length := by intro e; simp [e] at hbad
          have hk1 : k + 1 < l.length := by omega
          have hcell1 := hc (k + 1) _ (List.getElem?_eq_getElem hk1)
          rw [List.getElem?_eq_getElem hk1] at hbad
          generalize l[k + 1] = y at hcell1 hbad
          have hne := u8_ne (x := y) (k := 13) 13 rfl (by intro e; subst e; simp at hbad)
          have hk2 : ((k : Int) + 1 == n) = false := by rw [beq_eq_false_iff_ne]; have := HB.out.len; omega
          have hk3 : k + 1 < n := by have := HB.out.len; omega
          clear hbad hkn hc h11 h11' ek hJ2
          go_wp2
          go_round
          case rel => exact ⟨k + 1, by omega, by go_num⟩
          case measure => simp [intOf]; omega
        · have hx' := u8_ne (x := x) (k := 28) 28 rfl h28
          clear hbad hc ek hJ2 h11
          go_wp2
          go_round
          case rel => exact ⟨k + 1, by omega, by go_num⟩
          case measure => simp [intOf]; omega
      | true =>
        unfold badAt at hbad
        rw [ek] at hbad
        simp only [Bool.and_eq_true, beq_iff_eq, Option.some.injEq, Bool.or_eq_true, decide_eq_true_eq] at hbad
        obtain ⟨h28, hend⟩ := hbad
        rw [h28] at hcell
        by_cases he : k + 1 = l.length
        · have hk2 : ((k : Int) + 1 == n) = true := by rw [beq_iff_eq]; have := HB.out.len; omega
          clear hend he hc h28 ek hJ2 h11
          go_wp2
          go_ret
          exact ⟨rfl, rfl⟩
        · have h13 := hend.resolve_left he
          have hcell1 := hc (k + 1) _ h13
          have hk1 : k + 1 < l.length := by omega
          have hk2 : ((k : Int) + 1 == n) = false := by rw [beq_eq_false_iff_ne]; have := HB.out.len; omega
          have hk3 : k + 1 < n := by have := HB.out.len; omega
          clear hend hc h28 he h13 ek hJ2 h11
          go_wp2
          go_ret
          exact ⟨rfl, rfl⟩

theorem refGood (A : Option Addr) (n c : Nat) (l : List UInt8) (w : World) (hB : Bs w A n c l) (r : Bool) (hr : good l = r) :
    Calls Tryd.prog 11 #[.slice A n c] w fun e w' => e = .returned (.bool r) ∧ w = w' := by
  subst hr
  cases hg : good l with
  | true => exact refGood_yes A n c l w hB hg
  | false => exact refGood_no A n c l w hB hg

/-- what a call gives that answers bytes, and leaves what was there -/
def RetB (l : List UInt8) (w : World) (e : Ending) (w' : World) : Prop :=
  ∃ A c, e = .returned (.slice A l.length c) ∧ Bs w' A l.length c l ∧ Below w.heap.size w w'

set_option maxRecDepth 100000 in
theorem refWrap (A : Option Addr) (n c : Nat) (l : List UInt8) (w : World) (hB : Bs w A n c l) (hn : n ≤ 140737488351232) :
    Calls Tryd.prog 14 #[.slice A n c] w (RetB (11 :: (l ++ [28, 13])) w) := by
  have HB := Lib.hid hB
  have HL : l.length ≤ n := by have := hB.len; omega
  have tok1 : True := trivial
  have tok2 : True := trivial
  clear hB
  go_enter Tryd.func14, Tryd.ntmps14
  go_wp2_with (first
    | (at_builtin; have _t := tok1
       refine wpList_app rfl (.tmp 3) (.tmp 4) 22 rfl w.heap.size 5 Tryd.underlying22 byteInfo _ [11] rfl (Own.lit 5 w [11] (Nat.le_refl _) (by simp [maxLen])) _ n c l rfl (HB.out.alloc _) (by simp; omega) (by simp) ?_
       intro v1 w1 hown1 hb1 hg1
       have b1 : Below w.heap.size w w1 := ((Below.refl _ _).alloc (Nat.le_refl _) _).trans hb1
       clear tok1 hb1 hg1 _t)
    | (at_builtin; have _t := tok2
       refine wpList_app rfl (.tmp 5) (.tmp 6) 22 rfl w.heap.size 5 Tryd.underlying22 byteInfo _ ([11] ++ l) rfl (hown1.alloc _) _ 2 2 [28, 13] rfl (Bs.lit _ [28, 13] 5 _ _ rfl rfl rfl (by simp [maxLen])) (by simp; omega) (by have := b1.size; simp; omega) ?_
       intro v2 w2 hown2 hb2 hg2
       have b2 : Below w.heap.size w w2 := (b1.alloc b1.size _).trans hb2
       clear tok2 hb2 hg2 _t))
  go_ret
  obtain ⟨A4, c4, rfl, hB4, _⟩ := hown2.bs
  have hl4 : ([11] ++ l ++ [28, 13] : List UInt8) = 11 :: (l ++ [28, 13]) := by simp
  rw [hl4] at hB4 ⊢
  exact ⟨A4, c4, rfl, hB4, b2⟩

/-- the document's Unwrap: the answer lies in the argument's memory -/
def RefUnw (l : List UInt8) (w : World) (e : Ending) (w' : World) : Prop :=
  ∃ A c, e = .returned (.tuple #[.slice A (unwrapGet l).length c, .int .i64 (unwrapErr l)]) ∧ Bs w A (unwrapGet l).length c (unwrapGet l) ∧ w = w'

set_option maxRecDepth 100000 in
set_option maxHeartbeats 1000000 in
theorem refUnwrap (A : Option Addr) (n c : Nat) (l : List UInt8) (w : World) (hB : Bs w A n c l) :
    Calls Tryd.prog 16 #[.slice A n c] w (RefUnw l w) := by
  by_cases hn : n < 3
  · obtain ⟨h1, h2⟩ := unwrap_short (l := l) (by rw [hB.len]; exact hn)
    unfold RefUnw
    rw [h1, h2]
    go_enter Tryd.func16, Tryd.ntmps16
    go_wp2
    go_ret2
    exact ⟨none, 0, rfl, Bs.none_ _, rfl⟩
  · have hlen := hB.len
    have hmax := hB.nmax
    have hle := hB.le
    have hcm := hB.max
    obtain ⟨b, o, rfl, hb, hc⟩ := hB.at_ (by omega)
    obtain ⟨x0, e0⟩ : ∃ x, l[0]? = some x := ⟨_, List.getElem?_eq_getElem (by omega)⟩
    obtain ⟨x1, e1⟩ : ∃ x, l[l.length - 2]? = some x := ⟨_, List.getElem?_eq_getElem (by omega)⟩
    obtain ⟨x2, e2⟩ : ∃ x, l[l.length - 1]? = some x := ⟨_, List.getElem?_eq_getElem (by omega)⟩
    have c0 := hc _ _ e0
    have c1 := hc _ _ e1
    have c2 := hc _ _ e2
    have hfr : isFrame l = ((x0 == 11) && (x1 == 28) && (x2 == 13) && good ((l.take (l.length - 2)).drop 1)) := by
      unfold isFrame
      rw [decide_eq_true (by omega), e0, e1, e2]
      rfl
    have hin := hB.cut (i := 1) (j := n - 2) (by omega) (by omega)
    have HF := Lib.hid hfr
    rw [hlen] at c1 c2
    rw [Nat.add_zero] at c0
    rw [if_neg (by omega), Option.map_some, Addr.add_lit] at hin
    clear e0 e1 e2 hfr
    have HL := Lib.hid hlen
    have hn3 : ¬ (n : Int) < 3 := by omega
    have h0n : (0 : Int) < (n : Int) := by omega
    have hn2 : 3 ≤ n := by omega
    clear hlen hB hc hn
    by_cases h0 : x0 = 11
    · subst h0
      by_cases h1 : x1 = 28
      · subst h1
        by_cases h2 : x2 = 13
        · subst h2
          cases hg : good ((l.take (n - 2)).drop 1) with
          | false =>
            have hfin := unwrap_not (l := l) (by have := HL.out; omega) (by rw [HF.out, HL.out, hg]; simp)
            unfold RefUnw
            rw [hfin.1, hfin.2]
            clear hfin
            have HG := Lib.hid (refGood _ _ _ _ w hin false hg)
            clear hg
            go_enter Tryd.func16, Tryd.ntmps16
            go_wp2_with (go_at_call 11; refine (HG.out).mono ?_; rintro e w1 ⟨rfl, rfl⟩)
            go_ret2
            exact ⟨none, 0, rfl, Bs.none_ _, rfl⟩
          | true =>
            have hfin := unwrap_is (l := l) (by have := HL.out; omega) (by rw [HF.out, HL.out, hg]; simp)
            unfold RefUnw
            rw [hfin.1, hfin.2, HL.out]
            clear hfin
            have HG := Lib.hid (refGood _ _ _ _ w hin true hg)
            have HI := Lib.hid hin
            clear hg hin
            go_enter Tryd.func16, Tryd.ntmps16
            go_wp2_with (go_at_call 11; refine (HG.out).mono ?_; rintro e w1 ⟨rfl, rfl⟩)
            go_ret2
            have hl : ((l.take (n - 2)).drop 1).length = n - 2 - 1 := HI.out.len
            refine ⟨some ⟨b, o + 1, none⟩, c - 1, by rw [hl]; rfl, ?_, rfl⟩
            rw [hl]
            exact HI.out
        · have g2 := u8_ne (x := x2) (k := 13) 13 rfl h2
          have gg2 := u8_bne (x := x2) (k := 13) 13 rfl h2
          have hfin := unwrap_not (l := l) (by have := HL.out; omega) (by rw [HF.out]; simp [h2])
          unfold RefUnw
          rw [hfin.1, hfin.2]
          clear hfin hin
          go_enter Tryd.func16, Tryd.ntmps16
          go_wp2
          go_ret2
          exact ⟨none, 0, rfl, Bs.none_ _, rfl⟩
      · have g1 := u8_ne (x := x1) (k := 28) 28 rfl h1
        have gg1 := u8_bne (x := x1) (k := 28) 28 rfl h1
        have hfin := unwrap_not (l := l) (by have := HL.out; omega) (by rw [HF.out]; simp [h1])
        unfold RefUnw
        rw [hfin.1, hfin.2]
        clear hfin hin
        go_enter Tryd.func16, Tryd.ntmps16
        go_wp2
        go_ret2
        exact ⟨none, 0, rfl, Bs.none_ _, rfl⟩
    · have g0 := u8_ne (x := x0) (k := 11) 11 rfl h0
      have gg0 := u8_bne (x := x0) (k := 11) 11 rfl h0
      have hfin := unwrap_not (l := l) (by have := HL.out; omega) (by rw [HF.out]; simp [h0])
      unfold RefUnw
      rw [hfin.1, hfin.2]
      clear hfin hin
      go_enter Tryd.func16, Tryd.ntmps16
      go_wp2
      go_ret2
      exact ⟨none, 0, rfl, Bs.none_ _, rfl⟩
end Go.Proofs.YtceadbjiffcioaaDoor
