/- The law FrameParts, both good: the loop. -/
import Derived.Test.YtceadbjiffcioaaDoorFrameParts
namespace Go.Proofs.YtceadbjiffcioaaDoor
open Go.RowKit

set_option maxRecDepth 100000 in
set_option maxHeartbeats 4000000 in
theorem frameParts_yes (A : Option Addr) (n c : Nat) (l : List UInt8) (A' : Option Addr) (n' c' : Nat) (l' : List UInt8) (w : World) (hS : Signs w) (hB : Bs w A n c l) (hB' : Bs w A' n' c' l') (hn : n ≤ 400) (hn' : n' ≤ 400) (hg : good l = true) (hg' : good l' = true) :
    Calls Tryd.prog 6 #[.slice A n c, .slice A' n' c'] w (Alive w) := by
  have hle := hB.le
  have hcm := hB.max
  have HL := Lib.hid hB.len
  have HL' := Lib.hid hB'.len
  have HS := Lib.hid hS
  have HB := Lib.hid hB
  have HB' := Lib.hid hB'
  have HG := Lib.hid hg
  have HG' := Lib.hid hg'
  have tok1 : True := trivial
  have tok2 : True := trivial
  clear hS hB hg hB' hg'
  go_enter Tryd.func6, Tryd.ntmps6
  go_wp2_with (fail)
  refine (frameGood_b A n c l w HS.out HB.out true HG.out).mono ?_
  rintro e w1 ⟨rfl, hb1⟩
  go_wp2_with (fail)
  refine (frameGood_b A' n' c' l' w1 (HS.out.below hb1) (HB'.out.below hb1) true HG'.out).mono ?_
  rintro e w2 ⟨rfl, hb2⟩
  have b2 := Lib.hid (hb1.trans (hb2.mono hb1.size))
  clear hb1 hb2
  go_wp2_with (fail)
  go_loopw [40, 5] (fun i _ wr => ∃ k : Nat, k ≤ n ∧ i = .int .i64 k ∧ Below w.heap.size w wr) (fun i _ _ => n - (intOf i).toNat)
  case atStart => exact ⟨0, Nat.zero_le _, rfl, b2.out⟩
  case round =>
    obtain ⟨k, hk, rfl, hbr⟩ := hrel
    have HR := Lib.hid hbr
    clear hbr
    by_cases hlt : k < n
    · obtain ⟨b, o, rfl, _, hc⟩ := (HB.out.below HR.out).at_ (by omega)
      have BR := Lib.hid (HB.out.below HR.out)
      by_cases h0 : k = 0
      · subst h0
        clear hc
        go_wp2_with (fail)
        refine (frameGood_b _ 0 c (l.take 0) wr (HS.out.below HR.out) (BR.out.upto (by omega)) true (by rfl)).mono ?_
        rintro e w3 ⟨rfl, hb3⟩
        have b3 := Lib.hid (HR.out.trans (hb3.mono HR.out.size))
        clear hb3
        go_wp2_with (fail)
        refine (frameGood_b _ n c l w3 (HS.out.below b3.out) (HB.out.below b3.out) true HG.out).mono ?_
        rintro e w4 ⟨rfl, hb4⟩
        have b4 := Lib.hid (b3.out.trans (hb4.mono b3.out.size))
        clear hb4
        go_wp2_with (fail)
        go_roundw
        case rel => exact ⟨1, by omega, rfl, b4.out⟩
        case measure => simp [intOf]; omega
      · have hk0 : ((k : Int) == 0) = false := by simp; omega
        have hkc : ¬ c = k := by omega
        have hk1 : k - 1 < l.length := by have := HL.out; omega
        have hcell := hc (k - 1) _ (List.getElem?_eq_getElem hk1)
        have hx := List.getElem?_eq_getElem hk1
        generalize l[k - 1] = x at hcell hx
        have HX := Lib.hid hx
        have HC := Lib.hid hcell
        clear hc hx hcell
        by_cases h28 : x = 28
        · subst h28
          go_wp2_with (fail)
          refine (frameGood_b _ k c (l.take k) wr (HS.out.below HR.out) (BR.out.upto hk) false (good_take_no (by have := HL.out; omega) (by omega) HX.out)).mono ?_
          rintro e w3 ⟨rfl, hb3⟩
          have b3 := Lib.hid (HR.out.trans (hb3.mono HR.out.size))
          have hcell := (hb3.cell (p := ⟨b, o + (k - 1), none⟩) (World.block_lt_of_cell? wr _ HC.out)).trans HC.out
          clear hb3
          go_wp2_with (fail)
          refine (frameGood_b _ (n - k) (c - k) (l.drop k) w3 (HS.out.below b3.out) ((HB.out.below b3.out).from_ hlt) true (good_drop HG.out k)).mono ?_
          rintro e w4 ⟨rfl, hb4⟩
          have b4 := Lib.hid (b3.out.trans (hb4.mono b3.out.size))
          clear hb4 hcell
          go_wp2_with (fail)
          go_roundw
          case rel => exact ⟨k + 1, by omega, by go_num, b4.out⟩
          case measure => simp [intOf]; omega
        · have m1 := u8_bne (x := x) (k := 28) 28 rfl h28
          have HN := Lib.hid h28
          clear h28
          go_wp2_with (fail)
          refine (frameGood_b _ k c (l.take k) wr (HS.out.below HR.out) (BR.out.upto hk) true (good_take_yes HG.out (by have := HL.out; omega) (.inr (by rw [HX.out]; simpa using HN.out)))).mono ?_
          rintro e w3 ⟨rfl, hb3⟩
          have b3 := Lib.hid (HR.out.trans (hb3.mono HR.out.size))
          have hcell := (hb3.cell (p := ⟨b, o + (k - 1), none⟩) (World.block_lt_of_cell? wr _ HC.out)).trans HC.out
          clear hb3
          go_wp2_with (fail)
          refine (frameGood_b _ (n - k) (c - k) (l.drop k) w3 (HS.out.below b3.out) ((HB.out.below b3.out).from_ hlt) true (good_drop HG.out k)).mono ?_
          rintro e w4 ⟨rfl, hb4⟩
          have b4 := Lib.hid (b3.out.trans (hb4.mono b3.out.size))
          clear hb4 hcell
          go_wp2_with (fail)
          go_roundw
          case rel => exact ⟨k + 1, by omega, by go_num, b4.out⟩
          case measure => simp [intOf]; omega
    · go_wp2_with (fail)
      refine (alive_any wr (HS.out.below HR.out)).mono ?_
      rintro e w4 ⟨rfl, hb4⟩
      have b4 := Lib.hid (HR.out.trans (hb4.mono HR.out.size))
      have B4 := Lib.hid (HB.out.below b4.out)
      have B4' := Lib.hid (HB'.out.below b4.out)
      clear hb4
      go_wp2_with (first
        | (at_builtin; have _t := tok1
           refine wpList_appG (by rfl) (.tmp 68) (.tmp 69) 22 rfl w4.heap.size 5 Tryd.underlying22 byteInfo _ [] rfl (Own.lit 5 w4 [] (Nat.le_refl _) (by simp [maxLen])) _ n c l rfl (B4.out.alloc _) (by simp; omega) (by simp) ?_
           intro v5 w5 hown5 hb5 hg5
           have b5 := Lib.hid ((((Below.refl _ w4).alloc (Nat.le_refl _) _)).trans hb5)
           clear hb5 hg5 tok1 _t)
        | (at_builtin; have _t := tok2
           refine wpList_appG (by rfl) (.tmp 70) (.tmp 71) 22 rfl w4.heap.size 5 Tryd.underlying22 byteInfo _ ([] ++ l) rfl hown5 _ n' c' l' rfl (B4'.out.below b5.out) (by have := HL.out; simp; omega) b5.out.size ?_
           intro v6 w6 hown6 hb6 hg6
           have b6 := Lib.hid (b5.out.trans hb6)
           clear hb6 hg6 tok2 _t hown5))
      obtain ⟨A6, c6, hv6, hB6, _⟩ := hown6.bs
      subst hv6
      clear hown6
      rw [List.nil_append] at hB6
      have b46 := Lib.hid (b4.out.trans (b6.out.mono b4.out.size))
      refine (frameGood_b A6 _ c6 _ w6 (HS.out.below b46.out) hB6 true (good_append HG.out HG'.out)).mono ?_
      rintro e w7 ⟨rfl, hb7⟩
      go_wp2_with (fail)
      go_ret
      exact ⟨rfl, b46.out.trans (hb7.mono b46.out.size)⟩

theorem frameParts_walk (A : Option Addr) (n c : Nat) (l : List UInt8) (A' : Option Addr) (n' c' : Nat) (l' : List UInt8) (w : World) (hS : Signs w) (hB : Bs w A n c l) (_hR : c ≤ 140737488351232) (hB' : Bs w A' n' c' l') (_hR' : c' ≤ 140737488351232) :
    Calls Tryd.prog 6 #[.slice A n c, .slice A' n' c'] w (Alive w) := by
  by_cases hn : 400 < n ∨ 400 < n'
  · exact frameParts_great A n c l A' n' c' l' w hS hB hB' hn
  · cases hg : good l with
    | false => exact frameParts_no1 A n c l A' n' c' w hS hB (by omega) (by omega) hg
    | true =>
      cases hg' : good l' with
      | false => exact frameParts_no2 A n c l A' n' c' l' w hS hB hB' (by omega) (by omega) hg hg'
      | true => exact frameParts_yes A n c l A' n' c' l' w hS hB hB' (by omega) (by omega) hg hg'
end Go.Proofs.YtceadbjiffcioaaDoor
