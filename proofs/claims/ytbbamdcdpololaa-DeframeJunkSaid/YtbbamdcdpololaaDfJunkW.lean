/- DeframeJunk, walked. -/
import Derived.Test.YtbbamdcdpololaaDfAlive
namespace Go.Proofs.Ytbbamdcdpololaa
open Go.RowKit

set_option maxHeartbeats 4000000 in
set_option maxRecDepth 100000 in
theorem deframeJunk_walk (n : Int) (A : Option Addr) (k c : Nat) (l : List UInt8) (w : World) (_wf : (Lit.int .i64 n).wf = true) (hB : Bs w A k c l) (_hR : c ≤ 140737488351232) : Calls Try.prog 7 #[.int .i64 n, .slice A k c] w (True_ w) := by
  obtain ⟨m, hm1, hm2, hmost⟩ := dMost n
  have hmax := hB.nmax
  have HBS := Lib.hid hB
  have HMO := Lib.hid hmost
  clear _wf hB _hR hmost
  go_enter Try.func7, Try.ntmps7
  go_wp2_with (fail)
  refine (HMO.out w).mono ?_
  rintro e w' ⟨rfl, rfl⟩
  go_wp2_with (fail)
  refine (dNew m hm1 (by omega) w).mono ?_
  rintro e w1 ⟨D, rfl, hd, hb⟩
  have HD := Lib.hid hd
  have HB := Lib.hid hb
  clear hd hb
  go_wp2_with (fail)
  refine (alive05 w1).mono ?_
  rintro e w2 ⟨rfl, hb⟩
  have HD2 := Lib.hid (HD.out.below hb)
  have HB2 : Hid (Below w.heap.size w w2) := Lib.hid (HB.out.trans (hb.mono HB.out.size))
  clear hb HD HB
  by_cases hlong : (2000 : Int) < (k : Int)
  · go_wp2_with (fail)
    refine (alive05 w2).mono ?_
    rintro e w3 ⟨rfl, hb⟩
    have HB3 : Hid (Below w.heap.size w w3) := Lib.hid (HB2.out.trans (hb.mono HB2.out.size))
    clear hb
    go_wp2_with (fail)
    go_ret
    exact ⟨rfl, HB3.out⟩
  · have HK : Hid (k ≤ 2000) := Lib.hid (by omega)
    go_wp2_with (fail)
    go_loopw [7, 36, 9, 10, 11] (fun j i _ _ _ wr => ∃ q p : Nat, q ≤ k ∧ p ≤ q ∧ i = .int .i64 q ∧ j = .int .i64 p ∧ (∃ O, Df w.heap.size D O m { newS with junk := p } wr) ∧ Below w.heap.size w wr) (fun _ i _ _ _ _ => k - (intOf i).toNat)
    case atStart => exact ⟨0, 0, Nat.zero_le _, Nat.le_refl _, rfl, rfl, ⟨none, HD2.out⟩, HB2.out⟩
    case round =>
      clear HD2 HB2
      obtain ⟨q, p, hq, hp, rfl, rfl, ⟨O, hd⟩, hb⟩ := hrel
      have HD := Lib.hid hd
      have HB := Lib.hid hb
      clear hd hb
      by_cases hlt : q < k
      · obtain ⟨b, o, rfl, hbl, hcell⟩ := (HBS.out.below HB.out).at_ (by omega)
        have hlq : q < l.length := by rw [HBS.out.len]; exact hlt
        have hcc := hcell q l[q] (List.getElem?_eq_getElem hlq)
        have e1 : (q : Int) < (k : Int) := by omega
        obtain ⟨x, hx⟩ : ∃ x, x = l[q] := ⟨_, rfl⟩
        rw [← hx] at hcc
        have HLT := Lib.hid hlt
        have HP := Lib.hid hp
        clear hcell hlq hx hlt hp
        by_cases hx11 : x = 11
        · have d11 : (((x.toNat : Nat) : Int) == 11) = true := by rw [hx11]; rfl
          clear hx11
          go_wp2_with (fail)
          exact ⟨⟨q + 1, p, HLT.out, by have := HP.out; omega, by go_num, rfl, ⟨O, HD.out⟩, HB.out⟩, by have := HLT.out; simp [intOf]; omega⟩
        · have d11 : (((x.toNat : Nat) : Int) == 11) = false := ne_num hx11
          have hpb : (p : Int) ≤ 2000 := by have := HP.out; have := HK.out; have := HLT.out; omega
          have HF : Hid (feedD m { newS with junk := p } [x] = ({ newS with junk := p + 1 }, [])) := Lib.hid (by
            simp [feedD, eatD, stepD, newS, hx11])
          clear hx11
          go_wp2_with (fail)
          have hb2 : Below wr.heap.size wr (wr.alloc (.cells #[.int .u8 (x.toNat : Int)] 5)) := (Below.refl _ wr).alloc (Nat.le_refl _) _
          refine (dFeed w.heap.size D O m p { newS with junk := p } _ (HD.out.below hb2) (Nat.le_trans HB.out.size hb2.size) (by omega) ⟨Nat.le_refl _, Nat.zero_le _, Nat.zero_le _, Nat.zero_le _⟩ (some ⟨wr.heap.size, 0, none⟩) 1 1 [x] (Bs.lit wr [x] 5 _ wr.heap.size rfl rfl rfl (by simp [maxLen])) (fun b hb hs => by
            injection hb with hb
            subst hb
            rcases hs with hs | hs
            · have := HD.out.lt; simp at hs; omega
            · have := (HD.out.own _ hs.symm).2; simp at this) (by omega)).mono ?_
          rintro e w3 ⟨v, O2, rfl, hr, hd3, hm3⟩
          rw [HF.out] at hr hd3
          simp only at hr hd3
          obtain ⟨A3, c3, rfl, hrd⟩ := hr.rd (by intro x hx; cases hx)
          have HD3 := Lib.hid hd3
          have HB3 : Hid (Below w.heap.size w w3) := Lib.hid ((HB.out.trans (hb2.mono HB.out.size)).trans (hm3.low (HD.out.below hb2) (Nat.le_trans HB.out.size hb2.size)))
          rw [List.length_nil]
          clear hr hrd hd3 hm3 hb2 HD HB HF
          go_wp2_with (fail)
          refine (dHeld w.heap.size D O2 m _ w3 HD3.out (by simp [newS])).mono ?_
          rintro e w' ⟨rfl, rfl⟩
          rw [show heldD { newS with junk := p + 1 } = 0 from rfl]
          go_wp2_with (fail)
          refine (dJunk w.heap.size D O2 m _ w3 HD3.out).mono ?_
          rintro e w' ⟨rfl, rfl⟩
          go_wp2_with (fail)
          exact ⟨⟨q + 1, p + 1, HLT.out, by have := HP.out; omega, by go_num, by go_num, ⟨O2, HD3.out⟩, HB3.out⟩, by have := HLT.out; simp [intOf]; omega⟩
      · go_wp2_with (fail)
        refine (dOver w.heap.size D O m _ wr HD.out).mono ?_
        rintro e w' ⟨rfl, rfl⟩
        go_wp2_with (fail)
        refine (dBroken w.heap.size D O m _ wr HD.out).mono ?_
        rintro e w' ⟨rfl, rfl⟩
        go_wp2_with (fail)
        go_ret
        exact ⟨rfl, HB.out⟩
end Go.Proofs.Ytbbamdcdpololaa
