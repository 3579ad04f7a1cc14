/- DeframeBreaks, walked. -/
import Derived.Test.YtjeibckjockmeaaDoorDfMid
import Derived.Test.YtjeibckjockmeaaDoorFrame2
import Derived.Test.YtjeibckjockmeaaDoorLater
import Derived.Deep.RegionHeld3
namespace Go.Proofs.YtjeibckjockmeaaDoor
open Go.RowKit

/-- where a number is taken of a count -/
theorem brk_place (x : Int) (r : Nat) (hr : r ≤ 100000) : ∃ u q : Nat, IntKind.u64.wrap x = (u : Int) ∧ q < r + 1 ∧ u % (r + 1) = q := by
  have h2 : 0 ≤ IntKind.u64.wrap x := by simp [IntKind.wrap, IntKind.signed]; omega
  exact ⟨(IntKind.u64.wrap x).toNat, (IntKind.u64.wrap x).toNat % (r + 1), by omega, Nat.mod_lt _ (by omega), rfl⟩

theorem Df.drew {B D m : Nat} {O : Option Nat} {s : St} {w : World} (h : Df B D O m s w) : Df B D O m s w.drew := h.below (Below.refl _ w).drew

set_option maxHeartbeats 8000000 in
set_option maxRecDepth 100000 in
theorem deframeBreaks_walk (n : Int) (A : Option Addr) (k c : Nat) (l : List UInt8) (x : Int) (w : World) (hS : Signs w) (_wf : (Lit.int .i64 n).wf = true) (hB : Bs w A k c l) (hR : c ≤ 140737488351232) (_wf2 : (Lit.int .i64 x).wf = true) :
    Calls Tryd.prog 4 #[.int .i64 n, .slice A k c, .int .i64 x] w (True_ w) := by
  obtain ⟨m, hm1, hm2, hmost⟩ := dMost n
  have hmax := hB.nmax
  have hkc := hB.le
  have HLN := Lib.hid hB.len
  have HS := Lib.hid hS
  have HBS := Lib.hid hB
  have HMO := Lib.hid hmost
  have HKC : Hid (k ≤ 140737488351232) := Lib.hid (by omega)
  clear _wf hB hR hmost hS _wf2 hkc
  by_cases hg : good l = true
  case neg =>
    have HG : Hid (good l = false) := Lib.hid (by simpa using hg)
    clear hg
    go_enter Tryd.func4, Tryd.ntmps4
    go_wp2_with (fail)
    refine (frameWrap_no A k c l w HS.out HBS.out HG.out).mono ?_
    rintro e w1 ⟨A1, c1, rfl, _, hb1⟩
    have HB1 := Lib.hid hb1
    clear hb1
    go_wp2_with (fail)
    refine (HMO.out w1).mono ?_
    rintro e w' ⟨rfl, rfl⟩
    go_wp2_with (fail)
    refine (dNew m hm1 (by omega) w1).mono ?_
    rintro e w2 ⟨D, rfl, hd, hb⟩
    have HB2 : Hid (Below w.heap.size w w2) := Lib.hid (HB1.out.trans (hb.mono HB1.out.size))
    clear hd hb HB1
    go_wp2_with (fail)
    refine (alive05 w2).mono ?_
    rintro e w3 ⟨rfl, hb⟩
    have HB3 : Hid (Below w.heap.size w w3) := Lib.hid (HB2.out.trans (hb.mono HB2.out.size))
    clear hb
    go_wp2_with (fail)
    refine (alive05 w3).mono ?_
    rintro e w4 ⟨rfl, hb⟩
    have HB4 : Hid (Below w.heap.size w w4) := Lib.hid (HB3.out.trans (hb.mono HB3.out.size))
    clear hb
    go_wp2_with (fail)
    go_ret
    exact ⟨rfl, HB4.out⟩
  have HG := Lib.hid hg
  clear hg
  go_enter Tryd.func4, Tryd.ntmps4
  go_wp2_with (fail)
  refine (frameWrap_yes A k c l w HS.out HBS.out HG.out HKC.out).mono ?_
  rintro e w1 ⟨A1, c1, rfl, hF1, hb1⟩
  have hl1 : (11 :: (l ++ [28, 13]) : List UInt8).length = k + 3 := by rw [← HLN.out]; simp
  rw [hl1] at hF1 ⊢
  have HB1 := Lib.hid hb1
  have HF1 := Lib.hid hF1
  clear hb1 hF1 hl1
  go_wp2_with (fail)
  refine (HMO.out w1).mono ?_
  rintro e w' ⟨rfl, rfl⟩
  go_wp2_with (fail)
  refine (dNew m hm1 (by omega) w1).mono ?_
  rintro e w2 ⟨D, rfl, hd, hb⟩
  have HD2 := Lib.hid hd
  have HB2 : Hid (Below w.heap.size w w2) := Lib.hid (HB1.out.trans (hb.mono HB1.out.size))
  have HW1 : Hid (w.heap.size ≤ w1.heap.size ∧ w1.heap.size ≤ w2.heap.size) := Lib.hid ⟨HB1.out.size, hb.size⟩
  have HF2 := Lib.hid (HF1.out.below hb)
  clear hd hb HB1
  go_wp2_with (fail)
  refine (alive05 w2).mono ?_
  rintro e w3 ⟨rfl, hb⟩
  have HD3 := Lib.hid (HD2.out.below hb)
  have HF3 := Lib.hid (HF2.out.below hb)
  have HB3 : Hid (Below w.heap.size w w3) := Lib.hid (HB2.out.trans (hb.mono HB2.out.size))
  have HW3 : Hid (w1.heap.size ≤ w3.heap.size) := Lib.hid (Nat.le_trans HW1.out.2 hb.size)
  clear hb HD2 HF2 HB2
  go_wp2_with (fail)
  refine (HMO.out w3).mono ?_
  rintro e w' ⟨rfl, rfl⟩
  by_cases hlong : (m : Int) < (k : Int)
  · go_wp2_with (fail)
    refine (alive05 w3).mono ?_
    rintro e w4 ⟨rfl, hb⟩
    have HB4 : Hid (Below w.heap.size w w4) := Lib.hid (HB3.out.trans (hb.mono HB3.out.size))
    clear hb
    go_wp2_with (fail)
    go_ret
    exact ⟨rfl, HB4.out⟩
  have hkm : k ≤ m := by omega
  have HKM := Lib.hid hkm
  obtain ⟨u, q, hu, hq, huq⟩ := brk_place x (k + 1) (by omega)
  obtain ⟨j, hj⟩ : ∃ j, j = q + 1 := ⟨_, rfl⟩
  have ew1 : IntKind.u64.wrap ((k : Int) + 3 - 1) = (k : Int) + 2 := by simp [IntKind.wrap, IntKind.signed, IntKind.bits]; omega
  have ew1' : IntKind.u64.wrap ((k : Int) + 2) = (k : Int) + 2 := by simp [IntKind.wrap, IntKind.signed, IntKind.bits]; omega
  have ew3 : (u : Int) % ((k : Int) + 2) = (q : Int) := by
    have := congrArg (fun z : Nat => (z : Int)) huq
    simpa [Int.add_assoc] using this
  have ew2 : (u : Int).tmod ((k : Int) + 2) = (q : Int) := by rw [Int.tmod_eq_emod_of_nonneg (by omega)]; exact ew3
  have ew4 : IntKind.u64.wrap (q : Int) = (q : Int) := by simp [IntKind.wrap, IntKind.signed, IntKind.bits]; omega
  have ew5 : IntKind.i64.wrap (q : Int) = (q : Int) := by rw [IntKind.wrap_i64]; omega
  have ej : (1 : Int) + (q : Int) = (j : Int) := by omega
  have ene : ¬ (k : Int) + 2 = 0 := by omega
  have hjk : j ≤ k + 3 := by omega
  have hc1 : k + 3 ≤ c1 := HF3.out.le
  have hcm1 := HF3.out.max
  have HJ : Hid (1 ≤ j ∧ j ≤ k + 2) := Lib.hid (by omega)
  clear huq ew3 hq hj
  go_wp2_with (fail)
  obtain ⟨s1, hs1, hbeg, hj0, ho0, hb0⟩ := frame_begun (m := m) HG.out (by rw [HLN.out]; exact HKM.out) j HJ.out.1 (by rw [HLN.out]; exact HJ.out.2)
  have hblk : ∀ j', 0 < j' → ∀ b, A1 = some b → b.block < w1.heap.size := fun j' _ b hb => by
    obtain ⟨b', o', e, hlt, _⟩ := HF1.out.at_ (by omega)
    rw [e] at hb
    injection hb with hb
    subst hb
    exact hlt
  have HBLK := Lib.hid hblk
  have HS1 := Lib.hid hs1
  have HBEG : Hid (s1.md.begun = true ∧ s1.junk = 0 ∧ s1.over = 0 ∧ s1.broken = 0) := Lib.hid ⟨hbeg, hj0, ho0, hb0⟩
  clear hs1 hbeg hj0 ho0 hb0 hblk
  refine (dFeed w1.heap.size D none m 0 newS w3 HD3.out HW3.out (by omega) (new_up m) A1 j c1 ((11 :: (l ++ [28, 13])).take j) (HF3.out.take hjk) (fun h0 b hb hs => by
    have := HBLK.out j h0 b hb
    rcases hs with hs | hs
    · have := HD3.out.base; omega
    · cases hs) (by omega)).mono ?_
  rintro e w4 ⟨v4, O4, rfl, hr4, hd4, hm4⟩
  have hup := feed_up (new_up m) ((11 :: (l ++ [28, 13])).take j) ((11 :: (l ++ [28, 13])).take j).length (Nat.le_refl _)
  rw [List.take_length] at hup
  rw [HS1.out] at hr4 hd4 hup
  simp only at hr4 hd4 hup
  obtain ⟨A4, c4, rfl⟩ : ∃ A4 c4, v4 = .slice A4 0 c4 := by
    obtain ⟨gs, hg⟩ := hr4
    exact own_form hg.2.1
  have hlj : ((11 :: (l ++ [28, 13])).take j).length ≤ k + 3 := by
    rw [List.length_take]; omega
  have HUP4 : Hid (St.Up m (k + 3) s1) := Lib.hid (hup.more (by omega))
  have HD4 := Lib.hid hd4
  have HF4 : Hid (Bs w4 A1 (k + 3) c1 (11 :: (l ++ [28, 13]))) := Lib.hid (HF3.out.ch hm4.1 (fun h0 b hb hs => by
    have := HBLK.out (k + 3) h0 b hb
    rcases hs with hs | hs
    · have := HD3.out.base; omega
    · cases hs))
  have HB4 : Hid (Below w.heap.size w w4) := Lib.hid (HB3.out.trans ((hm4.low HD3.out HW3.out).mono HW1.out.1))
  have HW4 : Hid (w1.heap.size ≤ w4.heap.size) := Lib.hid (Nat.le_trans HW3.out hm4.1.size)
  clear hr4 hd4 hm4 hup hlj HD3 HF3 HB3 HW3
  go_wp2_with (fail)
  obtain ⟨s2, he2, hmid⟩ := eat_break (m := m) HBEG.out.1 HBEG.out.2.1 HBEG.out.2.2.1 HBEG.out.2.2.2
  have hff := frame_feed he2 hmid HG.out (by rw [HLN.out]; exact HKM.out)
  have HFF := Lib.hid hff
  clear he2 hmid hff
  refine (dFeed w1.heap.size D O4 m (k + 3) s1 w4 HD4.out HW4.out (by omega) HUP4.out A1 (k + 3) c1 (11 :: (l ++ [28, 13])) HF4.out (fun h0 b hb hs => by
    have := HBLK.out (k + 3) h0 b hb
    rcases hs with hs | hs
    · have := HD4.out.base; omega
    · have := (HD4.out.own _ hs.symm).1; omega) (by omega)).mono ?_
  rintro e w5 ⟨v5, O5, rfl, hr5, hd5, hm5⟩
  rw [HFF.out] at hr5 hd5
  simp only at hr5 hd5
  obtain ⟨A5, c5, rfl, hrd⟩ := hr5.rd (by intro x hx; simp at hx; subst hx; rw [HLN.out]; simp only [maxLen]; omega)
  obtain ⟨b, o, Ai, ci, rfl, _, hc, hB⟩ := hrd.read (i := 0) (by simp)
  have HB5 : Hid (Below w.heap.size w w5) := Lib.hid (HB4.out.trans ((hm5.low HD4.out HW4.out).mono HW1.out.1))
  have HD5 := Lib.hid hd5
  have hB0 := HBS.out.below HB5.out
  simp only [List.getD_cons_zero, List.length_cons, List.length_nil, Nat.zero_add, Nat.add_zero] at hc hB ⊢
  have hcv : (convert 23 9 (.slice Ai l.length ci)).run Tryd.prog w5.drew = .ok (.string (txt l)) w5.drew := hB.drew.str (P := Tryd.prog) 23 5 9 Tryd.underlying23 Tryd.underlying5 Tryd.underlying9
  have hdv : (convert 23 9 (.slice A k c)).run Tryd.prog w5.drew = .ok (.string (txt l)) w5.drew := hB0.drew.str (P := Tryd.prog) 23 5 9 Tryd.underlying23 Tryd.underlying5 Tryd.underlying9
  clear hr5 hd5 hm5 hrd hB hB0 HD4 HB4 HF4 HW4
  go_wp2_with (fail)
  go_region_held3 (fun w' => w'.cell? ⟨b, o, none⟩ = some (.slice Ai l.length ci) ∧ (convert 23 9 (.slice Ai l.length ci)).run Tryd.prog w' = .ok (.string (txt l)) w' ∧ (convert 23 9 (.slice A k c)).run Tryd.prog w' = .ok (.string (txt l)) w') (go_keep)
    (first
    | (go_at_call 15; refine (dHeld w1.heap.size D O5 m _ _ HD5.out.drew (by simp)).mono ?_; rintro e w' ⟨rfl, rfl⟩; rw [show heldD ⟨.out, [], 0, 0, 1⟩ = 0 from rfl])
    | (go_at_call 16; refine (dJunk w1.heap.size D O5 m _ _ HD5.out.drew).mono ?_; rintro e w' ⟨rfl, rfl⟩)
    | (go_at_call 13; refine (dOver w1.heap.size D O5 m _ _ HD5.out.drew).mono ?_; rintro e w' ⟨rfl, rfl⟩)
    | (go_at_call 14; refine (dBroken w1.heap.size D O5 m _ _ HD5.out.drew).mono ?_; rintro e w' ⟨rfl, rfl⟩))
  go_wp2_with (fail)
  go_ret
  exact ⟨rfl, HB5.out.drew⟩
end Go.Proofs.YtjeibckjockmeaaDoor
