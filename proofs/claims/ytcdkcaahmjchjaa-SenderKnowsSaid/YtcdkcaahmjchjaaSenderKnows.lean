/- The law SenderKnows, walked. -/
import Derived.Test.YtcdkcaahmjchjaaSenderAlive
namespace Go.Proofs.Ytcdkcaahmjchjaa
open Go.RowKit

abbrev kS (known pos kind left : Int) : Snd := ⟨0, 0, 0, 1, 0, pos, known, 0, kind, left⟩

set_option maxRecDepth 100000 in
set_option maxHeartbeats 4000000 in
theorem senderKnows_walk (at_ more : Int) (w : World) (_hat : (Lit.int .i64 at_).wf = true) (hmo : (Lit.int .u8 more).wf = true) :
    Calls Try.prog 9 #[.int .i64 at_, .int .u8 more] w (True_ w) := by
  have hx : 0 ≤ more ∧ more ≤ 255 := by simpa [Lit.wf, IntKind.min, IntKind.max, IntKind.signed, IntKind.bits] using hmo
  obtain ⟨m, rfl⟩ := Int.eq_ofNat_of_zero_le hx.1
  have hm : m ≤ 255 := by omega
  obtain ⟨K, hK, eK⟩ := bits_index at_ 1073741824 (by omega) (by omega)
  have eK' : wrap64 ((IntKind.u64.wrap at_).tmod 1073741824) = (K : Int) := eK
  obtain ⟨n, hn⟩ : ∃ n : Nat, n = m % 40 := ⟨_, rfl⟩
  have e1 : (m : Int) % 40 = (n : Int) := by omega
  have hn40 : n < 40 := by omega
  have HK := Lib.hid eK'
  clear eK eK' hx hmo _hat hn
  go_enter Try.func9, Try.ntmps9
  go_wp2_with (fail)
  rw [HK.out]
  refine (senderNew 0 0 0 1 0 (K : Int) w (by omega) (by omega) (by omega) (by omega) (by omega) (by omega) (by omega) (by omega)).mono ?_
  rintro e w1 ⟨g, rfl, hs1, hg1, hb1⟩
  have H1 : Hid (IsSnd w1 g (kS K K 0 0)) := Lib.hid hs1
  have B1 := Lib.hid hb1
  have HG := Lib.hid hg1
  have hz1 := hb1.size
  clear hs1 hb1 hg1
  go_wp2_with (fail)
  refine (senderAlive w1).mono ?_
  rintro e w2 ⟨rfl, hb2⟩
  have H2 := Lib.hid (H1.out.below hb2 H1.out.lt)
  have B2 := Lib.hid (B1.out.trans (hb2.mono hz1))
  clear hb2
  go_wp2_with (fail)
  refine (senderPoll_no w2 g _ H2.out (.inr (.inr (by simp)))).mono ?_
  rintro e w3 ⟨rfl, hs3, hg3⟩
  have H3 := Lib.hid hs3
  have B3 := Lib.hid (grown_to_below B2.out HG.out hg3)
  clear hs3 hg3
  go_wp2_with (fail)
  refine (senderOffer w3 g _ _ H3.out).mono ?_
  rw [if_pos (.inl (by show (K : Int) - 1 < K; omega)), if_pos (.inl (by show (K : Int) - 1 < K; omega))]
  rintro e w4 ⟨rfl, hs4, hg4⟩
  have H4 := Lib.hid hs4
  have B4 := Lib.hid (grown_to_below B3.out HG.out hg4)
  clear hs4 hg4
  go_wp2_with (fail)
  refine (senderOffer w4 g _ _ H4.out).mono ?_
  rw [if_neg (by show ¬ ((K : Int) + n < K ∨ 1099511627776 < (K : Int) + n); omega), if_neg (by show ¬ ((K : Int) + n < K ∨ 1099511627776 < (K : Int) + n); omega)]
  rintro e w5 ⟨rfl, hs5, hg5⟩
  have H5 : Hid (IsSnd w5 g (kS ((K : Int) + n) K 0 0)) := Lib.hid hs5
  have B5 := Lib.hid (grown_to_below B4.out HG.out hg5)
  clear hs5 hg5
  go_wp2_with (fail)
  go_loopw [59] (fun i wr => ∃ j : Nat, j ≤ n ∧ i = .int .i64 j ∧ IsSnd wr g (kS ((K : Int) + n) ((K : Int) + j) 0 0) ∧ Below w.heap.size w wr) (fun i _ => n - (intOf i).toNat)
  case atStart => exact ⟨0, Nat.zero_le _, rfl, by simpa using H5.out, B5.out⟩
  case round =>
    obtain ⟨j, hj, rfl, hs, hb⟩ := hrel
    have H6 := Lib.hid hs
    have B6 := Lib.hid hb
    clear hs hb
    by_cases hlt : j < n
    · go_wp2_with (fail)
      refine (senderPoll_yes wr g _ H6.out rfl rfl (by show (K : Int) + j < (K : Int) + n; omega)).mono ?_
      rintro e w7 ⟨rfl, hs7, hg7⟩
      have H7 : Hid (IsSnd w7 g (kS ((K : Int) + n) ((K : Int) + j) 1 1)) := Lib.hid hs7
      have B7 := Lib.hid (grown_to_below B6.out HG.out hg7)
      clear hs7 hg7
      go_wp2_with (fail)
      refine (senderAnswer_yes w7 g _ H7.out (by show 0 ≤ (K : Int) + j ∧ (K : Int) + j ≤ 1099511627776; omega)).mono ?_
      rintro e w8 ⟨rfl, hs8, hg8⟩
      have H8 : Hid (IsSnd w8 g (kS ((K : Int) + n) ((K : Int) + j + 1) 0 0)) := Lib.hid hs8
      have B8 := Lib.hid (grown_to_below B7.out HG.out hg8)
      clear hs8 hg8
      go_wp2_with (fail)
      go_roundw
      case rel => exact ⟨j + 1, by omega, by go_num, by rw [show (((j + 1 : Nat) : Int)) = (j : Int) + 1 from by omega, ← Int.add_assoc]; exact H8.out, B8.out⟩
      case measure => simp [intOf]; omega
    · obtain rfl : j = n := by omega
      go_wp2_with (fail)
      refine (senderPoll_no wr g _ H6.out (.inr (.inr (by simp)))).mono ?_
      rintro e w7 ⟨rfl, hs7, hg7⟩
      have H7 := Lib.hid hs7
      have B7 := Lib.hid (grown_to_below B6.out HG.out hg7)
      clear hs7 hg7
      go_wp2_with (fail)
      refine (senderAt w7 g _ H7.out).mono ?_
      rintro e w' ⟨rfl, rfl⟩
      go_wp2_with (fail)
      refine (senderAnswer_yes w7 g _ H7.out (by show 0 ≤ (K : Int) + j ∧ (K : Int) + j ≤ 1099511627776; omega)).mono ?_
      rintro e w8 ⟨rfl, hs8, hg8⟩
      have B8 := Lib.hid (grown_to_below B7.out HG.out hg8)
      clear hs8 hg8
      go_wp2
      go_ret
      exact ⟨rfl, B8.out⟩
end Go.Proofs.Ytcdkcaahmjchjaa
