/- The law FrameBack, walked. -/
import Derived.Test.YtceadbjiffcioaaDoorFrameMath
namespace Go.Proofs.YtceadbjiffcioaaDoor
open Go.RowKit

theorem frameUnwrap_err (A : Option Addr) (n c : Nat) (l : List UInt8) (w : World) (hS : Signs w) (hB : Bs w A n c l) (hN : n ≤ 140737488351232) (hf : isFrame l = false) :
    Calls Tryd.prog 15 #[.slice A n c] w fun e w' => ∃ r, r ≠ 0 ∧ RetBs r [] w e w' := by
  have h := frameUnwrap A n c l w hS hB hN
  by_cases h3 : l.length < 3
  · obtain ⟨h1, h2⟩ := unwrap_short h3
    rw [h1, h2] at h
    exact h.mono fun e w' hr => ⟨7, by omega, hr⟩
  · obtain ⟨h1, h2⟩ := unwrap_not (by omega) hf
    rw [h1, h2] at h
    exact h.mono fun e w' hr => ⟨10, by omega, hr⟩

set_option maxRecDepth 100000 in
theorem frameBack_great (A : Option Addr) (n c : Nat) (l : List UInt8) (w : World) (hS : Signs w) (hB : Bs w A n c l) (hn : 3000 < n) :
    Calls Tryd.prog 5 #[.slice A n c] w (Alive w) := by
  have hmax := hB.nmax
  have HS := Lib.hid hS
  clear hS
  go_enter Tryd.func5, Tryd.ntmps5
  go_wp2_with (fail)
  refine (alive_any w HS.out).mono ?_
  rintro e w1 ⟨rfl, hb1⟩
  go_wp2
  go_ret
  exact ⟨rfl, hb1⟩

set_option maxRecDepth 100000 in
set_option maxHeartbeats 2000000 in
theorem frameBack_good (A : Option Addr) (n c : Nat) (l : List UInt8) (w : World) (hS : Signs w) (hB : Bs w A n c l) (hn : n ≤ 3000) (hg : good l = true) (hf : isFrame l = false) :
    Calls Tryd.prog 5 #[.slice A n c] w (Alive w) := by
  have hlen := hB.len
  have HS := Lib.hid hS
  have HB := Lib.hid hB
  have HG := Lib.hid hg
  have HF := Lib.hid hf
  have HL := Lib.hid hlen
  clear hS hB hg hf hlen
  go_enter Tryd.func5, Tryd.ntmps5
  go_wp2_with (fail)
  refine (frameWrap_yes A n c l w HS.out HB.out HG.out (by omega)).mono ?_
  rintro e w1 ⟨A1, c1, rfl, hF1, hb1⟩
  have S1 := Lib.hid (HS.out.below hb1)
  have hl1 : (11 :: (l ++ [28, 13]) : List UInt8).length = n + 3 := by rw [← HL.out]; simp
  rw [hl1] at hF1 ⊢
  have F1 := Lib.hid hF1
  clear hF1 hl1
  go_wp2_with (fail)
  have h2 := frameUnwrap A1 (n + 3) c1 (11 :: (l ++ [28, 13])) w1 S1.out F1.out (by omega)
  rw [(wrap_get HG.out).1, (wrap_get HG.out).2] at h2
  refine h2.mono ?_
  clear h2
  rintro e w2 ⟨A2, c2, rfl, hX, hb2⟩
  rw [HL.out] at hX ⊢
  have b2 := Lib.hid (hb1.trans (hb2.mono hb1.size))
  have S2 := Lib.hid (HS.out.below b2.out)
  have B2 := Lib.hid (HB.out.below b2.out)
  have F2 := Lib.hid (F1.out.below hb2)
  have cv1 := hX.str'
  have cv2 := B2.out.str'
  clear hX hb2
  go_wp2_with (fail)
  refine (frameCount (n : Int) (by omega) (by omega) w2).mono ?_
  rintro e w3 ⟨rfl, rfl⟩
  go_wp2_with (fail)
  refine (frameGood_b A1 (n + 3) c1 _ w2 S2.out F2.out false wrap_not_good).mono ?_
  rintro e w3 ⟨rfl, hb3⟩
  clear cv1 cv2
  have b3 := Lib.hid (b2.out.trans (hb3.mono b2.out.size))
  clear hb3
  go_wp2_with (fail)
  refine (frameUnwrap_err A n c l w3 (HS.out.below b3.out) (HB.out.below b3.out) (by omega) HF.out).mono ?_
  rintro e w4 ⟨r, hr, A4, c4, rfl, _, hb4⟩
  have b4 := Lib.hid (b3.out.trans (hb4.mono b3.out.size))
  have hr1 : (r == 0) = false := by simpa using hr
  have hr2 : (r != 0) = true := by simpa using hr
  clear hb4 hr
  go_wp2_with (fail)
  refine (alive_any w4 (HS.out.below b4.out)).mono ?_
  rintro e w5 ⟨rfl, hb5⟩
  go_wp2_with (fail)
  go_ret
  exact ⟨rfl, b4.out.trans (hb5.mono b4.out.size)⟩

set_option maxRecDepth 100000 in
set_option maxHeartbeats 2000000 in
theorem frameBack_none (A : Option Addr) (n c : Nat) (l : List UInt8) (w : World) (hS : Signs w) (hB : Bs w A n c l) (hn : n ≤ 3000) (hg : good l = false) (hf : isFrame l = false) :
    Calls Tryd.prog 5 #[.slice A n c] w (Alive w) := by
  have HS := Lib.hid hS
  have HB := Lib.hid hB
  have HG := Lib.hid hg
  have HF := Lib.hid hf
  clear hS hB hg hf
  go_enter Tryd.func5, Tryd.ntmps5
  go_wp2_with (fail)
  refine (frameWrap_no A n c l w HS.out HB.out HG.out).mono ?_
  rintro e w3 ⟨A1, c1, rfl, hF1, hb1⟩
  have b3 := Lib.hid hb1
  clear hb1 hF1
  go_wp2_with (fail)
  refine (frameUnwrap_err A n c l w3 (HS.out.below b3.out) (HB.out.below b3.out) (by omega) HF.out).mono ?_
  rintro e w4 ⟨r, hr, A4, c4, rfl, _, hb4⟩
  have b4 := Lib.hid (b3.out.trans (hb4.mono b3.out.size))
  have hr1 : (r == 0) = false := by simpa using hr
  have hr2 : (r != 0) = true := by simpa using hr
  clear hb4 hr
  go_wp2_with (fail)
  refine (alive_any w4 (HS.out.below b4.out)).mono ?_
  rintro e w5 ⟨rfl, hb5⟩
  go_wp2_with (fail)
  go_ret
  exact ⟨rfl, b4.out.trans (hb5.mono b4.out.size)⟩

set_option maxRecDepth 100000 in
set_option maxHeartbeats 2000000 in
theorem frameBack_frame (A : Option Addr) (n c : Nat) (l : List UInt8) (w : World) (hS : Signs w) (hB : Bs w A n c l) (hn : n ≤ 3000) (hf : isFrame l = true) :
    Calls Tryd.prog 5 #[.slice A n c] w (Alive w) := by
  obtain ⟨h3, hgi, he⟩ := frame_parts hf
  have hu := unwrap_is h3 hf
  have hlen := hB.len
  have hli : ((l.take (l.length - 2)).drop 1).length = n - 3 := by simp; omega
  generalize (l.take (l.length - 2)).drop 1 = x at *
  have HS := Lib.hid hS
  have HB := Lib.hid hB
  have HG := Lib.hid (frame_not_good hf)
  have HE := Lib.hid he
  have HU := Lib.hid hu
  have HL := Lib.hid hlen
  have HLI := Lib.hid hli
  have HGI := Lib.hid hgi
  have hn3 : 3 ≤ n := by omega
  clear hS hB hf hlen he hu hli hgi h3
  go_enter Tryd.func5, Tryd.ntmps5
  go_wp2_with (fail)
  refine (frameWrap_no A n c l w HS.out HB.out HG.out).mono ?_
  rintro e w3 ⟨A1, c1, rfl, hF1, hb1⟩
  have b3 := Lib.hid hb1
  clear hb1 hF1
  go_wp2_with (fail)
  have h2 := frameUnwrap A n c l w3 (HS.out.below b3.out) (HB.out.below b3.out) (by omega)
  rw [HU.out.1, HU.out.2] at h2
  refine h2.mono ?_
  clear h2
  rintro e w4 ⟨A4, c4, rfl, hX, hb4⟩
  rw [HLI.out] at hX ⊢
  have X4 := Lib.hid hX
  have b4 := Lib.hid (b3.out.trans (hb4.mono b3.out.size))
  clear hb4 hX
  go_wp2_with (fail)
  have h2 := frameWrap_yes A4 (n - 3) c4 x w4 (HS.out.below b4.out) X4.out HGI.out (by omega)
  rw [HE.out] at h2
  refine h2.mono ?_
  clear h2
  rintro e w5 ⟨A5, c5, rfl, hF, hb5⟩
  rw [HL.out] at hF ⊢
  have F5 := Lib.hid hF
  have b5 := Lib.hid (b4.out.trans (hb5.mono b4.out.size))
  clear hb5 hF
  go_wp2_with (fail)
  refine (alive_any w5 (HS.out.below b5.out)).mono ?_
  rintro e w6 ⟨rfl, hb6⟩
  have b6 := Lib.hid (b5.out.trans (hb6.mono b5.out.size))
  have cv1 := (F5.out.below hb6).str'
  have cv2 := (HB.out.below b6.out).str'
  go_wp2_with (fail)
  go_ret
  exact ⟨rfl, b6.out⟩

theorem frameBack_walk (A : Option Addr) (n c : Nat) (l : List UInt8) (w : World) (hS : Signs w) (hB : Bs w A n c l) (_hR : c ≤ 140737488351232) :
    Calls Tryd.prog 5 #[.slice A n c] w (Alive w) := by
  by_cases hn : 3000 < n
  · exact frameBack_great A n c l w hS hB hn
  · cases hf : isFrame l with
    | true => exact frameBack_frame A n c l w hS hB (by omega) hf
    | false =>
      cases hg : good l with
      | true => exact frameBack_good A n c l w hS hB (by omega) hg hf
      | false => exact frameBack_none A n c l w hS hB (by omega) hg hf
end Go.Proofs.YtceadbjiffcioaaDoor
