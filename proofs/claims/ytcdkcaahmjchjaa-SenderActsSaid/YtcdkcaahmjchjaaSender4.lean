/- Layer 16: Answer, Drop, Poll. -/
import Derived.Test.YtcdkcaahmjchjaaSender3
namespace Go.Proofs.Ytcdkcaahmjchjaa
open Go.RowKit

set_option maxRecDepth 100000 in
theorem senderDrop (w : World) (g : Nat) (s : Snd) (h : IsSnd w g s) (ok : s.Ok) : Calls Try.prog 26 #[.pointer (some ⟨g, 0, none⟩)] w
    (SndRet (.tuple #[]) g (if s.kind = 1 then failS s else s) w) := by
  have OK := Lib.hid ok
  have H := Lib.hid h
  clear h ok
  by_cases hk : s.kind = 1
  · have hkb : (s.kind == 1) = true := by simp [hk]
    rw [if_pos hk]
    clear hk
    go_enter Try.func26, Try.ntmps26
    go_wp2_with (fail)
    refine (senderFlying _ g s H.out).mono ?_
    rintro e w1 ⟨rfl, rfl⟩
    rw [hkb]
    clear hkb
    go_wp2_with (fail)
    refine (senderFail _ g s H.out OK.out).mono ?_
    rintro e w2 ⟨rfl, hs, hg⟩
    have HS := Lib.hid hs
    have HG := Lib.hid hg
    clear hs hg
    go_wp2
    go_end0
    exact ⟨rfl, HS.out, HG.out⟩
  · have hkb : (s.kind == 1) = false := by simp [hk]
    rw [if_neg hk]
    clear hk
    go_enter Try.func26, Try.ntmps26
    go_wp2_with (fail)
    refine (senderFlying _ g s H.out).mono ?_
    rintro e w1 ⟨rfl, rfl⟩
    rw [hkb]
    clear hkb
    go_wp2
    go_end0
    exact ⟨rfl, H.out, grown_refl _ _⟩

/-- a sender behind an answer -/
def answerS (s : Snd) (ok : Bool) : Snd := if s.kind = 1 then (if ok then { s with pos := s.pos + 1, tries := 0, kind := 0, left := 0 } else failS s) else s

set_option maxRecDepth 100000 in
theorem senderAnswer_no (w : World) (g : Nat) (s : Snd) (h : IsSnd w g s) (ok : s.Ok) : Calls Try.prog 22 #[.pointer (some ⟨g, 0, none⟩), .bool false] w
    (SndRet (.bool false) g (answerS s false) w) := by
  have OK := Lib.hid ok
  have H := Lib.hid h
  clear h ok
  by_cases hk : s.kind = 1
  · have hkb : (s.kind == 1) = true := by simp [hk]
    unfold answerS
    rw [if_pos hk]
    clear hk
    go_enter Try.func22, Try.ntmps22
    go_wp2_with (fail)
    refine (senderFlying _ g s H.out).mono ?_
    rintro e w1 ⟨rfl, rfl⟩
    rw [hkb]
    clear hkb
    go_wp2_with (fail)
    refine (senderFail _ g s H.out OK.out).mono ?_
    rintro e w2 ⟨rfl, hs, hg⟩
    have HS := Lib.hid hs
    have HG := Lib.hid hg
    clear hs hg
    go_wp2
    go_ret
    exact ⟨rfl, HS.out, HG.out⟩
  · have hkb : (s.kind == 1) = false := by simp [hk]
    unfold answerS
    rw [if_neg hk]
    clear hk
    go_enter Try.func22, Try.ntmps22
    go_wp2_with (fail)
    refine (senderFlying _ g s H.out).mono ?_
    rintro e w1 ⟨rfl, rfl⟩
    rw [hkb]
    clear hkb
    go_wp2
    go_ret
    exact ⟨rfl, H.out, grown_refl _ _⟩
end Go.Proofs.Ytcdkcaahmjchjaa
