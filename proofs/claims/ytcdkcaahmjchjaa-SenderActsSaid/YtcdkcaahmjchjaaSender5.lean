/- Layer 16: a right answer; Poll. -/
import Derived.Test.YtcdkcaahmjchjaaSender4
namespace Go.Proofs.Ytcdkcaahmjchjaa
open Go.RowKit

set_option maxRecDepth 100000 in
set_option maxHeartbeats 1000000 in
theorem senderAnswer_yes (w : World) (g : Nat) (s : Snd) (h : IsSnd w g s) (hp : 0 ≤ s.pos ∧ s.pos ≤ 1099511627776) : Calls Try.prog 22 #[.pointer (some ⟨g, 0, none⟩), .bool true] w
    (SndRet (.bool (s.kind == 1)) g (answerS s true) w) := by
  have H := Lib.hid h
  by_cases hk : s.kind = 1
  · have hkb : (s.kind == 1) = true := by simp [hk]
    unfold answerS
    rw [if_pos hk, if_pos rfl, hkb]
    clear hk
    have hw : IntKind.i64.wrap (s.pos + 1) = s.pos + 1 := by rw [IntKind.wrap_i64]; omega
    have z5 : w.cell? ⟨g, 5, none⟩ = some (.int .i64 s.pos) := h.cell 5
    have z7 : w.cell? ⟨g, 7, none⟩ = some (.int .i64 s.tries) := h.cell 7
    have z8 : w.cell? ⟨g, 8, none⟩ = some (.int .i64 s.kind) := h.cell 8
    have z9 : w.cell? ⟨g, 9, none⟩ = some (.int .i64 s.left) := h.cell 9
    have f5 := h.frozen 5
    have f7 := h.frozen 7
    have f8 := h.frozen 8
    have f9 := h.frozen 9
    clear h
    go_enter Try.func22, Try.ntmps22
    go_wp2_with (fail)
    refine (senderFlying _ g s H.out).mono ?_
    rintro e w1 ⟨rfl, rfl⟩
    rw [hkb]
    clear hkb
    go_wp2
    go_ret
    refine ⟨rfl, ?_, ?_⟩
    · exact ((H.out.set (s' := { s with pos := s.pos + 1 }) 5 _ rfl).set (s' := { s with pos := s.pos + 1, tries := 0 }) 7 _ rfl).set2 0 0
    · exact grown_set2 g (grown_set2 g (grown_refl _ _) 5 7 _ _) 8 9 _ _
  · have hkb : (s.kind == 1) = false := by simp [hk]
    unfold answerS
    rw [if_neg hk, hkb]
    clear hk h
    go_enter Try.func22, Try.ntmps22
    go_wp2_with (fail)
    refine (senderFlying _ g s H.out).mono ?_
    rintro e w1 ⟨rfl, rfl⟩
    rw [hkb]
    clear hkb
    go_wp2
    go_ret
    exact ⟨rfl, H.out, grown_refl _ _⟩
end Go.Proofs.Ytcdkcaahmjchjaa
