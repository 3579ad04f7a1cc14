/- Layer 16: Poll, where nothing is sent. -/
import Derived.Test.YtcdkcaahmjchjaaSender6
namespace Go.Proofs.Ytcdkcaahmjchjaa
open Go.RowKit

def pollNo : Value := .tuple #[.int .i64 0, .bool false]

set_option maxRecDepth 100000 in
set_option maxHeartbeats 1000000 in
theorem senderPoll_no (w : World) (g : Nat) (s : Snd) (h : IsSnd w g s) (hn : s.kind ≠ 0 ∨ s.left ≠ 0 ∨ s.known ≤ s.pos) : Calls Try.prog 20 #[.pointer (some ⟨g, 0, none⟩)] w
    (SndRet (.tuple #[.int .i64 0, .bool false]) g s w) := by
  have H := Lib.hid h
  have gd : ∀ q, w.grownBy (w.drewN q) (some g) := fun q => ⟨rfl, rfl, rfl, Nat.le_refl _, fun _ _ _ => rfl⟩
  have G := Lib.hid gd
  clear gd
  by_cases hk : s.kind = 0
  · by_cases hl : s.left = 0
    · have hp : s.known ≤ s.pos := by omega
      have z5 : w.cell? ⟨g, 5, none⟩ = some (.int .i64 s.pos) := h.cell 5
      have z6 : w.cell? ⟨g, 6, none⟩ = some (.int .i64 s.known) := h.cell 6
      have z8 : w.cell? ⟨g, 8, none⟩ = some (.int .i64 0) := by rw [← hk]; exact h.cell 8
      have z9 : w.cell? ⟨g, 9, none⟩ = some (.int .i64 0) := by rw [← hl]; exact h.cell 9
      have hd : decide (s.known ≤ s.pos) = true := by simpa using hp
      clear h hk hl hp hn
      go_enter Try.func20, Try.ntmps20
      go_wp2_with (fail)
      go_quiet (fail)
      go_wp2
      go_ret2
      exact ⟨rfl, H.out, G.out _⟩
    · have z8 : w.cell? ⟨g, 8, none⟩ = some (.int .i64 0) := by rw [← hk]; exact h.cell 8
      have z9 : w.cell? ⟨g, 9, none⟩ = some (.int .i64 s.left) := h.cell 9
      have hd : (s.left == 0) = false := by simpa using hl
      clear h hk hn
      go_enter Try.func20, Try.ntmps20
      go_wp2_with (fail)
      go_quiet (fail)
      go_wp2
      go_ret2
      exact ⟨rfl, H.out, G.out _⟩
  · have z8 : w.cell? ⟨g, 8, none⟩ = some (.int .i64 s.kind) := h.cell 8
    have z9 : w.cell? ⟨g, 9, none⟩ = some (.int .i64 s.left) := h.cell 9
    have hd : (s.kind == 0) = false := by simpa using hk
    clear h hn
    go_enter Try.func20, Try.ntmps20
    go_wp2_with (fail)
    go_quiet (fail)
    go_wp2
    go_ret2
    exact ⟨rfl, H.out, G.out _⟩

/-- what Poll answers, and what the sender is then -/
def pollYes (s : Snd) : Prop := s.kind = 0 ∧ s.left = 0 ∧ s.pos < s.known
instance (s : Snd) : Decidable (pollYes s) := by unfold pollYes; exact inferInstance
def pollS (s : Snd) : Snd := if pollYes s then { s with kind := 1, left := s.timeout } else s
theorem senderPoll (w : World) (g : Nat) (s : Snd) (h : IsSnd w g s) : Calls Try.prog 20 #[.pointer (some ⟨g, 0, none⟩)] w
    (SndRet (.tuple #[.int .i64 (if pollYes s then s.pos else 0), .bool (decide (pollYes s))]) g (pollS s) w) := by
  unfold pollS
  by_cases hp : pollYes s
  · rw [if_pos hp, if_pos hp, decide_eq_true hp]
    exact senderPoll_yes w g s h hp.1 hp.2.1 hp.2.2
  · rw [if_neg hp, if_neg hp, decide_eq_false hp]
    refine senderPoll_no w g s h ?_
    unfold pollYes at hp
    omega
end Go.Proofs.Ytcdkcaahmjchjaa
