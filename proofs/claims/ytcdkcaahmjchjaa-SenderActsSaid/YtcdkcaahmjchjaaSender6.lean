/- Layer 16: Poll, where something is sent. -/
import Derived.Test.YtcdkcaahmjchjaaSender5
namespace Go.Proofs.Ytcdkcaahmjchjaa
open Go.RowKit

set_option maxRecDepth 100000 in
set_option maxHeartbeats 1000000 in
theorem senderPoll_yes (w : World) (g : Nat) (s : Snd) (h : IsSnd w g s) (hk : s.kind = 0) (hl : s.left = 0) (hp : s.pos < s.known) : Calls Try.prog 20 #[.pointer (some ⟨g, 0, none⟩)] w
    (SndRet (.tuple #[.int .i64 s.pos, .bool true]) g { s with kind := 1, left := s.timeout } w) := by
  have H := Lib.hid h
  have z3 : w.cell? ⟨g, 3, none⟩ = some (.int .i64 s.timeout) := h.cell 3
  have z5 : w.cell? ⟨g, 5, none⟩ = some (.int .i64 s.pos) := h.cell 5
  have z6 : w.cell? ⟨g, 6, none⟩ = some (.int .i64 s.known) := h.cell 6
  have z8 : w.cell? ⟨g, 8, none⟩ = some (.int .i64 0) := by rw [← hk]; exact h.cell 8
  have z9 : w.cell? ⟨g, 9, none⟩ = some (.int .i64 0) := by rw [← hl]; exact h.cell 9
  have f8 := h.frozen 8
  have f9 := h.frozen 9
  have hd : ¬ s.known ≤ s.pos := by omega
  clear h hk hl hp
  go_enter Try.func20, Try.ntmps20
  go_wp2_with (fail)
  go_quiet (fail)
  go_wp2
  go_ret2
  have h1 : IsSnd (w.drewN nq) g s := H.out
  have g1 : w.grownBy (w.drewN nq) (some g) := ⟨rfl, rfl, rfl, Nat.le_refl _, fun _ _ _ => rfl⟩
  exact ⟨rfl, h1.set2 1 s.timeout, grown_set2 g g1 8 9 _ _⟩
end Go.Proofs.Ytcdkcaahmjchjaa
