/- Layer 16: Tick, where a record flies. -/
import Derived.Test.YtcdkcaahmjchjaaSender8
namespace Go.Proofs.Ytcdkcaahmjchjaa
open Go.RowKit

theorem failS_of (s : Snd) : ∃ s', s' = failS s := ⟨_, rfl⟩

set_option maxRecDepth 100000 in
set_option maxHeartbeats 2000000 in
theorem senderTick_fly (w : World) (g : Nat) (s : Snd) (n : Int) (h : IsSnd w g s) (hn : 0 ≤ n) (hn2 : n ≤ 9223372036854775807) (hk : s.kind = 1) (hl : s.Left_) (ok : s.Ok) : Calls Try.prog 24 #[.pointer (some ⟨g, 0, none⟩), .int .i64 n] w
    (SndRet (.int .i64 0) g (tickS s n) w) := by
  have H := Lib.hid h
  have OK := Lib.hid ok
  have z8 : w.cell? ⟨g, 8, none⟩ = some (.int .i64 1) := by rw [← hk]; exact h.cell 8
  have z9 : w.cell? ⟨g, 9, none⟩ = some (.int .i64 s.left) := h.cell 9
  have f9 := h.frozen 9
  have hl1 := hl.1
  have hl2 := hl.2
  by_cases hlt : n < s.left
  · have hE : tickS s n = { s with left := s.left - n } := by unfold tickS; rw [if_pos hk, if_pos hlt]
    rw [hE]
    have h3 : IsSnd (w.setCell ⟨g, 9, none⟩ (.int .i64 (s.left - n))) g { s with left := s.left - n } := h.set 9 _ rfl
    have H3 := Lib.hid h3
    clear h3 h hE hk hl ok
    go_enter Try.func24, Try.ntmps24
    go_wp2
    go_ret
    exact ⟨rfl, H3.out, grown_set w g 9 _⟩
  · have hE : tickS s n = tickR (failS s) (n - s.left) := by unfold tickS; rw [if_pos hk, if_neg hlt]
    rw [hE]
    have hF1 := (failS_kind s).1
    have hF2 := failS_left s ok
    have hw0 : IntKind.i64.wrap (n - s.left) = n - s.left := IntWalk.i64_in _ (by omega)
    have CF := Lib.hid (senderFail w g s h ok)
    obtain ⟨s', hs'⟩ := failS_of s
    rw [← hs'] at hF1 hF2 CF ⊢
    have HF2 := Lib.hid hF2
    have k1 : (s'.kind == 1) = false := by simpa using hF1
    obtain ⟨n', hn'⟩ : ∃ n', n' = n - s.left := ⟨_, rfl⟩
    have hn0 : 0 ≤ n' := by omega
    rw [← hn'] at hw0 ⊢
    have HN := Lib.hid hn'
    have hle : s.left ≤ n := by omega
    clear h hE hk hl ok hF1 hF2 hs' hn' hlt
    by_cases hk2 : s'.kind = 2
    · have k2 : (s'.kind == 2) = true := by simpa using hk2
      have hE : tickR s' n' = restS s' (s'.left - min n' s'.left) := by unfold tickR; rw [if_pos hk2]
      rw [hE]
      obtain ⟨m, hm⟩ : ∃ m, m = min n' s'.left := ⟨_, rfl⟩
      have hw : IntKind.i64.wrap (s'.left - m) = s'.left - m := IntWalk.i64_in _ (by have := HF2.out.1; have := HF2.out.2; omega)
      rw [← hm]
      have HM := Lib.hid hm
      clear hE hm hk2
      go_enter Try.func24, Try.ntmps24
      go_wp2_with (fail)
      refine CF.out.mono ?_
      rintro e w2 ⟨rfl, hs2, hg2⟩
      have H2 := Lib.hid hs2
      have G2 := Lib.hid hg2
      have y8 : w2.cell? ⟨g, 8, none⟩ = some (.int .i64 s'.kind) := hs2.cell 8
      have y9 : w2.cell? ⟨g, 9, none⟩ = some (.int .i64 s'.left) := hs2.cell 9
      clear hs2 hg2 z8 z9 f9
      go_wp2_with (fail)
      have hm2 := HM.out.symm
      go_region_with ((first | (go_at_call 50; go_loud ((refine (senderRest w2.drew g s' _ (show IsSnd w2.drew g s' from H2.out)).mono ?_; rintro e w4 ⟨rfl, hs, hg⟩; have HS := Lib.hid hs; have HG := Lib.hid hg; clear hs hg)))))
      all_goals
        go_wp2
        go_ret
        have hs := HS.out
        rw [← HN.out, ← HM.out, hw] at hs
        exact ⟨rfl, hs, G2.out.trans ((show w2.grownBy w2.drew (some g) from ⟨rfl, rfl, rfl, Nat.le_refl _, fun _ _ _ => rfl⟩).trans HG.out)⟩
    · have k2 : (s'.kind == 2) = false := by simpa using hk2
      have hE : tickR s' n' = s' := by unfold tickR; rw [if_neg hk2]
      rw [hE]
      clear hE
      go_enter Try.func24, Try.ntmps24
      go_wp2_with (fail)
      refine CF.out.mono ?_
      rintro e w2 ⟨rfl, hs2, hg2⟩
      have H2 := Lib.hid hs2
      have G2 := Lib.hid hg2
      have y8 : w2.cell? ⟨g, 8, none⟩ = some (.int .i64 s'.kind) := hs2.cell 8
      clear hs2 hg2 z8 z9 f9
      go_wp2
      go_ret
      exact ⟨rfl, H2.out, G2.out⟩

theorem senderTick (w : World) (g : Nat) (s : Snd) (n : Int) (h : IsSnd w g s) (hn : 0 ≤ n) (hn2 : n ≤ 9223372036854775807) (hl : s.Left_) (ok : s.Ok) : Calls Try.prog 24 #[.pointer (some ⟨g, 0, none⟩), .int .i64 n] w
    (SndRet (.int .i64 0) g (tickS s n) w) := by
  by_cases hk : s.kind = 1
  · exact senderTick_fly w g s n h hn hn2 hk hl ok
  · exact senderTick_rest w g s n h hn hk hl
end Go.Proofs.Ytcdkcaahmjchjaa
