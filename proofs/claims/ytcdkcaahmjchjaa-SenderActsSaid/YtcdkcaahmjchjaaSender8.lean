/- Layer 16: Tick. -/
import Derived.Test.YtcdkcaahmjchjaaSender7
import Derived.Deep.RegionWith
import Derived.StillTailTactics
namespace Go.Proofs.Ytcdkcaahmjchjaa
open Go.RowKit

/-- ticks go by where it rests -/
def tickR (s : Snd) (n : Int) : Snd := if s.kind = 2 then restS s (s.left - min n s.left) else s
def tickS (s : Snd) (n : Int) : Snd := if s.kind = 1 then (if n < s.left then { s with left := s.left - n } else tickR (failS s) (n - s.left)) else tickR s n
/-- what is left of a wait -/
def Snd.Left_ (s : Snd) : Prop := 0 ≤ s.left ∧ s.left ≤ 1099511627776

theorem failS_kind (s : Snd) : (failS s).kind ≠ 1 ∧ (failS s).left = nextD s.base s.cap s.F s.tries.toNat := by
  unfold failS restS
  split <;> simp_all
theorem failS_left (s : Snd) (ok : s.Ok) : (failS s).Left_ := by
  unfold Snd.Left_
  rw [(failS_kind s).2]
  have := nextD_bounds s.base s.cap s.F s.tries.toNat ok.2.1.1 ok.2.1.2
  have := ok.2.1.2
  omega

set_option maxRecDepth 100000 in
set_option maxHeartbeats 1000000 in
theorem senderTick_neg (w : World) (g : Nat) (s : Snd) (n : Int) (h : IsSnd w g s) (hn : n < 0) : Calls Try.prog 24 #[.pointer (some ⟨g, 0, none⟩), .int .i64 n] w
    (SndRet (.int .i64 3) g s w) := by
  have H := Lib.hid h
  clear h
  go_enter Try.func24, Try.ntmps24
  go_wp2
  go_ret
  exact ⟨rfl, H.out, grown_refl _ _⟩

set_option maxRecDepth 100000 in
set_option maxHeartbeats 1000000 in
theorem senderTick_rest (w : World) (g : Nat) (s : Snd) (n : Int) (h : IsSnd w g s) (hn : 0 ≤ n) (hk : s.kind ≠ 1) (hl : s.Left_) : Calls Try.prog 24 #[.pointer (some ⟨g, 0, none⟩), .int .i64 n] w
    (SndRet (.int .i64 0) g (tickS s n) w) := by
  have H := Lib.hid h
  have z8 : w.cell? ⟨g, 8, none⟩ = some (.int .i64 s.kind) := h.cell 8
  have z9 : w.cell? ⟨g, 9, none⟩ = some (.int .i64 s.left) := h.cell 9
  have k1 : (s.kind == 1) = false := by simpa using hk
  have hE : tickS s n = tickR s n := by unfold tickS; rw [if_neg hk]
  rw [hE]
  clear h hE
  have HL := Lib.hid hl
  by_cases hk2 : s.kind = 2
  · have k2 : (s.kind == 2) = true := by simpa using hk2
    have hE : tickR s n = restS s (s.left - min n s.left) := by unfold tickR; rw [if_pos hk2]
    rw [hE]
    obtain ⟨m, hm⟩ : ∃ m, m = min n s.left := ⟨_, rfl⟩
    have hw : IntKind.i64.wrap (s.left - m) = s.left - m := IntWalk.i64_in _ (by have := hl.1; have := hl.2; omega)
    rw [← hm]
    have HM := Lib.hid hm
    clear hE hm hl hk hk2
    go_enter Try.func24, Try.ntmps24
    go_wp2_with (fail)
    have HZ := Lib.hid z9
    have hm2 := HM.out.symm
    go_region_with ((first | (go_at_call 50; go_loud ((refine (senderRest w.drew g s _ (show IsSnd w.drew g s from H.out)).mono ?_; rintro e w4 ⟨rfl, hs, hg⟩; have HS := Lib.hid hs; have HG := Lib.hid hg; clear hs hg)))))
    all_goals
      go_wp2
      go_ret
      exact ⟨rfl, HS.out, (show w.grownBy w.drew (some g) from ⟨rfl, rfl, rfl, Nat.le_refl _, fun _ _ _ => rfl⟩).trans HG.out⟩
  · have k2 : (s.kind == 2) = false := by simpa using hk2
    have hE : tickR s n = s := by unfold tickR; rw [if_neg hk2]
    rw [hE]
    clear hE hl
    go_enter Try.func24, Try.ntmps24
    go_wp2
    go_ret
    exact ⟨rfl, H.out, grown_refl _ _⟩
end Go.Proofs.Ytcdkcaahmjchjaa
