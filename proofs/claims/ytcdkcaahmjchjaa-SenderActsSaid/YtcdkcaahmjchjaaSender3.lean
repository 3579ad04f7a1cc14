/- Layer 16: fail. -/
import Derived.Test.YtcdkcaahmjchjaaSender2
import Derived.Deep.RegionHeld3
namespace Go.Proofs.Ytcdkcaahmjchjaa
open Go.RowKit

/-- a config and tries that may be -/
def Snd.Ok (s : Snd) : Prop := (0 ≤ s.base ∧ s.base ≤ 1099511627776) ∧ (0 ≤ s.cap ∧ s.cap ≤ 1099511627776) ∧ 0 ≤ s.tries ∧ s.tries ≤ 1099511627776

/-- a sender behind fail() -/
def failS (s : Snd) : Snd := restS { s with tries := if s.tries < 1099511627776 then s.tries + 1 else s.tries } (nextD s.base s.cap s.F s.tries.toNat)

theorem grown_below {w w' : World} (g : Nat) (h : Below w.heap.size w w') : w.grownBy w' (some g) := ⟨h.os, h.tape, h.output, h.size, fun k hk _ => h.block k hk⟩

set_option maxRecDepth 100000 in
set_option maxHeartbeats 1000000 in
theorem senderFail (w : World) (g : Nat) (s : Snd) (h : IsSnd w g s) (ok : s.Ok) : Calls Try.prog 48 #[.pointer (some ⟨g, 0, none⟩)] w
    (SndRet (.tuple #[]) g (failS s) w) := by
  have OK := Lib.hid ok
  have H := Lib.hid h
  obtain ⟨z0, z1, z2, z3, z4, z7⟩ : w.cell? ⟨g, 0, none⟩ = some (.int .i64 s.most) ∧ w.cell? ⟨g, 1, none⟩ = some (.int .i64 s.base) ∧ w.cell? ⟨g, 2, none⟩ = some (.int .i64 s.cap) ∧ w.cell? ⟨g, 3, none⟩ = some (.int .i64 s.timeout) ∧ w.cell? ⟨g, 4, none⟩ = some (.float .f64 s.F) ∧ w.cell? ⟨g, 7, none⟩ = some (.int .i64 s.tries) :=
    ⟨h.cell 0, h.cell 1, h.cell 2, h.cell 3, h.cell 4, h.cell 7⟩
  clear h ok
  go_enter Try.func48, Try.ntmps48
  go_wp2_with (fail)
  go_region_held3 (fun w' => w'.cell? ⟨g, 0, none⟩ = some (.int .i64 s.most) ∧ w'.cell? ⟨g, 1, none⟩ = some (.int .i64 s.base) ∧ w'.cell? ⟨g, 2, none⟩ = some (.int .i64 s.cap) ∧ w'.cell? ⟨g, 3, none⟩ = some (.int .i64 s.timeout) ∧ w'.cell? ⟨g, 4, none⟩ = some (.float .f64 s.F) ∧ w'.cell? ⟨g, 7, none⟩ = some (.int .i64 s.tries)) (first | exact ⟨(H.out.below hb2 H.out.lt).cell 0, (H.out.below hb2 H.out.lt).cell 1, (H.out.below hb2 H.out.lt).cell 2, (H.out.below hb2 H.out.lt).cell 3, (H.out.below hb2 H.out.lt).cell 4, (H.out.below hb2 H.out.lt).cell 7⟩ | go_keep)
    (first
    | (go_at_call 32; refine (delayNext_yes s.most s.base s.cap s.timeout s.tries s.F w.drew OK.out.1.1 OK.out.1.2 OK.out.2.1.1 OK.out.2.1.2 OK.out.2.2.1 (Int.le_trans OK.out.2.2.2 (by omega))).mono ?_
       rintro e w2 ⟨rfl, hb2'⟩
       have hb2 : Below w.heap.size w w2 := ((Below.refl _ _).drew).trans hb2'
       clear hb2'))
  have h2 : IsSnd w2 g s := H.out.below hb2 H.out.lt
  have G2 := Lib.hid (grown_below g hb2)
  have y7 : w2.cell? ⟨g, 7, none⟩ = some (.int .i64 s.tries) := h2.cell 7
  have f7 := h2.frozen 7
  have H2 := Lib.hid h2
  clear z0 z1 z2 z3 z4 z7 h2 hb2
  obtain ⟨x, hx⟩ : ∃ x, x = nextD s.base s.cap s.F s.tries.toNat := ⟨_, rfl⟩
  rw [← hx]
  have HX := Lib.hid hx
  clear hx
  by_cases ht : s.tries < 1099511627776
  · have hw : IntKind.i64.wrap (s.tries + 1) = s.tries + 1 := by
      have := OK.out.2.2.1
      rw [IntKind.wrap_i64]
      omega
    have h3 : IsSnd (w2.setCell ⟨g, 7, none⟩ (.int .i64 (s.tries + 1))) g { s with tries := s.tries + 1 } := H2.out.set 7 _ rfl
    have H3 := Lib.hid h3
    clear h3
    go_wp2_with (fail)
    refine (senderRest _ g { s with tries := s.tries + 1 } x H3.out).mono ?_
    rintro e w4 ⟨rfl, hs, hg⟩
    have HS := Lib.hid hs
    have HG := Lib.hid hg
    clear hs hg
    go_wp2
    go_end0
    refine ⟨rfl, ?_, (G2.out.trans (grown_set w2 g 7 _)).trans HG.out⟩
    unfold failS
    rw [if_pos ht, ← HX.out]
    exact HS.out
  · go_wp2_with (fail)
    refine (senderRest _ g s x H2.out).mono ?_
    rintro e w4 ⟨rfl, hs, hg⟩
    have HS := Lib.hid hs
    have HG := Lib.hid hg
    clear hs hg
    go_wp2
    go_end0
    refine ⟨rfl, ?_, G2.out.trans HG.out⟩
    unfold failS
    rw [if_neg (by omega), ← HX.out]
    exact HS.out
end Go.Proofs.Ytcdkcaahmjchjaa
