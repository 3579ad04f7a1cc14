/- Layer 5: of no deframer nothing is told. -/
import Derived.Test.YtbbamdcdpololaaDfAlive
namespace Go.Proofs.Ytbbamdcdpololaa
open Go.RowKit

set_option maxRecDepth 100000 in
theorem nFeed (v : Value) (w : World) : Calls Try.prog 13 #[.pointer none, v] w fun e w' => e = .returned (.tuple #[.slice none 0 0, .int .i64 1]) ∧ w = w' := by
  go_enter Try.func13, Try.ntmps13
  go_wp2_with (fail)
  exact bodyPost_ret (v := .tuple #[.slice none 0 0, .int .i64 1]) (by simp [results, Try.results13, go_sem]) rfl ⟨rfl, rfl⟩
set_option maxRecDepth 100000 in
theorem nReset (w : World) : Calls Try.prog 20 #[.pointer none] w fun e w' => e = .returned (.tuple #[]) ∧ w = w' := by
  go_enter Try.func20, Try.ntmps20
  go_wp2_with (fail)
  go_end0
  exact ⟨rfl, rfl⟩
set_option maxRecDepth 100000 in
theorem nHeld (w : World) : Calls Try.prog 16 #[.pointer none] w fun e w' => e = .returned (.int .i64 0) ∧ w = w' := by
  go_enter Try.func16, Try.ntmps16
  go_wp2_with (fail)
  go_ret
  exact ⟨rfl, rfl⟩
set_option maxRecDepth 100000 in
theorem nJunk (w : World) : Calls Try.prog 17 #[.pointer none] w fun e w' => e = .returned (.int .i64 0) ∧ w = w' := by
  go_enter Try.func17, Try.ntmps17
  go_wp2_with (fail)
  go_ret
  exact ⟨rfl, rfl⟩
set_option maxRecDepth 100000 in
theorem nOver (w : World) : Calls Try.prog 18 #[.pointer none] w fun e w' => e = .returned (.int .i64 0) ∧ w = w' := by
  go_enter Try.func18, Try.ntmps18
  go_wp2_with (fail)
  go_ret
  exact ⟨rfl, rfl⟩
set_option maxRecDepth 100000 in
theorem nBroken (w : World) : Calls Try.prog 19 #[.pointer none] w fun e w' => e = .returned (.int .i64 0) ∧ w = w' := by
  go_enter Try.func19, Try.ntmps19
  go_wp2_with (fail)
  go_ret
  exact ⟨rfl, rfl⟩

set_option maxHeartbeats 4000000 in
set_option maxRecDepth 100000 in
theorem deframeNone_walk (n : Int) (A : Option Addr) (k c : Nat) (l : List UInt8) (w : World) (_wf : (Lit.int .i64 n).wf = true) (_hB : Bs w A k c l) (_hR : c ≤ 140737488351232) : Calls Try.prog 5 #[.int .i64 n, .slice A k c] w (True_ w) := by
  clear _wf _hB _hR
  by_cases h1 : n < 1
  · have HN : Hid (n < 1 ∨ 65536 < n) := Lib.hid (.inl h1)
    go_enter Try.func5, Try.ntmps5
    go_wp2_with (first
      | (go_at_call 13; refine (nFeed _ _).mono ?_; rintro e w' ⟨rfl, rfl⟩)
      | (go_at_call 20; refine (nReset _).mono ?_; rintro e w' ⟨rfl, rfl⟩)
      | (go_at_call 16; refine (nHeld _).mono ?_; rintro e w' ⟨rfl, rfl⟩)
      | (go_at_call 17; refine (nJunk _).mono ?_; rintro e w' ⟨rfl, rfl⟩)
      | (go_at_call 18; refine (nOver _).mono ?_; rintro e w' ⟨rfl, rfl⟩)
      | (go_at_call 19; refine (nBroken _).mono ?_; rintro e w' ⟨rfl, rfl⟩)
      | (go_at_call 11; refine (dNew_no n HN.out _).mono ?_; rintro e w' ⟨rfl, rfl⟩))
    refine (alive05 w).mono ?_
    rintro e w2 ⟨rfl, hb⟩
    go_wp2_with (fail)
    go_ret
    exact ⟨rfl, hb⟩
  · by_cases h2 : 65536 < n
    · have HN : Hid (n < 1 ∨ 65536 < n) := Lib.hid (.inr h2)
      go_enter Try.func5, Try.ntmps5
      go_wp2_with (first
        | (go_at_call 13; refine (nFeed _ _).mono ?_; rintro e w' ⟨rfl, rfl⟩)
        | (go_at_call 20; refine (nReset _).mono ?_; rintro e w' ⟨rfl, rfl⟩)
        | (go_at_call 16; refine (nHeld _).mono ?_; rintro e w' ⟨rfl, rfl⟩)
        | (go_at_call 17; refine (nJunk _).mono ?_; rintro e w' ⟨rfl, rfl⟩)
        | (go_at_call 18; refine (nOver _).mono ?_; rintro e w' ⟨rfl, rfl⟩)
        | (go_at_call 19; refine (nBroken _).mono ?_; rintro e w' ⟨rfl, rfl⟩)
        | (go_at_call 11; refine (dNew_no n HN.out _).mono ?_; rintro e w' ⟨rfl, rfl⟩))
      refine (alive05 w).mono ?_
      rintro e w2 ⟨rfl, hb⟩
      go_wp2_with (fail)
      go_ret
      exact ⟨rfl, hb⟩
    · obtain ⟨m, rfl⟩ : ∃ m : Nat, n = (m : Int) := ⟨n.toNat, by omega⟩
      go_enter Try.func5, Try.ntmps5
      go_wp2_with (first
        | (go_at_call 13; refine (nFeed _ _).mono ?_; rintro e w' ⟨rfl, rfl⟩)
        | (go_at_call 20; refine (nReset _).mono ?_; rintro e w' ⟨rfl, rfl⟩)
        | (go_at_call 16; refine (nHeld _).mono ?_; rintro e w' ⟨rfl, rfl⟩)
        | (go_at_call 17; refine (nJunk _).mono ?_; rintro e w' ⟨rfl, rfl⟩)
        | (go_at_call 18; refine (nOver _).mono ?_; rintro e w' ⟨rfl, rfl⟩)
        | (go_at_call 19; refine (nBroken _).mono ?_; rintro e w' ⟨rfl, rfl⟩))
      refine (dNew m (by omega) (by omega) w).mono ?_
      rintro e w1 ⟨D, rfl, hd, hb⟩
      have HD := Lib.hid hd
      have HB := Lib.hid hb
      clear hd hb
      go_wp2_with (fail)
      refine (alive05 w1).mono ?_
      rintro e w2 ⟨rfl, hb⟩
      have HD2 := Lib.hid (HD.out.below hb)
      have HB2 : Hid (Below w.heap.size w w2) := Lib.hid (HB.out.trans (hb.mono HB.out.size))
      clear hb
      go_wp2_with (fail)
      refine (dHeld w.heap.size D none m newS w2 HD2.out (by simp [newS])).mono ?_
      rintro e w' ⟨rfl, rfl⟩
      rw [show heldD newS = 0 from rfl]
      go_wp2_with (fail)
      go_ret
      exact ⟨rfl, HB2.out⟩
end Go.Proofs.Ytbbamdcdpololaa
