/- Layer 16: the document's Poll, Answer, Drop, Tick, walked. -/
import Derived.Test.YtcdkcaahmjchjaaRefSnd
namespace Go.Proofs.Ytcdkcaahmjchjaa
open Go.RowKit
set_option linter.unusedVariables false

set_option maxRecDepth 100000 in
set_option maxHeartbeats 2000000 in
theorem refPoll_yes (w : World) (g : Nat) (s : Ref) (h : IsRef w g s) (hf : s.flying = false) (hr : s.rests = false) (hp : s.pos < s.known) : Calls Try.prog 21 #[.pointer (some ⟨g, 0, none⟩)] w
    (RefRet (.tuple #[.int .i64 s.pos, .bool true]) g { s with flying := true, left := s.timeout } w) := by
  have H := Lib.hid h
  have z3 : w.cell? ⟨g, 3, none⟩ = some (.int .i64 s.timeout) := h.cell 3
  have z5 : w.cell? ⟨g, 5, none⟩ = some (.int .i64 s.pos) := h.cell 5
  have z6 : w.cell? ⟨g, 6, none⟩ = some (.int .i64 s.known) := h.cell 6
  have z7 : w.cell? ⟨g, 7, none⟩ = some (.bool false) := by rw [← hf]; exact h.cell 7
  have z8 : w.cell? ⟨g, 8, none⟩ = some (.bool false) := by rw [← hr]; exact h.cell 8
  have z9 : w.cell? ⟨g, 9, none⟩ = some (.int .i64 s.left) := h.cell 9
  have f7 := h.frozen 7
  have f9 := h.frozen 9
  have hd : decide (s.known ≤ s.pos) = false := by simp; omega
  clear h hf hr hp
  go_enter Try.func21, Try.ntmps21
  go_wp2_with (fail)
  go_quiet (fail)
  go_wp2
  go_ret2
  have h1 : IsRef (w.drewN nq) g s := H.out
  have g1 : w.grownBy (w.drewN nq) (some g) := ⟨rfl, rfl, rfl, Nat.le_refl _, fun _ _ _ => rfl⟩
  exact ⟨rfl, (h1.set (s' := { s with flying := true }) 7 _ rfl).set 9 _ rfl, g1.trans ((grown_set _ g 7 _).trans (grown_set _ g 9 _))⟩

set_option maxRecDepth 100000 in
set_option maxHeartbeats 2000000 in
theorem refPoll_no (w : World) (g : Nat) (s : Ref) (h : IsRef w g s) (hn : s.flying = true ∨ s.rests = true ∨ s.known ≤ s.pos) : Calls Try.prog 21 #[.pointer (some ⟨g, 0, none⟩)] w
    (RefRet (.tuple #[.int .i64 0, .bool false]) g s w) := by
  have H := Lib.hid h
  have gd : ∀ q, w.grownBy (w.drewN q) (some g) := fun q => ⟨rfl, rfl, rfl, Nat.le_refl _, fun _ _ _ => rfl⟩
  have G := Lib.hid gd
  have z5 : w.cell? ⟨g, 5, none⟩ = some (.int .i64 s.pos) := h.cell 5
  have z6 : w.cell? ⟨g, 6, none⟩ = some (.int .i64 s.known) := h.cell 6
  clear gd
  cases hf : s.flying with
  | true =>
    have z7 : w.cell? ⟨g, 7, none⟩ = some (.bool true) := by rw [← hf]; exact h.cell 7
    clear h hf hn
    go_enter Try.func21, Try.ntmps21
    go_wp2_with (fail)
    go_quiet (fail)
    go_wp2
    go_ret2
    exact ⟨rfl, H.out, G.out _⟩
  | false =>
    have z7 : w.cell? ⟨g, 7, none⟩ = some (.bool false) := by rw [← hf]; exact h.cell 7
    cases hr : s.rests with
    | true =>
      have z8 : w.cell? ⟨g, 8, none⟩ = some (.bool true) := by rw [← hr]; exact h.cell 8
      clear h hf hn hr
      go_enter Try.func21, Try.ntmps21
      go_wp2_with (fail)
      go_quiet (fail)
      go_wp2
      go_ret2
      exact ⟨rfl, H.out, G.out _⟩
    | false =>
      have z8 : w.cell? ⟨g, 8, none⟩ = some (.bool false) := by rw [← hr]; exact h.cell 8
      have hp : s.known ≤ s.pos := by
        rcases hn with h1 | h1 | h1
        · rw [hf] at h1; cases h1
        · rw [hr] at h1; cases h1
        · exact h1
      have hd : decide (s.known ≤ s.pos) = true := by simpa using hp
      clear h hf hn hr hp
      go_enter Try.func21, Try.ntmps21
      go_wp2_with (fail)
      go_quiet (fail)
      go_wp2
      go_ret2
      exact ⟨rfl, H.out, G.out _⟩

set_option maxRecDepth 100000 in
set_option maxHeartbeats 2000000 in
theorem refDrop (w : World) (g : Nat) (s : Ref) (h : IsRef w g s) (ok : s.Ok) : Calls Try.prog 27 #[.pointer (some ⟨g, 0, none⟩)] w
    (RefRet (.tuple #[]) g (if s.flying then failR s else s) w) := by
  have H := Lib.hid h
  have OK := Lib.hid ok
  cases hf : s.flying with
  | true =>
    have z7 : w.cell? ⟨g, 7, none⟩ = some (.bool true) := by rw [← hf]; exact h.cell 7
    rw [if_pos rfl]
    clear h hf ok
    go_enter Try.func27, Try.ntmps27
    go_wp2_with (fail)
    refine (refFail w g s H.out OK.out).mono ?_
    rintro e w2 ⟨rfl, hs, hg⟩
    have HS := Lib.hid hs
    have HG := Lib.hid hg
    clear hs hg z7
    go_wp2
    go_end0
    exact ⟨rfl, HS.out, HG.out⟩
  | false =>
    have z7 : w.cell? ⟨g, 7, none⟩ = some (.bool false) := by rw [← hf]; exact h.cell 7
    rw [if_neg (by decide)]
    clear h hf ok
    go_enter Try.func27, Try.ntmps27
    go_wp2
    go_end0
    exact ⟨rfl, H.out, grown_refl _ _⟩

def answerR (r : Ref) (b : Bool) : Ref := if r.flying then (if b then { r with flying := false, left := 0, tries := 0, pos := r.pos + 1 } else failR r) else r
set_option maxRecDepth 100000 in
set_option maxHeartbeats 2000000 in
theorem refAnswer (w : World) (g : Nat) (s : Ref) (b : Bool) (h : IsRef w g s) (ok : s.Ok) (hp : 0 ≤ s.pos ∧ s.pos ≤ 1099511627776) : Calls Try.prog 23 #[.pointer (some ⟨g, 0, none⟩), .bool b] w
    (RefRet (.bool (s.flying && b)) g (answerR s b) w) := by
  have H := Lib.hid h
  have OK := Lib.hid ok
  cases hf : s.flying with
  | true =>
    have z7 : w.cell? ⟨g, 7, none⟩ = some (.bool true) := by rw [← hf]; exact h.cell 7
    unfold answerR
    rw [hf, if_pos rfl, Bool.true_and]
    cases b with
    | true =>
      have z5 : w.cell? ⟨g, 5, none⟩ = some (.int .i64 s.pos) := h.cell 5
      have z9 : w.cell? ⟨g, 9, none⟩ = some (.int .i64 s.left) := h.cell 9
      have z10 : w.cell? ⟨g, 10, none⟩ = some (.int .i64 s.tries) := h.cell 10
      have f5 := h.frozen 5
      have f7 := h.frozen 7
      have f9 := h.frozen 9
      have f10 := h.frozen 10
      have hw : IntKind.i64.wrap (s.pos + 1) = s.pos + 1 := by rw [IntKind.wrap_i64]; omega
      rw [if_pos rfl]
      clear h hf ok
      go_enter Try.func23, Try.ntmps23
      go_wp2
      go_ret
      exact ⟨rfl, (((H.out.set (s' := { s with flying := false }) 7 _ rfl).set (s' := { s with flying := false, left := 0 }) 9 _ rfl).set (s' := { s with flying := false, left := 0, tries := 0 }) 10 _ rfl).set 5 _ rfl, ((grown_set w g 7 _).trans (grown_set _ g 9 _)).trans ((grown_set _ g 10 _).trans (grown_set _ g 5 _))⟩
    | false =>
      rw [if_neg (by decide)]
      clear h hf ok
      go_enter Try.func23, Try.ntmps23
      go_wp2_with (fail)
      refine (refFail w g s H.out OK.out).mono ?_
      rintro e w2 ⟨rfl, hs, hg⟩
      have HS := Lib.hid hs
      have HG := Lib.hid hg
      clear hs hg z7
      go_wp2
      go_ret
      exact ⟨rfl, HS.out, HG.out⟩
  | false =>
    have z7 : w.cell? ⟨g, 7, none⟩ = some (.bool false) := by rw [← hf]; exact h.cell 7
    unfold answerR
    rw [hf, if_neg (by decide), Bool.false_and]
    clear h hf ok
    go_enter Try.func23, Try.ntmps23
    go_wp2
    go_ret
    exact ⟨rfl, H.out, grown_refl _ _⟩
end Go.Proofs.Ytcdkcaahmjchjaa
