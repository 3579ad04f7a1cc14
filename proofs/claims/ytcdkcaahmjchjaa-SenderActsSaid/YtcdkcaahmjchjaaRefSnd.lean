/- Layer 16: the document's sender, walked. -/
import Derived.Test.YtcdkcaahmjchjaaSenderNone
import Derived.Test.YtcdkcaahmjchjaaSenderInv
namespace Go.Proofs.Ytcdkcaahmjchjaa
open Go.RowKit
set_option linter.unusedVariables false

theorem IsRef.cell {w : World} {g : Nat} {s : Ref} (h : IsRef w g s) (j : Nat) : w.cell? ⟨g, j, none⟩ = s.cells[j]? := cell_of_row w g j _ _ _ h
theorem IsRef.lt {w : World} {g : Nat} {s : Ref} (h : IsRef w g s) : g < w.heap.size := by
  rcases Nat.lt_or_ge g w.heap.size with h' | h'
  · exact h'
  · unfold IsRef at h
    rw [Array.getElem?_eq_none h'] at h
    cases h
theorem IsRef.below {w w' : World} {g B : Nat} {s : Ref} (h : IsRef w g s) (hb : Below B w w') (hg : g < B) : IsRef w' g s := (hb.block g hg).trans h
theorem IsRef.frozen {w : World} {g : Nat} {s : Ref} (h : IsRef w g s) (j : Nat) : w.frozen? ⟨g, j, none⟩ = false := by
  unfold IsRef at h
  simp [World.frozen?, h]
theorem IsRef.set {w : World} {g : Nat} {s s' : Ref} (h : IsRef w g s) (j : Nat) (v : Value) (hs : s.cells.setIfInBounds j v = s'.cells) : IsRef (w.setCell ⟨g, j, none⟩ v) g s' := by
  unfold IsRef
  rw [heap_setCell_same w g j _ _ v h, hs]
theorem IsRef.other {w w' : World} {g k : Nat} {s : Ref} (h : IsRef w g s) (hg : w.grownBy w' (some k)) (hne : g ≠ k) : IsRef w' g s :=
  (hg.block g h.lt (by simpa using hne)).trans h
def RefRet (v : Value) (g : Nat) (s' : Ref) (w : World) (e : Ending) (w' : World) : Prop := e = .returned v ∧ IsRef w' g s' ∧ w.grownBy w' (some g)

def failR (r : Ref) : Ref := { r with flying := false, rests := decide (0 < nextD r.base r.cap r.F r.tries.toNat), left := nextD r.base r.cap r.F r.tries.toNat, tries := if r.tries < 1099511627776 then r.tries + 1 else r.tries }
structure Ref.Ok (r : Ref) : Prop where
  b : 0 ≤ r.base ∧ r.base ≤ 1099511627776
  c : 0 ≤ r.cap ∧ r.cap ≤ 1099511627776
  t : 0 ≤ r.tries ∧ r.tries ≤ 1099511627776

set_option maxRecDepth 100000 in
set_option maxHeartbeats 2000000 in
theorem refOffer (w : World) (g : Nat) (s : Ref) (n : Int) (h : IsRef w g s) : Calls Try.prog 19 #[.pointer (some ⟨g, 0, none⟩), .int .i64 n] w
    (RefRet (.int .i64 (if n < s.known ∨ 1099511627776 < n then 3 else 0)) g (if n < s.known ∨ 1099511627776 < n then s else { s with known := n }) w) := by
  have z : w.cell? ⟨g, 6, none⟩ = some (.int .i64 s.known) := h.cell 6
  have hf := h.frozen 6
  have H := Lib.hid h
  clear h
  by_cases h1 : n < s.known
  · rw [if_pos (.inl h1), if_pos (.inl h1)]
    have d : decide (n < s.known) = true := by simpa using h1
    go_enter Try.func19, Try.ntmps19
    go_wp2
    go_ret
    exact ⟨rfl, H.out, grown_refl _ _⟩
  · have d : decide (n < s.known) = false := by simp; omega
    by_cases h2 : 1099511627776 < n
    · rw [if_pos (.inr h2), if_pos (.inr h2)]
      have d2 : decide ((1099511627776 : Int) < n) = true := by simpa using h2
      go_enter Try.func19, Try.ntmps19
      go_wp2
      go_ret
      exact ⟨rfl, H.out, grown_refl _ _⟩
    · rw [if_neg (by omega), if_neg (by omega)]
      have d2 : decide ((1099511627776 : Int) < n) = false := by simp; omega
      go_enter Try.func19, Try.ntmps19
      go_wp2
      go_ret
      exact ⟨rfl, H.out.set 6 _ rfl, grown_set _ _ _ _⟩

set_option maxRecDepth 100000 in
set_option maxHeartbeats 2000000 in
theorem refFail (w : World) (g : Nat) (s : Ref) (h : IsRef w g s) (ok : s.Ok) : Calls Try.prog 49 #[.pointer (some ⟨g, 0, none⟩)] w
    (RefRet (.tuple #[]) g (failR s) w) := by
  have OK := Lib.hid ok
  have H := Lib.hid h
  obtain ⟨z0, z1, z2, z3, z4, z7⟩ : w.cell? ⟨g, 0, none⟩ = some (.int .i64 0) ∧ w.cell? ⟨g, 1, none⟩ = some (.int .i64 s.base) ∧ w.cell? ⟨g, 2, none⟩ = some (.int .i64 s.cap) ∧ w.cell? ⟨g, 3, none⟩ = some (.int .i64 s.timeout) ∧ w.cell? ⟨g, 4, none⟩ = some (.float .f64 s.F) ∧ w.cell? ⟨g, 10, none⟩ = some (.int .i64 s.tries) :=
    ⟨h.cell 0, h.cell 1, h.cell 2, h.cell 3, h.cell 4, h.cell 10⟩
  clear h ok
  go_enter Try.func49, Try.ntmps49
  go_wp2_with (fail)
  go_region_held3 (fun w' => w'.cell? ⟨g, 0, none⟩ = some (.int .i64 0) ∧ w'.cell? ⟨g, 1, none⟩ = some (.int .i64 s.base) ∧ w'.cell? ⟨g, 2, none⟩ = some (.int .i64 s.cap) ∧ w'.cell? ⟨g, 3, none⟩ = some (.int .i64 s.timeout) ∧ w'.cell? ⟨g, 4, none⟩ = some (.float .f64 s.F) ∧ w'.cell? ⟨g, 10, none⟩ = some (.int .i64 s.tries)) (first | exact ⟨(H.out.below hb2 H.out.lt).cell 0, (H.out.below hb2 H.out.lt).cell 1, (H.out.below hb2 H.out.lt).cell 2, (H.out.below hb2 H.out.lt).cell 3, (H.out.below hb2 H.out.lt).cell 4, (H.out.below hb2 H.out.lt).cell 10⟩ | go_keep)
    (first
    | (go_at_call 34; refine (refNext_yes 0 s.base s.cap s.timeout s.tries s.F w.drew OK.out.b.1 OK.out.b.2 OK.out.c.1 OK.out.c.2 OK.out.t.1 (Int.le_trans OK.out.t.2 (by omega))).mono ?_
       rintro e w2 ⟨rfl, hb2'⟩
       have hb2 : Below w.heap.size w w2 := ((Below.refl _ _).drew).trans hb2'
       clear hb2'))
  have h2 : IsRef w2 g s := H.out.below hb2 H.out.lt
  have G2 := Lib.hid (grown_below g hb2)
  have y7 : w2.cell? ⟨g, 7, none⟩ = some (.bool s.flying) := h2.cell 7
  have y8 : w2.cell? ⟨g, 8, none⟩ = some (.bool s.rests) := h2.cell 8
  have y9 : w2.cell? ⟨g, 9, none⟩ = some (.int .i64 s.left) := h2.cell 9
  have y10 : w2.cell? ⟨g, 10, none⟩ = some (.int .i64 s.tries) := h2.cell 10
  have f7 := h2.frozen 7
  have f8 := h2.frozen 8
  have f9 := h2.frozen 9
  have f10 := h2.frozen 10
  have H2 := Lib.hid h2
  clear z0 z1 z2 z3 z4 z7 h2 hb2
  obtain ⟨x, hx⟩ : ∃ x, x = nextD s.base s.cap s.F s.tries.toNat := ⟨_, rfl⟩
  rw [← hx]
  have HX := Lib.hid hx
  clear hx
  by_cases ht : s.tries < 1099511627776
  · have hw : IntKind.i64.wrap (s.tries + 1) = s.tries + 1 := by
      have := OK.out.t.1
      rw [IntKind.wrap_i64]
      omega
    have HF : Hid (failR s = { s with flying := false, rests := decide (0 < x), left := x, tries := s.tries + 1 }) := by
      show failR s = _
      unfold failR
      rw [if_pos ht, ← HX.out]
    go_wp2
    go_end0
    refine ⟨rfl, ?_, G2.out.trans (((grown_set w2 g 7 _).trans (grown_set _ g 8 _)).trans ((grown_set _ g 9 _).trans (grown_set _ g 10 _)))⟩
    rw [HF.out]
    exact (((H2.out.set (s' := { s with flying := false }) 7 _ rfl).set (s' := { s with flying := false, rests := decide (0 < x) }) 8 _ rfl).set (s' := { s with flying := false, rests := decide (0 < x), left := x }) 9 _ rfl).set 10 _ rfl
  · have HF : Hid (failR s = { s with flying := false, rests := decide (0 < x), left := x }) := by
      show failR s = _
      unfold failR
      rw [if_neg ht, ← HX.out]
    go_wp2
    go_end0
    refine ⟨rfl, ?_, G2.out.trans (((grown_set w2 g 7 _).trans (grown_set _ g 8 _)).trans (grown_set _ g 9 _))⟩
    rw [HF.out]
    exact ((H2.out.set (s' := { s with flying := false }) 7 _ rfl).set (s' := { s with flying := false, rests := decide (0 < x) }) 8 _ rfl).set 9 _ rfl
end Go.Proofs.Ytcdkcaahmjchjaa
