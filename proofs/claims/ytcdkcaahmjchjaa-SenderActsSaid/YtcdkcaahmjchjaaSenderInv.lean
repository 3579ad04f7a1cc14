/- Layer 16: what holds of a sender whatever is called; a row of calls. -/
import Derived.Test.YtcdkcaahmjchjaaSenderLives
namespace Go.Proofs.Ytcdkcaahmjchjaa
open Go.RowKit
set_option linter.unusedVariables false

structure Inv (s : Snd) : Prop where
  ok : s.Ok
  left : s.Left_
  pos : 0 ≤ s.pos
  le : s.pos ≤ s.known
  known : s.known ≤ 1099511627776
  fly : s.kind = 1 → s.pos < s.known
  time : 0 ≤ s.timeout ∧ s.timeout ≤ 1099511627776

theorem restS_fields (s : Snd) (n : Int) : (restS s n).pos = s.pos ∧ (restS s n).known = s.known ∧ (restS s n).timeout = s.timeout ∧ (restS s n).base = s.base ∧ (restS s n).cap = s.cap ∧ (restS s n).tries = s.tries ∧ (restS s n).kind ≠ 1 ∧ (restS s n).left = n := by
  unfold restS
  split
  · subst_vars; simp
  · simp
theorem restS_inv {s : Snd} (h : Inv s) {n : Int} (h0 : 0 ≤ n) (h1 : n ≤ 1099511627776) : Inv (restS s n) := by
  obtain ⟨a, b, c, d, e, f, g, l⟩ := restS_fields s n
  refine ⟨?_, ?_, by rw [a]; exact h.pos, by rw [a, b]; exact h.le, by rw [b]; exact h.known, fun hk => absurd hk g, by rw [c]; exact h.time⟩
  · unfold Snd.Ok
    rw [d, e, f]
    exact h.ok
  · unfold Snd.Left_
    rw [l]
    exact ⟨h0, h1⟩
theorem tries_inv {s : Snd} (h : Inv s) (t : Int) (h0 : 0 ≤ t) (h1 : t ≤ 1099511627776) : Inv { s with tries := t } :=
  ⟨⟨h.ok.1, h.ok.2.1, h0, h1⟩, h.left, h.pos, h.le, h.known, h.fly, h.time⟩
theorem failS_inv {s : Snd} (h : Inv s) : Inv (failS s) := by
  have hd := nextD_bounds s.base s.cap s.F s.tries.toNat h.ok.2.1.1 h.ok.2.1.2
  have hc := h.ok.2.1.2
  have h0 := h.ok.2.2.1
  have h1 := h.ok.2.2.2
  unfold failS
  refine restS_inv (tries_inv h _ ?_ ?_) hd.1 (by omega)
  · split <;> omega
  · split <;> omega
theorem failS_pos (s : Snd) : (failS s).pos = s.pos ∧ (failS s).known = s.known := by
  unfold failS
  have := restS_fields { s with tries := if s.tries < 1099511627776 then s.tries + 1 else s.tries } (nextD s.base s.cap s.F s.tries.toNat)
  exact ⟨this.1, this.2.1⟩
theorem pollS_inv {s : Snd} (h : Inv s) : Inv (pollS s) := by
  unfold pollS
  split
  · rename_i hp
    exact ⟨h.ok, h.time, h.pos, h.le, h.known, fun _ => hp.2.2, h.time⟩
  · exact h
theorem pollS_pos (s : Snd) : (pollS s).pos = s.pos ∧ (pollS s).known = s.known := by unfold pollS; split <;> exact ⟨rfl, rfl⟩
theorem answerS_inv {s : Snd} (h : Inv s) (b : Bool) : Inv (answerS s b) := by
  unfold answerS
  split
  · rename_i hk
    split
    · have := h.fly hk
      have hp := h.pos
      have hk := h.known
      exact ⟨⟨h.ok.1, h.ok.2.1, by show (0 : Int) ≤ 0; omega, by show (0 : Int) ≤ _; omega⟩, ⟨by show (0 : Int) ≤ 0; omega, by show (0 : Int) ≤ _; omega⟩, by show 0 ≤ s.pos + 1; omega, by show s.pos + 1 ≤ s.known; omega, h.known, fun hz => by exact absurd (show (0 : Int) = 1 from hz) (by omega), h.time⟩
    · exact failS_inv h
  · exact h
theorem answerS_pos (s : Snd) (b : Bool) : (answerS s b).pos = (if (s.kind == 1) && b then s.pos + 1 else s.pos) ∧ (answerS s b).known = s.known := by
  unfold answerS
  by_cases hk : s.kind = 1
  · rw [if_pos hk]
    cases b
    · simp [hk]
      exact failS_pos s
    · simp [hk]
  · rw [if_neg hk]
    simp [hk]
theorem tickR_inv {s : Snd} (h : Inv s) {n : Int} (hn : 0 ≤ n) : Inv (tickR s n) := by
  unfold tickR
  split
  · have := h.left.1
    have := h.left.2
    exact restS_inv h (by omega) (by omega)
  · exact h
theorem tickR_pos (s : Snd) (n : Int) : (tickR s n).pos = s.pos ∧ (tickR s n).known = s.known := by
  unfold tickR
  split
  · exact ⟨(restS_fields _ _).1, (restS_fields _ _).2.1⟩
  · exact ⟨rfl, rfl⟩
theorem tickS_inv {s : Snd} (h : Inv s) {n : Int} (hn : 0 ≤ n) : Inv (tickS s n) := by
  unfold tickS
  split
  · rename_i hk
    split
    · have := h.left.2
      exact ⟨h.ok, ⟨by show 0 ≤ s.left - n; omega, by show s.left - n ≤ _; omega⟩, h.pos, h.le, h.known, h.fly, h.time⟩
    · have := h.left.1
      exact tickR_inv (failS_inv h) (by omega)
  · exact tickR_inv h hn
theorem tickS_pos (s : Snd) (n : Int) : (tickS s n).pos = s.pos ∧ (tickS s n).known = s.known := by
  unfold tickS
  split
  · split
    · exact ⟨rfl, rfl⟩
    · have h1 := tickR_pos (failS s) (n - s.left)
      have h2 := failS_pos s
      exact ⟨h1.1.trans h2.1, h1.2.trans h2.2⟩
  · exact tickR_pos s n
theorem offer_inv {s : Snd} (h : Inv s) {n : Int} (h0 : s.known ≤ n) (h1 : n ≤ 1099511627776) : Inv { s with known := n } :=
  ⟨h.ok, h.left, h.pos, by show s.pos ≤ n; have := h.le; omega, h1, fun hk => by show s.pos < n; have := h.fly hk; omega, h.time⟩

/-- a row of calls, as it came in -/
def Ps (w : World) (A : Option Addr) (n c : Nat) (L : List (Int × Int)) : Prop :=
  L.length = n ∧ n ≤ c ∧ c ≤ maxLen ∧ (0 < n → ∃ b o, A = some ⟨b, o, none⟩ ∧ ∀ i p, L[i]? = some p → w.cell? ⟨b, o + i * 2, none⟩ = some (.int .i64 p.1) ∧ w.cell? ⟨b, o + i * 2 + 1, none⟩ = some (.int .i64 p.2)) ∧
  ∀ p ∈ L, (Lit.int .i64 p.1).wf = true ∧ (Lit.int .i64 p.2).wf = true
theorem Ps.at_ {w : World} {A : Option Addr} {n c : Nat} {L : List (Int × Int)} (h : Ps w A n c L) (hn : 0 < n) : ∃ b o, A = some ⟨b, o, none⟩ ∧ b < w.heap.size ∧ ∀ i p, L[i]? = some p → w.cell? ⟨b, o + i * 2, none⟩ = some (.int .i64 p.1) ∧ w.cell? ⟨b, o + i * 2 + 1, none⟩ = some (.int .i64 p.2) := by
  obtain ⟨b, o, e, hc⟩ := h.2.2.2.1 hn
  have hl : 0 < L.length := by rw [h.1]; exact hn
  exact ⟨b, o, e, World.block_lt_of_cell? w _ (hc 0 _ (List.getElem?_eq_getElem hl)).1, hc⟩
theorem Ps.below {w w' : World} {A : Option Addr} {n c : Nat} {L : List (Int × Int)} (h : Ps w A n c L) (hb : Below w.heap.size w w') : Ps w' A n c L :=
  ⟨h.1, h.2.1, h.2.2.1, fun hn => by
    obtain ⟨b, o, e, hlt, hc⟩ := h.at_ hn
    exact ⟨b, o, e, fun i p hp => ⟨(hb.cell (p := ⟨b, o + i * 2, none⟩) hlt).trans (hc i p hp).1, (hb.cell (p := ⟨b, o + i * 2 + 1, none⟩) hlt).trans (hc i p hp).2⟩⟩, h.2.2.2.2⟩
theorem Ps.nmax {w : World} {A : Option Addr} {n c : Nat} {L : List (Int × Int)} (h : Ps w A n c L) : n ≤ 9223372036854775807 := by
  have := h.2.1
  have := h.2.2.1
  simp only [maxLen] at this
  omega
theorem wf64 {x : Int} (h : (Lit.int .i64 x).wf = true) : -9223372036854775808 ≤ x ∧ x ≤ 9223372036854775807 := by
  simpa [Lit.wf, IntKind.min, IntKind.max, IntKind.signed, IntKind.bits] using h
end Go.Proofs.Ytcdkcaahmjchjaa
