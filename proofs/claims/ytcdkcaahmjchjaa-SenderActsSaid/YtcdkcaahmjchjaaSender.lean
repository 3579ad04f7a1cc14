/- Layer 16: a sender's cells, and the methods that only read. -/
import Derived.Test.YtcdkcaahmjchjaaDelay5
namespace Go.Proofs.Ytcdkcaahmjchjaa
open Go.RowKit

/-- what a sender is: its config, the record, how many are known, the tries, the kind of phase, what is left of it -/
structure Snd where
  most : Int
  base : Int
  cap : Int
  timeout : Int
  F : Nat
  pos : Int
  known : Int
  tries : Int
  kind : Int
  left : Int
abbrev Snd.cells (s : Snd) : Array Value := #[.int .i64 s.most, .int .i64 s.base, .int .i64 s.cap, .int .i64 s.timeout, .float .f64 s.F, .int .i64 s.pos, .int .i64 s.known, .int .i64 s.tries, .int .i64 s.kind, .int .i64 s.left]
/-- block g is that sender -/
def IsSnd (w : World) (g : Nat) (s : Snd) : Prop := w.heap[g]? = some (.cells s.cells 82)

theorem IsSnd.cell {w : World} {g : Nat} {s : Snd} (h : IsSnd w g s) (j : Nat) : w.cell? ⟨g, j, none⟩ = s.cells[j]? := cell_of_row w g j _ _ _ h
theorem IsSnd.below {w w' : World} {g B : Nat} {s : Snd} (h : IsSnd w g s) (hb : Below B w w') (hg : g < B) : IsSnd w' g s := (hb.block g hg).trans h

theorem senderAt (w : World) (g : Nat) (s : Snd) (h : IsSnd w g s) : Calls Try.prog 28 #[.pointer (some ⟨g, 0, none⟩)] w fun e w' => e = .returned (.int .i64 s.pos) ∧ w = w' := by
  have z := h.cell 5
  simp at z
  clear h
  go_enter Try.func28, Try.ntmps28
  go_wp2
  go_ret
  exact ⟨rfl, rfl⟩
theorem senderTries (w : World) (g : Nat) (s : Snd) (h : IsSnd w g s) : Calls Try.prog 31 #[.pointer (some ⟨g, 0, none⟩)] w fun e w' => e = .returned (.int .i64 s.tries) ∧ w = w' := by
  have z := h.cell 7
  simp at z
  clear h
  go_enter Try.func31, Try.ntmps31
  go_wp2
  go_ret
  exact ⟨rfl, rfl⟩
theorem senderLeft (w : World) (g : Nat) (s : Snd) (h : IsSnd w g s) : Calls Try.prog 30 #[.pointer (some ⟨g, 0, none⟩)] w fun e w' => e = .returned (.int .i64 s.left) ∧ w = w' := by
  have z := h.cell 9
  simp at z
  clear h
  go_enter Try.func30, Try.ntmps30
  go_wp2
  go_ret
  exact ⟨rfl, rfl⟩
theorem senderFlying (w : World) (g : Nat) (s : Snd) (h : IsSnd w g s) : Calls Try.prog 29 #[.pointer (some ⟨g, 0, none⟩)] w fun e w' => e = .returned (.bool (s.kind == 1)) ∧ w = w' := by
  have z := h.cell 8
  simp at z
  clear h
  go_enter Try.func29, Try.ntmps29
  go_wp2
  go_ret
  exact ⟨rfl, rfl⟩

theorem IsSnd.set {w : World} {g : Nat} {s s' : Snd} (h : IsSnd w g s) (j : Nat) (v : Value) (hs : s.cells.setIfInBounds j v = s'.cells) : IsSnd (w.setCell ⟨g, j, none⟩ v) g s' := by
  unfold IsSnd
  rw [heap_setCell_same w g j _ _ v h, hs]
theorem IsSnd.lt {w : World} {g : Nat} {s : Snd} (h : IsSnd w g s) : g < w.heap.size := by
  rcases Nat.lt_or_ge g w.heap.size with h' | h'
  · exact h'
  · unfold IsSnd at h
    rw [Array.getElem?_eq_none h'] at h
    cases h
theorem IsSnd.frozen {w : World} {g : Nat} {s : Snd} (h : IsSnd w g s) (j : Nat) : w.frozen? ⟨g, j, none⟩ = false := by
  unfold IsSnd at h
  simp [World.frozen?, h]

theorem grown_refl (w : World) (row : Option Nat) : w.grownBy w row := ⟨rfl, rfl, rfl, Nat.le_refl _, fun _ _ _ => rfl⟩
theorem grown_set (w : World) (b i : Nat) (v : Value) : w.grownBy (w.setCell ⟨b, i, none⟩ v) (some b) :=
  ⟨rfl, rfl, rfl, by simp [World.setCell], fun k _ hk => Below.heap_setCell _ _ _ _ (fun e => hk (by simp [e]))⟩

/-- what a method leaves: only that sender's block may have changed -/
def SndRet (v : Value) (g : Nat) (s' : Snd) (w : World) (e : Ending) (w' : World) : Prop := e = .returned v ∧ IsSnd w' g s' ∧ w.grownBy w' (some g)

set_option maxRecDepth 100000 in
theorem senderOffer (w : World) (g : Nat) (s : Snd) (n : Int) (h : IsSnd w g s) : Calls Try.prog 18 #[.pointer (some ⟨g, 0, none⟩), .int .i64 n] w
    (SndRet (.int .i64 (if n < s.known ∨ 1099511627776 < n then 3 else 0)) g (if n < s.known ∨ 1099511627776 < n then s else { s with known := n }) w) := by
  have z := h.cell 6
  simp at z
  have hf := h.frozen 6
  have H := Lib.hid h
  clear h
  by_cases h1 : n < s.known
  · rw [if_pos (.inl h1), if_pos (.inl h1)]
    go_enter Try.func18, Try.ntmps18
    go_wp2
    go_ret
    exact ⟨rfl, H.out, grown_refl _ _⟩
  · by_cases h2 : 1099511627776 < n
    · rw [if_pos (.inr h2), if_pos (.inr h2)]
      go_enter Try.func18, Try.ntmps18
      go_wp2
      go_ret
      exact ⟨rfl, H.out, grown_refl _ _⟩
    · rw [if_neg (by omega), if_neg (by omega)]
      go_enter Try.func18, Try.ntmps18
      go_wp2
      go_ret
      exact ⟨rfl, H.out.set 6 _ rfl, grown_set _ _ _ _⟩
end Go.Proofs.Ytcdkcaahmjchjaa
