/- Layer 16: rest. -/
import Derived.Test.YtcdkcaahmjchjaaSender
namespace Go.Proofs.Ytcdkcaahmjchjaa
open Go.RowKit

/-- a sender behind rest(n) -/
def restS (s : Snd) (n : Int) : Snd := if n = 0 then { s with kind := 0, left := 0 } else { s with kind := 2, left := n }

theorem IsSnd.set2 {w : World} {g : Nat} {s : Snd} (h : IsSnd w g s) (a b : Int) : IsSnd ((w.setCell ⟨g, 8, none⟩ (.int .i64 a)).setCell ⟨g, 9, none⟩ (.int .i64 b)) g { s with kind := a, left := b } :=
  (h.set (s' := { s with kind := a }) 8 _ rfl).set 9 _ rfl
theorem grown_set2 {w0 w : World} (g : Nat) (h : w0.grownBy w (some g)) (i j : Nat) (u v : Value) : w0.grownBy ((w.setCell ⟨g, i, none⟩ u).setCell ⟨g, j, none⟩ v) (some g) :=
  (h.trans (grown_set w g i u)).trans (grown_set _ g j v)

set_option maxRecDepth 100000 in
theorem senderRest (w : World) (g : Nat) (s : Snd) (n : Int) (h : IsSnd w g s) : Calls Try.prog 50 #[.pointer (some ⟨g, 0, none⟩), .int .i64 n] w
    (SndRet (.tuple #[]) g (restS s n) w) := by
  have z8 := h.cell 8
  have z9 := h.cell 9
  simp at z8 z9
  have f8 := h.frozen 8
  have f9 := h.frozen 9
  have H := Lib.hid h
  clear h
  by_cases h1 : n = 0
  · subst h1
    go_enter Try.func50, Try.ntmps50
    go_wp2
    go_end0
    refine ⟨rfl, ?_, grown_set2 g (grown_set2 g (grown_refl _ _) 8 9 _ _) 8 9 _ _⟩
    unfold restS
    rw [if_pos rfl]
    exact (H.out.set2 2 0).set2 0 0
  · go_enter Try.func50, Try.ntmps50
    go_wp2
    go_end0
    refine ⟨rfl, ?_, grown_set2 g (grown_refl _ _) 8 9 _ _⟩
    unfold restS
    rw [if_neg h1]
    exact H.out.set2 2 n
end Go.Proofs.Ytcdkcaahmjchjaa
