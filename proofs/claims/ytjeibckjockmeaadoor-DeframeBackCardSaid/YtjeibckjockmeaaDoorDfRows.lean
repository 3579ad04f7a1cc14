/- Layer 5: rows of bytes in blocks of their own. -/
import Derived.Test.YtjeibckjockmeaaDoorDfMath
namespace Go.Proofs.YtjeibckjockmeaaDoor
open Go.RowKit

abbrev bv (g : Nat) (x : List UInt8) : Value := .slice (some ⟨g, 0, none⟩) x.length x.length
/-- v is a row of the call's own, from block B on, each of its slices in a block of its own, from B on, that is in none of S -/
def RowsG (B : Nat) (S : Nat → Prop) (w : World) (v : Value) (L : List (List UInt8)) (gs : List Nat) : Prop :=
  gs.length = L.length ∧ w.ownsRow B 23 1 v L.length (List.zipWith bv gs L) ∧ (∀ k, v.ownBlock = some k → ¬ S k) ∧
    ∀ (i g : Nat) (x : List UInt8), gs[i]? = some g → L[i]? = some x → B ≤ g ∧ ¬ S g ∧ w.heap[g]? = some (.cells (u8s x).toArray 5)
def RowsAt (B : Nat) (S : Nat → Prop) (w : World) (v : Value) (L : List (List UInt8)) : Prop := ∃ gs, RowsG B S w v L gs
theorem RowsAt.nil (B : Nat) (S : Nat → Prop) (w : World) : RowsAt B S w (.slice none 0 0) [] := ⟨[], rfl, World.ownsRow_nil w B 23 1, (fun k h => by cases h), (fun i g x h => by cases h)⟩

theorem own_ne {w : World} {base n g : Nat} {e t : TypeId} {v : Value} {xs : List Value} {cs : Array Value} {fr : Nat × Nat} (h : w.ownsRow base e 1 v n xs) (hg : w.heap[g]? = some (.cells cs t fr)) (ht : t ≠ e) : some g ≠ v.ownBlock := by
  rcases h.2 with ⟨rfl, _⟩ | ⟨g', cap, cur, rfl, _, hgg, _⟩
  · simp [Value.ownBlock]
  · intro e
    simp [Value.ownBlock] at e
    subst e
    rw [hg] at hgg
    injection hgg with hgg
    injection hgg with _ h2
    exact ht h2
/-- the deframer's own changes -/
theorem RowsAt.ch {B : Nat} {S S' : Nat → Prop} {w w' : World} {v : Value} {L : List (List UInt8)} (h : RowsAt B S w v L) (c : Ch S w w') (hS : ∀ k, k < w.heap.size → S' k → S k) : RowsAt B S' w' v L := by
  obtain ⟨gs, hl, ho, hv, hg⟩ := h
  refine ⟨gs, hl, ⟨ho.1, ?_⟩, fun k hk hs => hv k hk (hS k (World.ownsRow.lt ho k hk).2 hs), fun i g x h1 h2 => ?_⟩
  · rcases ho.2 with hn | ⟨g, cap, cur, e, h1, h2, h3⟩
    · exact .inl hn
    · exact .inr ⟨g, cap, cur, e, h1, c.row h2 (hv g (by rw [e]; rfl)), h3⟩
  · obtain ⟨a, b, d⟩ := hg i g x h1 h2
    exact ⟨a, fun hs => b (hS g (Array.getElem?_eq_some_iff.1 d).1 hs), c.row d b⟩
theorem RowsAt.below {B : Nat} {S : Nat → Prop} {w w' : World} {v : Value} {L : List (List UInt8)} (h : RowsAt B S w v L) (hb : Below w.heap.size w w') : RowsAt B S w' v L := h.ch (Ch.of_below hb) (fun _ _ h => h)
/-- one row more -/
theorem RowsG.more {B : Nat} {S : Nat → Prop} {w w' : World} {v v' : Value} {L : List (List UInt8)} {gs : List Nat} {x : List UInt8} {G : Nat} (h : RowsG B S w v L gs) (hG : w.heap[G]? = some (.cells (u8s x).toArray 5)) (hB : B ≤ G) (hS : ¬ S G) (hSn : ¬ S w.heap.size)
    (hown : w'.ownsRow B 23 1 v' (L.length + 1) (List.zipWith bv gs L ++ [bv G x])) (hgr : w.grownBy w' v.ownBlock) (hfr : v'.ownBlock = v.ownBlock ∨ v'.ownBlock = some w.heap.size) : RowsG B S w' v' (L ++ [x]) (gs ++ [G]) := by
  obtain ⟨hl, ho, hv, hg⟩ := h
  have keep : ∀ (g : Nat) (y : List UInt8), w.heap[g]? = some (.cells (u8s y).toArray 5) → w'.heap[g]? = some (.cells (u8s y).toArray 5) := fun g y hy => by
    rw [hgr.block g (Array.getElem?_eq_some_iff.1 hy).1 (own_ne ho hy (by decide))]
    exact hy
  refine ⟨by simp [hl], ?_, fun k hk => ?_, fun i g y h1 h2 => ?_⟩
  · rw [List.length_append, List.zipWith_append hl]
    exact hown
  · rcases hfr with e | e
    · exact hv k (by rw [← e]; exact hk)
    · rw [e] at hk; injection hk with hk; rw [← hk]; exact hSn
  · by_cases hi : i < L.length
    · rw [List.getElem?_append_left (by rw [hl]; exact hi)] at h1
      rw [List.getElem?_append_left hi] at h2
      obtain ⟨a, b, d⟩ := hg i g y h1 h2
      exact ⟨a, b, keep _ _ d⟩
    · rw [List.getElem?_append_right (by rw [hl]; omega), hl] at h1
      rw [List.getElem?_append_right (by omega)] at h2
      have : i - L.length = 0 := by
        rcases Nat.lt_or_ge (i - L.length) 1 with h | h
        · omega
        · rw [List.getElem?_eq_none (by simpa using h)] at h2; cases h2
      rw [this] at h1 h2
      simp at h1 h2
      subst h1 h2
      exact ⟨hB, hS, keep _ _ hG⟩
theorem rowsInfo : (Tryd.prog.info? 23).map (fun i => (i.zero, i.size, i.bytes)) = some (some (.slice none 0 0), 1, 24) := by kernel_rfl
end Go.Proofs.YtjeibckjockmeaaDoor
