/- Layer 5: rows that are read; are they the same? -/
import Derived.Test.YtjeibckjockmeaaDoorDfSmall
import Derived.Deep.QuietTactic
namespace Go.Proofs.YtjeibckjockmeaaDoor
open Go.RowKit

/-- the slice '.slice A n c' reads as the rows L -/
def Rd (w : World) (A : Option Addr) (n c : Nat) (L : List (List UInt8)) : Prop :=
  L.length = n ∧ n ≤ c ∧ c ≤ maxLen ∧ (0 < n → ∃ b o, A = some ⟨b, o, none⟩ ∧ b < w.heap.size ∧ ∀ (i : Nat) (x : List UInt8), L[i]? = some x → ∃ Ai ci, w.cell? ⟨b, o + i, none⟩ = some (.slice Ai x.length ci) ∧ Bs w Ai x.length ci x)
theorem Rd.nmax {w : World} {A : Option Addr} {n c : Nat} {L : List (List UInt8)} (h : Rd w A n c L) : n ≤ 9223372036854775807 := by
  have := h.2.1
  have := h.2.2.1
  simp only [maxLen] at this
  omega
theorem Rd.below {w w' : World} {A : Option Addr} {n c : Nat} {L : List (List UInt8)} (h : Rd w A n c L) (hb : Below w.heap.size w w') : Rd w' A n c L :=
  ⟨h.1, h.2.1, h.2.2.1, fun hn => by
    obtain ⟨b, o, e, hlt, hc⟩ := h.2.2.2 hn
    exact ⟨b, o, e, Nat.lt_of_lt_of_le hlt hb.size, fun i x hx => by
      obtain ⟨Ai, ci, h1, h2⟩ := hc i x hx
      exact ⟨Ai, ci, (hb.cell (p := ⟨b, o + i, none⟩) hlt).trans h1, h2.below hb⟩⟩⟩
theorem Rd.read {w : World} {A : Option Addr} {n c : Nat} {L : List (List UInt8)} (h : Rd w A n c L) {i : Nat} (hi : i < n) : ∃ b o Ai ci, A = some ⟨b, o, none⟩ ∧ b < w.heap.size ∧ w.cell? ⟨b, o + i, none⟩ = some (.slice Ai (L.getD i []).length ci) ∧ Bs w Ai (L.getD i []).length ci (L.getD i []) := by
  obtain ⟨b, o, e, hlt, hc⟩ := h.2.2.2 (by omega)
  obtain ⟨Ai, ci, h1, h2⟩ := hc i (L.getD i []) (by rw [List.getD_eq_getElem?_getD, List.getElem?_eq_getElem (by rw [h.1]; exact hi)]; rfl)
  exact ⟨b, o, Ai, ci, e, hlt, h1, h2⟩
theorem RowsAt.rd {B : Nat} {S : Nat → Prop} {w : World} {v : Value} {L : List (List UInt8)} (h : RowsAt B S w v L) (hx : ∀ x ∈ L, x.length ≤ maxLen) : ∃ A c, v = .slice A L.length c ∧ Rd w A L.length c L := by
  obtain ⟨gs, hl, ho, _, hg⟩ := h
  rcases ho.2 with ⟨rfl, h0⟩ | ⟨g, cap, cur, rfl, h1, h2, h3, h4, h5, h6⟩
  · exact ⟨none, 0, by rw [h0], rfl, by omega, by simp [maxLen], fun hn => by omega⟩
  · refine ⟨_, cap, rfl, rfl, h3, h4, fun _ => ⟨g, 0, rfl, (Array.getElem?_eq_some_iff.1 h2).1, fun i x hi => ?_⟩⟩
    have hil : i < L.length := (List.getElem?_eq_some_iff.1 hi).1
    have hgl : i < gs.length := by rw [hl]; exact hil
    obtain ⟨_, _, hr⟩ := hg i gs[i] x (List.getElem?_eq_getElem hgl) hi
    refine ⟨some ⟨gs[i], 0, none⟩, x.length, ?_, Bs.block hr rfl (hx x (List.mem_of_getElem? hi))⟩
    rw [Nat.zero_add, cell_of_row w g i cur _ _ h2]
    have e : (cur.toList.take (L.length * 1))[i]? = (List.zipWith bv gs L)[i]? := by rw [h6]
    rw [Nat.mul_one, List.getElem?_take, if_pos hil, List.getElem?_zipWith, List.getElem?_eq_getElem hgl, hi] at e
    simpa using e
theorem feed_short {most M : Nat} {s : St} (h : St.Up most M s) (l : List UInt8) : ∀ k, k ≤ l.length → ∀ x ∈ (feedD most s (l.take k)).2, x.length ≤ most
  | 0, _, x, hx => by simp [feedD] at hx
  | k + 1, hk, x, hx => by
    have ih := feed_short h l k (by omega) x
    have hu := step_up (feed_up h l k (by omega)) (l[k]'(by omega))
    rw [List.take_succ_eq_append_getElem (by omega), feedD_snoc] at hx
    unfold eatD at hx
    split at hx
    · simp only [List.mem_append, List.mem_singleton] at hx
      rcases hx with hx | rfl
      · exact ih hx
      · exact hu.fr
    · exact ih hx

set_option maxHeartbeats 1000000 in
set_option maxRecDepth 100000 in
theorem same05 (A A' : Option Addr) (n c c' : Nat) (L : List (List UInt8)) (w : World) (hS : Rd w A n c L) (hS' : Rd w A' n c' L) :
    Calls Tryd.prog 12 #[.slice A n c, .slice A' n c'] w fun e w' => e = .returned (.bool true) ∧ Below w.heap.size w w' := by
  have hmax := hS.nmax
  have HS := Lib.hid hS
  have HS' := Lib.hid hS'
  clear hS hS'
  go_enter Tryd.func12, Tryd.ntmps12
  go_wp2_with (fail)
  go_loopw [13, 5] (fun i _ wr => ∃ k : Nat, k ≤ n ∧ i = .int .i64 k ∧ Below w.heap.size w wr) (fun i _ _ => n - (intOf i).toNat)
  case atStart => exact ⟨0, Nat.zero_le _, rfl, Below.refl _ _⟩
  case round =>
    obtain ⟨k, hk, rfl, hb⟩ := hrel
    have HB := Lib.hid hb
    clear hb
    by_cases hlt : k < n
    · obtain ⟨b, o, Ai, ci, rfl, _, hc, hB⟩ := (HS.out.below HB.out).read hlt
      obtain ⟨b', o', Ai', ci', rfl, _, hc', hB'⟩ := (HS'.out.below HB.out).read hlt
      have e1 : (k : Int) < (n : Int) := by omega
      have e0 : (0 : Int) ≤ (k : Int) := by omega
      generalize L.getD k [] = y at *
      have hcv := fun q => (hB.drewN q).str (P := Tryd.prog) 23 5 9 Tryd.underlying23 Tryd.underlying5 Tryd.underlying9
      have hcv' := fun q => (hB'.drewN q).str (P := Tryd.prog) 23 5 9 Tryd.underlying23 Tryd.underlying5 Tryd.underlying9
      have HLT := Lib.hid hlt
      clear hlt hB hB'
      go_wp2_with (fail)
      go_quiet (fail)
      go_wp2_with (fail)
      exact ⟨⟨k + 1, HLT.out, by go_num, drawN_below HB.out _⟩, by have := HLT.out; simp [intOf]; omega⟩
    · obtain rfl : k = n := by omega
      go_wp2_with (fail)
      go_ret
      exact ⟨rfl, HB.out⟩
end Go.Proofs.YtjeibckjockmeaaDoor
