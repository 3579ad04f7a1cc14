/- Layer 5: bytes that may be in a frame, fed to a deframer. -/
import Derived.Test.YtjeibckjockmeaaDoorDfAlive
import Derived.Test.YtjeibckjockmeaaDoorFrame
namespace Go.Proofs.YtjeibckjockmeaaDoor
open Go.RowKit

/-- inside a frame, p of it seen; the counts are z's -/
def Mid (z s : St) (p : List UInt8) : Prop := s.junk = z.junk ∧ s.over = z.over ∧ s.broken = z.broken ∧ ((s.md = .inn ∧ s.fr = p) ∨ (s.md = .beh ∧ p = s.fr ++ [28]))
theorem Mid.begun {z s : St} {p : List UInt8} (h : Mid z s p) : s.md.begun = true := by
  obtain ⟨_, _, _, ⟨h, _⟩ | ⟨h, _⟩⟩ := h <;> rw [h] <;> rfl
theorem mid_step {m : Nat} {z s : St} {p : List UInt8} (h : Mid z s p) (X : List (List UInt8)) (c : UInt8) (h11 : c ≠ 11) (h13 : s.md = .beh → c ≠ 13) (hm : p.length + 1 ≤ m) : ∃ s', eatD m (s, X) c = (s', X) ∧ Mid z s' (p ++ [c]) := by
  obtain ⟨j, o, b, ⟨hmd, hfr⟩ | ⟨hmd, hp⟩⟩ := h
  · by_cases hc : c = 28
    · exact ⟨{ s with md := .beh }, by simp [eatD, stepD, hmd, hc], j, o, b, .inr ⟨rfl, by simp [hfr, hc]⟩⟩
    · have hn : ¬ m < s.fr.length + 1 := by rw [hfr]; omega
      exact ⟨{ s with fr := s.fr ++ [c] }, by simp [eatD, stepD, hmd, hc, h11, layS, hn], j, o, b, .inl ⟨hmd, by simp [hfr]⟩⟩
  · have hl : p.length = s.fr.length + 1 := by rw [hp]; simp
    have h13 := h13 hmd
    by_cases hc : c = 28
    · have hn : ¬ m < s.fr.length + 1 := by omega
      exact ⟨{ s with fr := s.fr ++ [28] }, by simp [eatD, stepD, hmd, hc, layS, hn], j, o, b, .inr ⟨hmd, by simp [hp, hc]⟩⟩
    · have hn : ¬ m < s.fr.length + 2 := by omega
      exact ⟨{ s with md := .inn, fr := s.fr ++ [28, c] }, by simp [eatD, stepD, hmd, hc, h11, h13, layS, hn], j, o, b, .inl ⟨rfl, by simp [hp]⟩⟩
theorem mid_feed {m : Nat} {z s : St} {l : List UInt8} (h0 : Mid z s []) (hg : good l = true) (hm : l.length ≤ m) : ∀ k, k ≤ l.length → ∃ s', feedD m s (l.take k) = (s', []) ∧ Mid z s' (l.take k)
  | 0, _ => ⟨s, rfl, by simpa using h0⟩
  | k + 1, hk => by
    obtain ⟨s', e, h⟩ := mid_feed h0 hg hm k (by omega)
    have hkl : k < l.length := by omega
    obtain ⟨s2, e2, h2⟩ := mid_step (m := m) h [] l[k] (fun e => good_no_start hg (e ▸ List.getElem_mem hkl)) (fun hmd e13 => by
      obtain ⟨_, _, _, ⟨hq, _⟩ | ⟨_, hp⟩⟩ := h
      · rw [hq] at hmd; cases hmd
      · have hlen : s'.fr.length + 1 = k := by
          have := congrArg List.length hp
          simp at this
          omega
        have hb := good_at hg (i := s'.fr.length) (by omega)
        have h28 : l[s'.fr.length]? = some 28 := by
          have : (l.take k)[s'.fr.length]? = some 28 := by rw [hp]; simp
          rwa [List.getElem?_take, if_pos (by omega)] at this
        have h13 : l[s'.fr.length + 1]? = some 13 := by
          rw [hlen, List.getElem?_eq_getElem hkl, e13]
        simp [badAt, h28, h13] at hb) (by rw [List.length_take]; omega)
    refine ⟨s2, ?_, ?_⟩
    · rw [List.take_succ_eq_append_getElem hkl, feedD_snoc, e, e2]
    · rw [List.take_succ_eq_append_getElem hkl]
      exact h2
theorem mid_inn {z s : St} {l : List UInt8} (h : Mid z s l) (hg : good l = true) : s.md = .inn ∧ s.fr = l := by
  obtain ⟨_, _, _, h | ⟨_, hp⟩⟩ := h
  · exact h
  · have hl : l.length = s.fr.length + 1 := by rw [hp]; simp
    have hb := good_at hg (i := s.fr.length) (by omega)
    have h28 : l[s.fr.length]? = some 28 := by rw [hp]; simp
    unfold badAt at hb
    rw [h28] at hb
    simp [hl] at hb
theorem feed_cons (m : Nat) (s s1 : St) (c : UInt8) (l : List UInt8) (h : eatD m (s, []) c = (s1, [])) : feedD m s (c :: l) = feedD m s1 l := by
  show l.foldl (eatD m) (eatD m (s, []) c) = _
  rw [h]
  rfl
/-- a whole frame -/
theorem frame_feed {m : Nat} {z s s1 : St} {l : List UInt8} (h1 : eatD m (s, []) 11 = (s1, [])) (h0 : Mid z s1 []) (hg : good l = true) (hm : l.length ≤ m) :
    feedD m s (11 :: (l ++ [28, 13])) = (⟨.out, [], z.junk, z.over, z.broken⟩, [l]) := by
  rw [feed_cons m s s1 11 _ h1, feedD_append]
  obtain ⟨s2, e, h⟩ := mid_feed h0 hg hm l.length (Nat.le_refl _)
  rw [List.take_length] at e h
  obtain ⟨hmd, hfr⟩ := mid_inn h hg
  rw [e]
  have e1 : eatD m (s2, []) 28 = ({ s2 with md := .beh }, []) := by simp [eatD, stepD, hmd]
  have e2 : feedD m { s2 with md := .beh } [13] = (leaveS { s2 with md := .beh }, [l]) := by simp [feedD, eatD, stepD, hfr]
  rw [feed_cons m s2 _ 28 [13] e1, e2]
  obtain ⟨j, o, b, _⟩ := h
  simp [leaveS, j, o, b]
/-- the first bytes of a frame -/
theorem frame_begun {m : Nat} {l : List UInt8} (hg : good l = true) (hm : l.length ≤ m) (k : Nat) (h1 : 1 ≤ k) (h2 : k ≤ l.length + 2) :
    ∃ s, feedD m newS ((11 :: (l ++ [28, 13])).take k) = (s, []) ∧ s.md.begun = true ∧ s.junk = 0 ∧ s.over = 0 ∧ s.broken = 0 := by
  obtain ⟨j, rfl⟩ : ∃ j, k = j + 1 := ⟨k - 1, by omega⟩
  rw [List.take_succ_cons]
  have e0 : eatD m (newS, []) 11 = (enterS newS, []) := by simp [eatD, stepD, newS]
  have h0 : Mid newS (enterS newS) [] := ⟨rfl, rfl, rfl, .inl ⟨rfl, rfl⟩⟩
  rw [feed_cons m newS _ 11 _ e0]
  by_cases hj : j ≤ l.length
  · obtain ⟨s, e, h⟩ := mid_feed h0 hg hm j hj
    rw [List.take_append_of_le_length hj]
    exact ⟨s, e, h.begun, h.1, h.2.1, h.2.2.1⟩
  · obtain ⟨s, e, h⟩ := mid_feed h0 hg hm l.length (Nat.le_refl _)
    rw [List.take_length] at e h
    obtain ⟨hmd, hfr⟩ := mid_inn h hg
    have hj2 : j = l.length + 1 := by omega
    rw [hj2, List.take_append, List.take_of_length_le (by omega), show l.length + 1 - l.length = 1 by omega]
    rw [show [(28 : UInt8), 13].take 1 = [28] from rfl, feedD_snoc, e]
    exact ⟨{ s with md := .beh }, by simp [eatD, stepD, hmd], rfl, h.1, h.2.1, h.2.2.1⟩
/-- a frame that is begun is broken off -/
theorem eat_break {m : Nat} {s : St} (h : s.md.begun = true) (hj : s.junk = 0) (ho : s.over = 0) (hb : s.broken = 0) : ∃ s1, eatD m (s, []) 11 = (s1, []) ∧ Mid ⟨.out, [], 0, 0, 1⟩ s1 [] := by
  refine ⟨enterS { s with broken := s.broken + 1 }, ?_, by simp [enterS, hj], by simp [enterS, ho], by simp [enterS, hb], .inl ⟨rfl, rfl⟩⟩
  cases hmd : s.md
  · rw [hmd] at h; cases h
  · simp [eatD, stepD, hmd]
  · simp [eatD, stepD, hmd]
end Go.Proofs.YtjeibckjockmeaaDoor
