/- Layer 5: junk outside; a frame of too many bytes. -/
import Derived.Test.YtjeibckjockmeaaDoorDfMid
namespace Go.Proofs.YtjeibckjockmeaaDoor
open Go.RowKit

/-- outside, a frame over; the counts were z's -/
def Ovr (z s : St) : Prop := s.md = .out ∧ s.over = z.over + 1 ∧ s.broken = z.broken ∧ z.junk ≤ s.junk
theorem out_step {m : Nat} {s : St} (h : s.md = .out) (X : List (List UInt8)) (c : UInt8) (h11 : c ≠ 11) : eatD m (s, X) c = ({ s with junk := s.junk + 1 }, X) := by
  simp [eatD, stepD, h, h11]
/-- junk -/
theorem feed_junk {m : Nat} : ∀ (l : List UInt8) (s : St), s.md = .out → 11 ∉ l → feedD m s l = ({ s with junk := s.junk + l.length }, [])
  | [], s, _, _ => rfl
  | c :: l, s, h, hn => by
    simp only [List.mem_cons, not_or] at hn
    rw [feed_cons m s _ c l (out_step h [] c (fun e => hn.1 e.symm))]
    refine (feed_junk l { s with junk := s.junk + 1 } h hn.2).trans ?_
    simp only [List.length_cons, Prod.mk.injEq, and_true]
    rw [show s.junk + 1 + l.length = s.junk + (l.length + 1) by omega]
theorem ovr_step {m : Nat} {z s : St} (h : Ovr z s) (c : UInt8) (h11 : c ≠ 11) : ∃ s', eatD m (s, []) c = (s', []) ∧ Ovr z s' := by
  obtain ⟨hmd, ho, hb, hj⟩ := h
  exact ⟨_, out_step hmd [] c h11, hmd, ho, hb, by simp; omega⟩
theorem ovr_feed {m : Nat} {z : St} : ∀ (l : List UInt8) (s : St), Ovr z s → 11 ∉ l → ∃ s', feedD m s l = (s', []) ∧ Ovr z s'
  | [], s, h, _ => ⟨s, rfl, h⟩
  | c :: l, s, h, hn => by
    simp only [List.mem_cons, not_or] at hn
    obtain ⟨s2, e2, h2⟩ := ovr_step (m := m) h c (fun e => hn.1 e.symm)
    rw [feed_cons m s s2 c l e2]
    exact ovr_feed l s2 h2 hn.2
theorem mid_or {m : Nat} {z s : St} {p : List UInt8} (h : Mid z s p) (hf : s.fr.length ≤ m) (c : UInt8) (h11 : c ≠ 11) (h13 : s.md = .beh → c ≠ 13) :
    ∃ s', eatD m (s, []) c = (s', []) ∧ ((Mid z s' (p ++ [c]) ∧ s'.fr.length ≤ m) ∨ Ovr z s') := by
  obtain ⟨j, o, b, ⟨hmd, hfr⟩ | ⟨hmd, hp⟩⟩ := h
  · by_cases hc : c = 28
    · exact ⟨{ s with md := .beh }, by simp [eatD, stepD, hmd, hc], .inl ⟨⟨j, o, b, .inr ⟨rfl, by simp [hfr, hc]⟩⟩, hf⟩⟩
    · by_cases hn : m < s.fr.length + 1
      · exact ⟨leaveS { s with over := s.over + 1 }, by simp [eatD, stepD, hmd, hc, h11, layS, hn], .inr ⟨rfl, by simp [leaveS, o], by simp [leaveS, b], by simp [leaveS, j]⟩⟩
      · exact ⟨{ s with fr := s.fr ++ [c] }, by simp [eatD, stepD, hmd, hc, h11, layS, hn], .inl ⟨⟨j, o, b, .inl ⟨hmd, by simp [hfr]⟩⟩, by simp; omega⟩⟩
  · have h13 := h13 hmd
    by_cases hc : c = 28
    · by_cases hn : m < s.fr.length + 1
      · exact ⟨leaveS { s with over := s.over + 1 }, by simp [eatD, stepD, hmd, hc, layS, hn], .inr ⟨rfl, by simp [leaveS, o], by simp [leaveS, b], by simp [leaveS, j]⟩⟩
      · exact ⟨{ s with fr := s.fr ++ [28] }, by simp [eatD, stepD, hmd, hc, layS, hn], .inl ⟨⟨j, o, b, .inr ⟨hmd, by simp [hp, hc]⟩⟩, by simp; omega⟩⟩
    · by_cases hn : m < s.fr.length + 2
      · exact ⟨leaveS { s with md := .inn, over := s.over + 1 }, by simp [eatD, stepD, hmd, hc, h11, h13, layS, hn, leaveS], .inr ⟨rfl, by simp [leaveS, o], by simp [leaveS, b], by simp [leaveS, j]⟩⟩
      · exact ⟨{ s with md := .inn, fr := s.fr ++ [28, c] }, by simp [eatD, stepD, hmd, hc, h11, h13, layS, hn], .inl ⟨⟨j, o, b, .inl ⟨rfl, by simp [hp]⟩⟩, by simp; omega⟩⟩
theorem mid_or_feed {m : Nat} {z s : St} {l : List UInt8} (h0 : Mid z s []) (hf : s.fr.length ≤ m) (hg : good l = true) : ∀ k, k ≤ l.length → ∃ s', feedD m s (l.take k) = (s', []) ∧ ((Mid z s' (l.take k) ∧ s'.fr.length ≤ m) ∨ Ovr z s')
  | 0, _ => ⟨s, rfl, .inl ⟨by simpa using h0, hf⟩⟩
  | k + 1, hk => by
    obtain ⟨s', e, h⟩ := mid_or_feed h0 hf hg k (by omega)
    have hkl : k < l.length := by omega
    have h11 : l[k] ≠ 11 := fun e => good_no_start hg (e ▸ List.getElem_mem hkl)
    rw [List.take_succ_eq_append_getElem hkl, feedD_snoc, e]
    rcases h with ⟨h, hf'⟩ | h
    · obtain ⟨s2, e2, h2⟩ := mid_or (m := m) h hf' l[k] h11 (fun hmd e13 => by
        obtain ⟨_, _, _, ⟨hq, _⟩ | ⟨_, hp⟩⟩ := h
        · rw [hq] at hmd; cases hmd
        · have hlen : s'.fr.length + 1 = k := by
            have := congrArg List.length hp
            simp at this
            omega
          have hb := good_at hg (i := s'.fr.length) (by omega)
          have h28 : l[s'.fr.length]? = some 28 := by
            have : (l.take k)[s'.fr.length]? = some 28 := by rw [hp]; simp
            rwa [List.getElem?_take, if_pos (by omega)] at this
          have h13 : l[s'.fr.length + 1]? = some 13 := by
            rw [hlen, List.getElem?_eq_getElem hkl, e13]
          unfold badAt at hb
          rw [h28, h13] at hb
          simp at hb)
      exact ⟨s2, e2, h2⟩
    · obtain ⟨s2, e2, h2⟩ := ovr_step (m := m) h l[k] h11
      exact ⟨s2, e2, .inr h2⟩
/-- a whole frame of too many bytes, from outside -/
theorem frame_over {m : Nat} {s : St} {l : List UInt8} (hs : s.md = .out) (hg : good l = true) (hm : m < l.length) : ∃ s', feedD m s (11 :: (l ++ [28, 13])) = (s', []) ∧ Ovr s s' := by
  have e0 : eatD m (s, []) 11 = (enterS s, []) := by simp [eatD, stepD, hs]
  have h0 : Mid s (enterS s) [] := ⟨rfl, rfl, rfl, .inl ⟨rfl, rfl⟩⟩
  rw [feed_cons m s _ 11 _ e0, feedD_append]
  obtain ⟨s2, e, h⟩ := mid_or_feed h0 (Nat.zero_le m) hg l.length (Nat.le_refl _)
  rw [List.take_length] at e h
  rw [e]
  rcases h with ⟨h, hf⟩ | h
  · have := (mid_inn h hg).2
    rw [this] at hf
    omega
  · obtain ⟨s3, e3, h3⟩ := ovr_feed (m := m) [28, 13] s2 h (by decide)
    exact ⟨s3, by rw [e3]; rfl, h3⟩
/-- a whole frame, from outside -/
theorem frame_out {m : Nat} {s : St} {l : List UInt8} (hs : s.md = .out) (hg : good l = true) (hm : l.length ≤ m) : feedD m s (11 :: (l ++ [28, 13])) = (⟨.out, [], s.junk, s.over, s.broken⟩, [l]) :=
  frame_feed (s1 := enterS s) (by simp [eatD, stepD, hs]) ⟨rfl, rfl, rfl, .inl ⟨rfl, rfl⟩⟩ hg hm
end Go.Proofs.YtjeibckjockmeaaDoor
