/- Layer 9: a head that was read may be written. -/
import Derived.Test.YtgffamdlnacamaaDoorMshBackM
import Derived.Test.YtgffamdlnacamaaDoorConv
namespace Go.Proofs.YtgffamdlnacamaaDoor
open Go.RowKit Lib

theorem cut_mem {c : UInt8} : ∀ {l x : List UInt8}, x ∈ cutAt c l → c ∉ x ∧ x.length ≤ l.length ∧ ∀ y ∈ x, y ∈ l
  | [], x, h => by
    simp [cutAt] at h
    subst h
    exact ⟨by simp, by simp, fun y hy => by cases hy⟩
  | a :: r, x, h => by
    unfold cutAt at h
    split at h
    · rcases List.mem_cons.1 h with rfl | h
      · exact ⟨by simp, by simp, fun y hy => by cases hy⟩
      · obtain ⟨h1, h2, h3⟩ := cut_mem h
        exact ⟨h1, by simp only [List.length_cons]; omega, fun y hy => List.mem_cons_of_mem _ (h3 y hy)⟩
    · rename_i hne
      have hm : ∀ z ∈ cutAt c r, c ∉ z ∧ z.length ≤ r.length ∧ ∀ y ∈ z, y ∈ r := fun z hz => cut_mem hz
      cases hc : cutAt c r with
      | nil => exact absurd hc (cutAt_ne _ _)
      | cons p q =>
        rw [hc] at h hm
        simp only at h
        rcases List.mem_cons.1 h with rfl | h
        · obtain ⟨h1, h2, h3⟩ := hm p (by simp)
          refine ⟨fun hin => ?_, by simp only [List.length_cons]; omega, fun y hy => ?_⟩
          · rcases List.mem_cons.1 hin with e | e
            · exact hne e.symm
            · exact h1 e
          · rcases List.mem_cons.1 hy with e | e
            · rw [e]; simp
            · exact List.mem_cons_of_mem _ (h3 y e)
        · obtain ⟨h1, h2, h3⟩ := hm x (by simp [h])
          exact ⟨h1, by simp only [List.length_cons]; omega, fun y hy => List.mem_cons_of_mem _ (h3 y hy)⟩
theorem getD_mem_or {α : Type} (T : List α) (k : Nat) (d : α) : T.getD k d ∈ T ∨ T.getD k d = d := by
  rw [List.getD_eq_getElem?_getD]
  rcases Nat.lt_or_ge k T.length with h | h
  · rw [List.getElem?_eq_getElem h]; exact .inl (List.getElem_mem h)
  · rw [List.getElem?_eq_none h]; exact .inr rfl
theorem cut_getD {c : UInt8} (l : List UInt8) (k : Nat) : c ∉ (cutAt c l).getD k [] ∧ ((cutAt c l).getD k []).length ≤ l.length ∧ ∀ y ∈ (cutAt c l).getD k [], y ∈ l := by
  rcases getD_mem_or (cutAt c l) k [] with h | h
  · exact cut_mem h
  · rw [h]; exact ⟨by simp, by simp, fun y hy => by cases hy⟩
theorem fields_mem (s : List UInt8) (c : UInt8) (k : Nat) : c ∉ (fieldsD (txt s) c).getD (k + 1) [] ∧ ((fieldsD (txt s) c).getD (k + 1) []).length ≤ s.length ∧ ∀ y ∈ (fieldsD (txt s) c).getD (k + 1) [], y ∈ s := by
  have none_ : c ∉ ([] : List UInt8) ∧ ([] : List UInt8).length ≤ s.length ∧ ∀ y ∈ ([] : List UInt8), y ∈ s := ⟨by simp, by simp, fun y hy => by cases hy⟩
  unfold fieldsD
  split
  · unfold behD
    split
    · rename_i h
      split at h
      · cases h
      · exact none_
    · rename_i r h
      split at h
      · injection h with h
        subst h
        rw [List.getD_cons_succ]
        obtain ⟨h1, h2, h3⟩ := cut_getD (c := c) ((txt s).extract 4 (txt s).size).data.toList k
        have e : ((txt s).extract 4 (txt s).size).data.toList = s.drop 4 := by
          rw [ex_list, show (txt s).data.toList = s from by simp, txt_size]
          exact List.take_of_length_le (by simp)
        rw [e] at h1 h2 h3 ⊢
        exact ⟨h1, by rw [List.length_drop] at h2; omega, fun y hy => List.mem_of_mem_drop (h3 y hy)⟩
      · cases h
  · rw [show (txt s).data.toList = s from by simp]
    have e : (cutAt c s).tail.getD (k + 1) [] = (cutAt c s).getD (k + 2) [] := by
      cases hc : cutAt c s with
      | nil => exact absurd hc (cutAt_ne _ _)
      | cons a b => rfl
    rw [e]
    exact cut_getD s (k + 2)
theorem seg0_mem (l : List UInt8) : (13 : UInt8) ∉ (splitD l).getD 0 [] ∧ ((splitD l).getD 0 []).length ≤ l.length := by
  rcases getD_mem_or (splitD l) 0 [] with h | h
  · have hm : (splitD l).getD 0 [] ∈ cutAt 13 l := by
      unfold splitD at h ⊢
      split at h
      · rename_i hc
        rw [if_pos hc]
        exact List.dropLast_subset _ h
      · rename_i hc
        rw [if_neg hc]
        exact h
    exact ⟨(cut_mem hm).1, (cut_mem hm).2.1⟩
  · rw [h]; exact ⟨by simp, by simp⟩
theorem readD_good {l : List UInt8} (h : (readD l).2 = 0) : (readD l).1.good = true := by
  unfold readD at h ⊢
  split at h
  · cases h
  · rename_i h1
    rw [if_neg h1]
    split at h
    · cases h
    · rename_i h2
      rw [if_neg h2]
      split at h
      · cases h
      · rename_i h3
        rw [if_neg h3]
        simp only
        cases hg : (Sgn.of l).good
        · exact absurd (.inr hg) h2
        · rfl
theorem hdTo_l (d : Sgn) (T : Nat → ByteArray) : (hdTo d T 10).l = [T 0, T 1, T 2, T 3, T 4, T 5, T 6, T 7, T 8, T 9] := rfl
/-- P9.4, the other way about -/
theorem read_stands {l : List UInt8} {h : Hd} (hr : readH l = (h, 0)) : h.d.good = true ∧ h.l.all (standD h.d.a) = true ∧ ∀ b ∈ h.l, b.size ≤ l.length := by
  unfold readH at hr
  split at hr
  · rename_i h0
    have hg := readD_good h0
    split at hr
    · obtain ⟨seg, hseg⟩ : ∃ seg, seg = (splitD l).getD 0 [] := ⟨_, rfl⟩
      obtain ⟨s1, s2⟩ := seg0_mem l
      rw [← hseg] at hr s1 s2
      injection hr with hr _
      obtain ⟨d, hd⟩ : ∃ d, d = (readD l).1 := ⟨_, rfl⟩
      rw [← hd] at hr hg
      subst hr
      have key : ∀ i, standD d.a (textsD (fieldsD (txt seg) d.a) i) = true ∧ (textsD (fieldsD (txt seg) d.a) i).size ≤ l.length := fun i => by
        obtain ⟨h1, h2, h3⟩ := fields_mem seg d.a (i + 1)
        have e : textsD (fieldsD (txt seg) d.a) i = txt ((fieldsD (txt seg) d.a).getD (i + 1 + 1) []) := by unfold textsD; rw [show 2 + i = i + 1 + 1 by omega]
        rw [e]
        generalize (fieldsD (txt seg) d.a).getD (i + 1 + 1) [] = x at h1 h2 h3
        refine ⟨?_, by rw [txt_size]; omega⟩
        unfold standD
        rw [show (txt x).data.toList = x from by simp]
        simp only [Bool.and_eq_true, Bool.not_eq_true']
        refine ⟨?_, ?_⟩
        · cases hc : x.contains d.a
          · rfl
          · exact absurd (List.contains_iff_mem.1 hc) h1
        · cases hc : x.contains 13
          · rfl
          · exact absurd (h3 13 (List.contains_iff_mem.1 hc)) s1
      refine ⟨hg, ?_, fun b hb => ?_⟩
      · rw [hdTo_l]
        simp only [List.all_cons, List.all_nil, Bool.and_true, Bool.and_eq_true]
        exact ⟨(key 0).1, (key 1).1, (key 2).1, (key 3).1, (key 4).1, (key 5).1, (key 6).1, (key 7).1, (key 8).1, (key 9).1⟩
      · rw [hdTo_l] at hb
        simp only [List.mem_cons, List.not_mem_nil, or_false] at hb
        rcases hb with rfl | rfl | rfl | rfl | rfl | rfl | rfl | rfl | rfl | rfl
        · exact (key 0).2
        · exact (key 1).2
        · exact (key 2).2
        · exact (key 3).2
        · exact (key 4).2
        · exact (key 5).2
        · exact (key 6).2
        · exact (key 7).2
        · exact (key 8).2
        · exact (key 9).2
    · injection hr with _ h2
      cases h2
  · rename_i h0
    injection hr with _ h2
    exact absurd h2 h0
theorem readH_cases (l : List UInt8) : (∃ h, readH l = (h, 0)) ∨ ∃ e, e ≠ 0 ∧ readH l = (Hd.zero, e) := by
  unfold readH
  split
  · split
    · exact .inl ⟨_, rfl⟩
    · exact .inr ⟨11, by decide, rfl⟩
  · rename_i h
    exact .inr ⟨_, h, rfl⟩
theorem sum_le_of {h : Hd} {n : Nat} (hb : ∀ b ∈ h.l, b.size ≤ n) : h.a8.size ≤ n ∧ h.a9.size ≤ n ∧ Lib.lens (h.l.map (·.data.toList)) ≤ 10 * n := by
  have k : ∀ b : ByteArray, b.data.toList.length = b.size := fun b => by simp
  simp only [Hd.l, List.mem_cons, List.not_mem_nil, or_false, forall_eq_or_imp, forall_eq] at hb
  obtain ⟨h0, h1, h2, h3, h4, h5, h6, h7, h8, h9⟩ := hb
  refine ⟨h8, h9, ?_⟩
  simp only [Hd.l, Lib.lens, List.map_cons, List.map_nil, List.sum_cons, List.sum_nil, k]
  omega
end Go.Proofs.YtgffamdlnacamaaDoor
