/- Layer 8: the fields of a segment that was made of them, as lists of bytes. -/
import Derived.Test.YtgffamdlnacamaaDoorSegQ
namespace Go.Proofs.YtgffamdlnacamaaDoor
open Go.RowKit Go.Lib

theorem getD_some (T : List (List UInt8)) (k : Nat) (hk : k < T.length) : T[k]? = some (T.getD k []) := by
  rw [List.getD_eq_getElem?_getD, List.getElem?_eq_getElem hk]; rfl
theorem mkTo_plain (name : ByteArray) (c : UInt8) (T : List (List UInt8)) (hn : name ≠ mshB) : ∀ k, k ≤ T.length → mkTo name c T k = name.data.toList ++ joinTail [c] (T.take k)
  | 0, _ => by simp [mkTo, joinTail]
  | k + 1, h => by
    have ih := mkTo_plain name c T hn k (by omega)
    have hs : sepD name c k = [c] := if_neg fun h => hn h.1
    rw [joinTail_take_succ [c] T k _ (getD_some T k (by omega))]
    simp only [mkTo, ih, hs, List.append_assoc]
theorem makeD_plain (name : ByteArray) (c : UInt8) (T : List (List UInt8)) (hn : name ≠ mshB) : makeD name c T = name.data.toList ++ joinTail [c] T := by
  unfold makeD
  rw [mkTo_plain name c T hn _ (Nat.le_refl _), List.take_length]
theorem mkTo_head (c : UInt8) (a b : List UInt8) (r : List (List UInt8)) : ∀ k, k ≤ r.length → mkTo mshB c (a :: b :: r) (k + 2) = [77, 83, 72] ++ a ++ b ++ joinTail [c] (r.take k)
  | 0, _ => by
    have h0 : sepD mshB c 0 = [] := if_pos ⟨rfl, by omega⟩
    have h1 : sepD mshB c 1 = [] := if_pos ⟨rfl, by omega⟩
    simp [mkTo, joinTail, h0, h1]
  | k + 1, h => by
    have ih := mkTo_head c a b r k (by omega)
    have hs : sepD mshB c (k + 2) = [c] := if_neg fun h => by have := h.2; omega
    rw [joinTail_take_succ [c] r k _ (getD_some r k (by omega))]
    rw [show mkTo mshB c (a :: b :: r) (k + 1 + 2) = mkTo mshB c (a :: b :: r) (k + 2) ++ sepD mshB c (k + 2) ++ (a :: b :: r).getD (k + 2) [] from rfl, ih, hs]
    simp only [List.getD_cons_succ, List.append_assoc]
theorem makeD_head (c : UInt8) (a b : List UInt8) (r : List (List UInt8)) : makeD mshB c (a :: b :: r) = [77, 83, 72] ++ a ++ b ++ joinTail [c] r := by
  unfold makeD
  rw [show (a :: b :: r).length = r.length + 2 from rfl, mkTo_head c a b r _ (Nat.le_refl _), List.take_length]

theorem cut_tail (c : UInt8) (x : List UInt8) (r : List (List UInt8)) (h : ∀ y ∈ x :: r, c ∉ y) : cutAt c (x ++ joinTail [c] r) = x :: r := by
  rw [← join_cons, cutAt_of_join c x r h]

theorem nameS_of (name : ByteArray) (r : List UInt8) (hn : name.size = 3) : nameS (txt (name.data.toList ++ r)) = name := by
  have hl : name.data.toList.length = 3 := by simpa using hn
  apply ba_ext
  unfold nameS
  rw [ex_list, txt_size', List.drop_zero, List.length_append, hl, show min (3 + r.length) 3 = 3 by omega]
  rw [← hl, List.take_left']
  rfl
theorem fields_plain (name : ByteArray) (c : UInt8) (T : List (List UInt8)) (hn : name ≠ mshB) (h3 : name.size = 3) (hc : c ∉ name.data.toList) (hT : ∀ y ∈ T, c ∉ y) : fieldsD (txt (makeD name c T)) c = T := by
  unfold fieldsD
  rw [makeD_plain name c T hn, nameS_of name _ h3, if_neg hn]
  rw [show (txt (name.data.toList ++ joinTail [c] T)).data.toList = name.data.toList ++ joinTail [c] T from by simp]
  rw [cut_tail c _ _ (by
    intro y hy
    rcases List.mem_cons.1 hy with rfl | hy
    · exact hc
    · exact hT y hy)]
  rfl
theorem fields_head (c : UInt8) (b : List UInt8) (r : List (List UInt8)) (hb : c ∉ b) (hT : ∀ y ∈ r, c ∉ y) : fieldsD (txt (makeD mshB c ([c] :: b :: r))) c = [c] :: b :: r := by
  have hm : nameS (txt (makeD mshB c ([c] :: b :: r))) = mshB := by
    rw [makeD_head, List.append_assoc, List.append_assoc]
    exact nameS_of mshB _ rfl
  obtain ⟨l, hl⟩ : ∃ l, l = makeD mshB c ([c] :: b :: r) := ⟨_, rfl⟩
  have hl2 : l = 77 :: 83 :: 72 :: c :: (b ++ joinTail [c] r) := by rw [hl, makeD_head]; simp
  rw [← hl] at hm ⊢
  have hbe : behD (txt l) c = some (txt (b ++ joinTail [c] r)) := by
    unfold behD
    rw [if_pos]
    · congr 1
      apply ba_ext
      rw [ex_list, txt_size', hl2]
      simp
      exact List.take_of_length_le (by simp)
    · rw [txt_size', hl2]
      constructor
      · simp
      · rfl
  unfold fieldsD
  rw [if_pos hm, hbe]
  show [c] :: cutAt c (txt (b ++ joinTail [c] r)).data.toList = _
  rw [show (txt (b ++ joinTail [c] r)).data.toList = b ++ joinTail [c] r from by simp, cut_tail c b r (by
    intro y hy
    rcases List.mem_cons.1 hy with rfl | hy
    · exact hb
    · exact hT y hy)]
end Go.Proofs.YtgffamdlnacamaaDoor
