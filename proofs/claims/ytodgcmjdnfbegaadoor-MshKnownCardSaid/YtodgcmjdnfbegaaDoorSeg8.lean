/- Layer 8: messages of segments, and the law's small functions, walked. -/
import Derived.Test.YtodgcmjdnfbegaaDoorSeg7
import Derived.Test.YtodgcmjdnfbegaaDoorBuilder
import Derived.LoopTactic
namespace Go.Proofs.YtodgcmjdnfbegaaDoor
open Go.RowKit

theorem lens_getD (T : List (List UInt8)) (k : Nat) (hk : k < T.length) : Lib.lens (T.take (k + 1)) = Lib.lens (T.take k) + (T.getD k []).length :=
  Lib.lens_take_succ T k _ (by rw [List.getD_eq_getElem?_getD, List.getElem?_eq_getElem hk]; rfl)
theorem take_getD (T : List (List UInt8)) (k : Nat) (hk : k < T.length) : T.take (k + 1) = T.take k ++ [T.getD k []] := by
  rw [List.take_succ_eq_append_getElem hk, List.getD_eq_getElem?_getD, List.getElem?_eq_getElem hk]; rfl

/-- segments, each with a 13 behind -/
def joinD (T : List (List UInt8)) : List UInt8 := (T.map (· ++ [13])).flatten
theorem joinD_snoc (T : List (List UInt8)) (x : List UInt8) : joinD (T ++ [x]) = joinD T ++ x ++ [13] := by simp [joinD]
theorem joinD_len (T : List (List UInt8)) : (joinD T).length = Lib.lens T + T.length := by
  induction T with
  | nil => rfl
  | cons a r ih =>
    simp only [joinD, Lib.lens] at ih ⊢
    simp only [List.map_cons, List.flatten_cons, List.length_append, List.length_cons, List.length_nil, List.sum_cons]
    omega

theorem refName (s : ByteArray) (w : World) : Calls Tryd.prog 53 #[.string s] w fun e w' => e = .returned (.string (nameS s)) ∧ w' = w := by
  by_cases h : s.size < 3
  · have d1 : decide ((s.size : Int) < 3) = true := by simp; omega
    have hn : nameS s = s := by
      unfold nameS
      apply ba_ext
      rw [ex_list, List.drop_zero, List.take_of_length_le]
      have : s.data.toList.length = s.size := by simp
      omega
    rw [hn]
    clear hn
    go_enter Tryd.func53, Tryd.ntmps53
    go_wp2_with (fail)
    go_ret
    exact ⟨rfl, rfl⟩
  · have d1 : decide ((s.size : Int) < 3) = false := by simp; omega
    have h3 : (3 : Int) ≤ s.size := by omega
    have hn : nameS s = s.extract 0 3 := by unfold nameS; rw [show min s.size 3 = 3 by omega]
    rw [hn]
    clear hn
    go_enter Tryd.func53, Tryd.ntmps53
    go_wp2_with (fail)
    go_ret
    exact ⟨rfl, rfl⟩

set_option maxHeartbeats 2000000 in
set_option maxRecDepth 100000 in
theorem refSplit (A : Option Addr) (n cp : Nat) (l : List UInt8) (w : World) (hb : Bs w A n cp l) (hn : n ≤ 1000000) : Calls Tryd.prog 26 #[.slice A n cp] w (RetSs w (splitD l)) := by
  have hcv := hb.str (P := Tryd.prog) 22 5 9 Tryd.underlying22 Tryd.underlying5 Tryd.underlying9
  have hln := hb.len
  have HTZ : Hid ((txt l).size ≤ 1099511627000) := Lib.hid (by rw [txt_size']; omega)
  have HL : Hid ((cutAt 13 l).length ≤ n + 1) := Lib.hid (by have := cut_le 13 (txt l); rw [txt_size'] at this; rw [← hln]; exact this)
  clear hb hln
  go_enter Tryd.func26, Tryd.ntmps26
  go_wp2_with (fail)
  refine (refCut (txt l) 13 w HTZ.out).mono ?_
  rintro e w2 ⟨A2, c2, rfl, hS2, hb2⟩
  rw [show (txt l).data.toList = l from rfl] at hS2 ⊢
  have HT : Hid (0 < (cutAt 13 l).length) := Lib.hid (by rw [cutAt_length]; omega)
  obtain ⟨m1, hm1⟩ : ∃ m1 : Nat, ((cutAt 13 l).length : Int) - 1 = (m1 : Int) := ⟨(cutAt 13 l).length - 1, by have := HT.out; omega⟩
  have HM1 : Hid (m1 + 1 = (cutAt 13 l).length) := Lib.hid (by have := HT.out; omega)
  obtain ⟨b, o, rfl, _, hcell⟩ := hS2.read (i := m1) (by have := HM1.out; omega)
  have hx2 : (cutAt 13 l).getD m1 [] = (cutAt 13 l).getLastD [] := by
    rw [List.getLastD_eq_getLast?, List.getLast?_eq_getElem?, show (cutAt 13 l).length - 1 = m1 by have := HM1.out; omega, List.getD_eq_getElem?_getD]
  rw [hx2] at hcell
  have HSP : Hid (splitD l = if (cutAt 13 l).getLastD [] = [] then (cutAt 13 l).dropLast else cutAt 13 l) := Lib.hid rfl
  have HDL : Hid ((cutAt 13 l).dropLast = (cutAt 13 l).take m1) := Lib.hid (by rw [List.dropLast_eq_take, show (cutAt 13 l).length - 1 = m1 by have := HM1.out; omega])
  have HS2 := Lib.hid hS2
  have HB2 := Lib.hid hb2
  have hcap := hS2.le
  have hcm := hS2.max
  clear hx2 hS2 hb2
  generalize cutAt 13 l = T at *
  generalize T.getLastD [] = x at *
  have ew : IntKind.i64.wrap (m1 : Int) = (m1 : Int) := by rw [IntKind.wrap_i64]; have := HL.out; omega
  have hlt1 : (m1 : Int) < (T.length : Int) := by have := HM1.out; omega
  have hlt2 : (m1 : Int) ≤ (c2 : Int) := by have := HM1.out; omega
  by_cases hx : x = []
  · have dx : x.isEmpty = true := by rw [hx]; rfl
    have HSP2 : Hid (splitD l = T.take m1) := Lib.hid (by rw [HSP.out, if_pos hx, HDL.out])
    clear hx
    go_wp2_with (fail)
    go_ret
    have hl4 : (T.take m1).length = m1 := by rw [List.length_take]; have := HM1.out; omega
    refine ⟨some ⟨b, o, none⟩, c2, ?_, ?_, HB2.out⟩
    · rw [HSP2.out, hl4]; rfl
    · rw [HSP2.out, hl4]; exact HS2.out.take (by have := HM1.out; omega)
  · have dx : x.isEmpty = false := by
      cases x with
      | nil => exact absurd rfl hx
      | cons => rfl
    have HSP2 : Hid (splitD l = T) := Lib.hid (by rw [HSP.out, if_neg hx])
    clear hx
    go_wp2_with (fail)
    go_ret
    refine ⟨some ⟨b, o, none⟩, c2, ?_, ?_, HB2.out⟩
    · rw [HSP2.out]; rfl
    · rw [HSP2.out]; exact HS2.out

theorem own_snoc {w : World} {B : Nat} {v : Value} {l : List UInt8} {c : UInt8} (h : w.ownsRow B 5 1 v (l.length + 1) (u8s l ++ [.int .u8 (c.toNat : Int)])) : Own 5 w B v (l ++ [c]) := by
  unfold Own
  rw [List.length_append, show u8s (l ++ [c]) = u8s l ++ [u8 c] from List.map_append ..]
  exact h
/-- bytes in new memory -/
def RetB (w : World) (l : List UInt8) (e : Ending) (w' : World) : Prop :=
  ∃ A c, e = .returned (.slice A l.length c) ∧ Bs w' A l.length c l ∧ Below w.heap.size w w'

end Go.Proofs.YtodgcmjdnfbegaaDoor
