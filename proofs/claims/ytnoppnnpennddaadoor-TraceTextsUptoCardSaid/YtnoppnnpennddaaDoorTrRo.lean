/- Layer 19's answers: the output of a line, walked. -/
import Derived.Test.YtnoppnnpennddaaDoorTrZ
import Derived.Test.YtnoppnnpennddaaDoorTr13
namespace Go.Proofs.YtnoppnnpennddaaDoor
open Go.RowKit

theorem bytes_no32 {t : List UInt8} (h : (32 : UInt8) ∈ t) : bytesD t = none := by
  cases hb : bytesD t with
  | none => rfl
  | some l => exact absurd (hex_bytes hb ▸ h) (hexD_no32 l)
theorem cut_one {t : List UInt8} (h : (32 : UInt8) ∈ t) : 2 ≤ (cutAt 32 t).length := by
  rw [cutAt_length]
  have := List.count_pos_iff.2 h
  omega
/-- an output's line, cut -/
theorem outD_two {s a b : List UInt8} (h : cutAt 32 s = [a, b]) : outD s = if a = [98, 97, 99, 107] then (bytesD b).map fun l => (true, l) else if a = [111, 110] then (bytesD b).map fun l => (false, l) else none := by
  have hj := cut_join s h
  rw [join_two, Lib.join_one] at hj
  have ha : (32 : UInt8) ∉ a := cutAt_clean_all 32 s a (by rw [h]; simp)
  subst hj
  by_cases h1 : a = [98, 97, 99, 107]
  · subst h1
    rw [if_pos rfl]
    rfl
  rw [if_neg h1]
  by_cases h2 : a = [111, 110]
  · subst h2
    rw [if_pos rfl]
    rfl
  rw [if_neg h2]
  unfold outD
  have hp : ∀ (x : List UInt8), (32 : UInt8) ∉ x → a ≠ x → (x ++ [32]).isPrefixOf (a ++ 32 :: b) = false := by
    intro x hx hne
    rw [← Bool.not_eq_true, List.isPrefixOf_iff_prefix]
    rintro ⟨t, ht⟩
    have e1 := cutAt_clean 32 t x hx
    have e2 := cutAt_clean 32 b a ha
    rw [← ht, show x ++ [32] ++ t = x ++ 32 :: t from by simp, e1] at e2
    injection e2 with e2 _
    exact hne e2.symm
  rw [if_neg (by have := hp [98, 97, 99, 107] (by decide) h1; rw [show backB = [98, 97, 99, 107] ++ [32] from rfl, this]; decide), if_neg (by have := hp [111, 110] (by decide) h2; rw [show onB = [111, 110] ++ [32] from rfl, this]; decide)]
theorem outD_more {s : List UInt8} (h : (cutAt 32 s).length ≠ 2) : outD s = none := by
  have key : ∀ x t : List UInt8, (32 : UInt8) ∉ x → s = x ++ 32 :: t → bytesD t = none := by
    intro x t hx hs
    rw [hs, cutAt_clean 32 t x hx, List.length_cons] at h
    by_cases ht : (32 : UInt8) ∈ t
    · exact bytes_no32 ht
    · rw [cutAt_none 32 t ht] at h
      simp at h
  unfold outD
  split
  · rename_i hp
    obtain ⟨t, rfl⟩ := List.isPrefixOf_iff_prefix.1 hp
    rw [show (backB ++ t).drop 5 = t from by simp, key [98, 97, 99, 107] t (by decide) rfl]
    rfl
  · split
    · rename_i hp
      obtain ⟨t, rfl⟩ := List.isPrefixOf_iff_prefix.1 hp
      rw [show (onB ++ t).drop 3 = t from by simp, key [111, 110] t (by decide) rfl]
      rfl
    · rfl
theorem out_noread {s : List UInt8} {b : Bool} {l : List UInt8} (h : outD s = some (b, l)) : readW (wordsN s) = none := by
  rw [← outT_outD h]
  unfold outT
  have h32 := hexD_no32 l
  cases b
  · rw [if_neg (by simp), show ([111, 110, 32] : List UInt8) ++ hexD l = [111, 110] ++ 32 :: hexD l from rfl, words2 _ _ (by decide) h32]
    exact readW_other _ (by decide) (by decide) (by decide) (by decide) (by decide) (by decide) (by decide) (by decide)
  · rw [if_pos rfl, show ([98, 97, 99, 107, 32] : List UInt8) ++ hexD l = [98, 97, 99, 107] ++ 32 :: hexD l from rfl, words2 _ _ (by decide) h32]
    exact readW_other _ (by decide) (by decide) (by decide) (by decide) (by decide) (by decide) (by decide) (by decide)
theorem gone_noread : readW (wordsN goneB) = none := by decide +kernel
theorem cutAt_mem_le' (l x : List UInt8) (h : x ∈ cutAt 32 l) : x.length ≤ l.length := cutAt_mem_le 32 l x h
/-- what a call gives that answers an output and whether there is one -/
def RetOv (r : Option (Bool × List UInt8)) (w : World) (e : Ending) (w' : World) : Prop :=
  ∃ b l A m c, e = .returned (.tuple #[ouV b (.slice A m c), .bool r.isSome]) ∧ (∀ p, r = some p → p = (b, l)) ∧ Bs w' A m c l ∧ (∀ x, A = some x → w.heap.size ≤ x.block) ∧ Below w.heap.size w w'
theorem two_of {W : List (List UInt8)} (h : W.length = 2) : ∃ a b, W = [a, b] := by
  match W with
  | [a, b] => exact ⟨a, b, rfl⟩

set_option maxHeartbeats 16000000 in
set_option maxRecDepth 100000 in
theorem refOutput (s : ByteArray) (w : World) (hs : s.size ≤ 100000000) : Calls Tryd.prog 42 #[.string s] w (RetOv (outD s.data.toList) w) := by
  have HZ0 : Hid ((w.alloc (.cells (ouC false nilE) TO)).heap[w.heap.size]? = some (.cells (ouC false nilE) TO)) := Lib.hid (heap_alloc_new w _)
  have HB0 : Hid (Below w.heap.size w (w.alloc (.cells (ouC false nilE) TO))) := Lib.hid ((Below.refl _ w).alloc (Nat.le_refl _) _)
  have HS := Lib.hid hs
  have hsz : s.data.toList.length = s.size := by simp
  obtain ⟨S, hS⟩ : ∃ S, S = s.data.toList := ⟨_, rfl⟩
  have HSS := Lib.hid hS
  rw [← hS] at hsz ⊢
  have HSZ := Lib.hid hsz
  clear hs hS hsz
  go_enter Tryd.func42, Tryd.ntmps42
  go_wp2_with (fail)
  generalize w.alloc (.cells (ouC false nilE) TO) = w0 at *
  obtain ⟨G, hG⟩ : ∃ G, G = w.heap.size := ⟨_, rfl⟩
  have HG := Lib.hid hG
  rw [← hG] at HZ0 ⊢
  clear hG
  refine (refCut s 32 w0 (by have := HS.out; omega)).mono ?_
  rintro e w1 ⟨A, c, rfl, hS, hb⟩
  rw [← HSS.out] at hS ⊢
  have hl0 := (Array.getElem?_eq_some_iff.1 HZ0.out).1
  have HZF := Lib.hid ((hb.block _ hl0).trans HZ0.out)
  have HB1 := Lib.hid (HB0.out.trans (hb.mono HB0.out.size))
  have HS1 := Lib.hid hS
  clear hb hS hl0 HZ0 HB0
  have HPL : Hid (∀ x ∈ cutAt 32 S, x.length ≤ 100000000) := Lib.hid (fun x hx => by have := cutAt_mem_le' S x hx; have := HSZ.out; have := HS.out; omega)
  have z0 : w1.cell? ⟨G, 0, none⟩ = some (.bool false) := cell_of_row _ G 0 _ _ _ HZF.out
  have z1 : w1.cell? ⟨G, 1, none⟩ = some nilE := cell_of_row _ G 1 _ _ _ HZF.out
  have y0 := frozen_row (j := 0) HZF.out
  have y1 := frozen_row (j := 1) HZF.out
  have HBF : Hid (∀ a b, Below w.heap.size w ((w1.setCell ⟨G, 0, none⟩ a).setCell ⟨G, 1, none⟩ b)) := Lib.hid (fun a b => ((HB1.out).setCell (p := ⟨G, 0, none⟩) (Nat.le_of_eq HG.out.symm) _).setCell (p := ⟨G, 1, none⟩) (Nat.le_of_eq HG.out.symm) _)
  by_cases h2 : (cutAt 32 S).length = 2
  · obtain ⟨a, b, hab⟩ := two_of h2
    have HO := Lib.hid (outD_two hab)
    rw [hab] at HS1 HPL ⊢
    clear h2 hab
    simp only [List.length_cons, List.length_nil]
    have hcl : (2 : Int) ≤ (c : Int) := by have := HS1.out.le; simp at this; omega
    have hcm : c ≤ 9223372036854775807 := HS1.out.max
    obtain ⟨b9, o9, rfl, hb9, hc⟩ := HS1.out.at_ (by simp)
    have x0 := hc 0 _ rfl
    have x1 := hc 1 _ rfl
    rw [Nat.add_zero] at x0
    have HX0 := Lib.hid x0
    have HXL := Lib.hid hb9
    clear hc hb9
    by_cases h1 : a = [98, 97, 99, 107]
    · have e1 : ((txt a).toList == [98, 97, 99, 107]) = true := by rw [Go.ByteArray.toList_eq, h1]; rfl
      have e2 : ((txt a).toList != [98, 97, 99, 107]) = false := by rw [bne, e1]; rfl
      have HO2 : Hid (outD S = (bytesD b).map fun l => (true, l)) := Lib.hid (by rw [HO.out, if_pos h1])
      clear h1
      obtain ⟨u, hu⟩ : ∃ u, u = txt a := ⟨_, rfl⟩
      rw [show str a = .string (txt a) from rfl, ← hu] at x0 HX0
      rw [← hu] at e1 e2
      clear hu
      go_wp2_with (fail)
      refine (refBytes19 (txt b) w1 (by rw [size_txt]; exact HPL.out b (by simp))).mono ?_
      rw [show bytesD (txt b).data.toList = bytesD b from rfl]
      rintro e w3 ⟨A5, m5, c5, rfl, hB5, hf5, hb3⟩
      have HLOW : Hid (∀ x, A5 = some x → G < x.block) := Lib.hid (fun x hx => by have h1 := hf5 x hx; have h2 := (Array.getElem?_eq_some_iff.1 HZF.out).1; omega)
      have HBX := Lib.hid (HB1.out.trans (hb3.mono HB1.out.size))
      have HZ3 := Lib.hid ((hb3.block _ (Array.getElem?_eq_some_iff.1 HZF.out).1).trans HZF.out)
      have x0 := (hb3.cell (p := ⟨b9, o9, none⟩) HXL.out).trans HX0.out
      have HBS := Lib.hid hB5
      clear z0 z1 y0 y1 x1 hB5 hf5 hb3
      have z0 : w3.cell? ⟨G, 0, none⟩ = some (.bool false) := cell_of_row _ G 0 _ _ _ HZ3.out
      have z1 : w3.cell? ⟨G, 1, none⟩ = some nilE := cell_of_row _ G 1 _ _ _ HZ3.out
      have y0 := frozen_row (j := 0) HZ3.out
      have y1 := frozen_row (j := 1) HZ3.out
      have HBF : Hid (Below w.heap.size w ((w3.setCell ⟨G, 0, none⟩ (.bool true)).setCell ⟨G, 1, none⟩ (.slice A5 m5 c5))) := Lib.hid (((HBX.out).setCell (p := ⟨G, 0, none⟩) (Nat.le_of_eq HG.out.symm) _).setCell (p := ⟨G, 1, none⟩) (Nat.le_of_eq HG.out.symm) _)
      have HOS : Hid ((outD S).isSome = (bytesD b).isSome) := Lib.hid (by rw [HO2.out]; cases bytesD b <;> rfl)
      have HOP : Hid (∀ p, outD S = some p → p = (true, (bytesD b).getD [])) := Lib.hid (fun p hp => by rw [HO2.out] at hp; cases hq : bytesD b with
        | none => rw [hq] at hp; cases hp
        | some m => rw [hq] at hp; simp only [Option.map_some, Option.some.injEq] at hp; exact hp.symm)
      obtain ⟨q, hq⟩ : ∃ q, q = (bytesD b).isSome := ⟨_, rfl⟩
      rw [← hq] at HOS ⊢
      clear hq
      go_wp2_with (fail)
      refine bodyPost_ret (v := .tuple #[ouV true (.slice A5 m5 c5), .bool q]) ?_ rfl ⟨true, _, _, _, _, by rw [HOS.out], HOP.out, ((HBS.out.setOther (fun b hb => Nat.ne_of_gt (HLOW.out b hb)) 0 _).setOther (fun b hb => Nat.ne_of_gt (HLOW.out b hb)) 1 _), (fun b hb => HG.out ▸ Nat.le_of_lt (HLOW.out b hb)), HBF.out⟩
      exact resultsO Tryd.results42 _ _ G _ _ _ _ _ (by kernel_rfl) (by kernel_rfl) (finish_ou HZ3.out)
    · by_cases h3 : a = [111, 110]
      · have e1 : ((txt a).toList == [98, 97, 99, 107]) = false := by rw [Go.ByteArray.toList_eq, beq_eq_false_iff_ne]; exact h1
        have e2 : ((txt a).toList != [98, 97, 99, 107]) = true := by rw [bne, e1]; rfl
        have e3 : ((txt a).toList == [111, 110]) = true := by rw [Go.ByteArray.toList_eq, h3]; rfl
        have e4 : ((txt a).toList != [111, 110]) = false := by rw [bne, e3]; rfl
        have HO2 : Hid (outD S = (bytesD b).map fun l => (false, l)) := Lib.hid (by rw [HO.out, if_neg h1, if_pos h3])
        clear h1 h3
        obtain ⟨u, hu⟩ : ∃ u, u = txt a := ⟨_, rfl⟩
        rw [show str a = .string (txt a) from rfl, ← hu] at x0 HX0
        rw [← hu] at e1 e2 e3 e4
        clear hu
        go_wp2_with (fail)
        refine (refBytes19 (txt b) w1 (by rw [size_txt]; exact HPL.out b (by simp))).mono ?_
        rw [show bytesD (txt b).data.toList = bytesD b from rfl]
        rintro e w3 ⟨A5, m5, c5, rfl, hB5, hf5, hb3⟩
        have HLOW : Hid (∀ x, A5 = some x → G < x.block) := Lib.hid (fun x hx => by have h1 := hf5 x hx; have h2 := (Array.getElem?_eq_some_iff.1 HZF.out).1; omega)
        have HBX := Lib.hid (HB1.out.trans (hb3.mono HB1.out.size))
        have HZ3 := Lib.hid ((hb3.block _ (Array.getElem?_eq_some_iff.1 HZF.out).1).trans HZF.out)
        have x0 := (hb3.cell (p := ⟨b9, o9, none⟩) HXL.out).trans HX0.out
        have HBS := Lib.hid hB5
        clear z0 z1 y0 y1 x1 hB5 hf5 hb3
        have z0 : w3.cell? ⟨G, 0, none⟩ = some (.bool false) := cell_of_row _ G 0 _ _ _ HZ3.out
        have z1 : w3.cell? ⟨G, 1, none⟩ = some nilE := cell_of_row _ G 1 _ _ _ HZ3.out
        have y0 := frozen_row (j := 0) HZ3.out
        have y1 := frozen_row (j := 1) HZ3.out
        have HBF : Hid (Below w.heap.size w ((w3.setCell ⟨G, 0, none⟩ (.bool false)).setCell ⟨G, 1, none⟩ (.slice A5 m5 c5))) := Lib.hid (((HBX.out).setCell (p := ⟨G, 0, none⟩) (Nat.le_of_eq HG.out.symm) _).setCell (p := ⟨G, 1, none⟩) (Nat.le_of_eq HG.out.symm) _)
        have HOS : Hid ((outD S).isSome = (bytesD b).isSome) := Lib.hid (by rw [HO2.out]; cases bytesD b <;> rfl)
        have HOP : Hid (∀ p, outD S = some p → p = (false, (bytesD b).getD [])) := Lib.hid (fun p hp => by rw [HO2.out] at hp; cases hq : bytesD b with
          | none => rw [hq] at hp; cases hp
          | some m => rw [hq] at hp; simp only [Option.map_some, Option.some.injEq] at hp; exact hp.symm)
        obtain ⟨q, hq⟩ : ∃ q, q = (bytesD b).isSome := ⟨_, rfl⟩
        rw [← hq] at HOS ⊢
        clear hq
        go_wp2_with (fail)
        refine bodyPost_ret (v := .tuple #[ouV false (.slice A5 m5 c5), .bool q]) ?_ rfl ⟨false, _, _, _, _, by rw [HOS.out], HOP.out, ((HBS.out.setOther (fun b hb => Nat.ne_of_gt (HLOW.out b hb)) 0 _).setOther (fun b hb => Nat.ne_of_gt (HLOW.out b hb)) 1 _), (fun b hb => HG.out ▸ Nat.le_of_lt (HLOW.out b hb)), HBF.out⟩
        exact resultsO Tryd.results42 _ _ G _ _ _ _ _ (by kernel_rfl) (by kernel_rfl) (finish_ou HZ3.out)
      · have e1 : ((txt a).toList == [98, 97, 99, 107]) = false := by rw [Go.ByteArray.toList_eq, beq_eq_false_iff_ne]; exact h1
        have e2 : ((txt a).toList != [98, 97, 99, 107]) = true := by rw [bne, e1]; rfl
        have e3 : ((txt a).toList == [111, 110]) = false := by rw [Go.ByteArray.toList_eq, beq_eq_false_iff_ne]; exact h3
        have e4 : ((txt a).toList != [111, 110]) = true := by rw [bne, e3]; rfl
        have HO2 : Hid (outD S = none) := Lib.hid (by rw [HO.out, if_neg h1, if_neg h3])
        clear h1 h3
        obtain ⟨u, hu⟩ : ∃ u, u = txt a := ⟨_, rfl⟩
        rw [show str a = .string (txt a) from rfl, ← hu] at x0 HX0
        rw [← hu] at e1 e2 e3 e4
        clear hu
        go_wp2_with (fail)
        refine bodyPost_ret (v := .tuple #[ouV false (nilE), .bool false]) ?_ rfl ⟨false, [], none, 0, 0, by rw [HO2.out]; rfl, (fun p hp => by rw [HO2.out] at hp; cases hp), Bs.none_ _, (fun x hx => by cases hx), HBF.out _ _⟩
        exact resultsO Tryd.results42 _ _ G _ _ _ _ _ (by kernel_rfl) (by kernel_rfl) (finish_ou HZF.out)
  · have HO := Lib.hid (outD_more h2)
    have n1 : (((cutAt 32 S).length : Int) == 2) = false := by rw [beq_eq_false_iff_ne]; omega
    have n2 : (((cutAt 32 S).length : Int) != 2) = true := by rw [bne, n1]; rfl
    clear h2
    go_wp2_with (fail)
    refine bodyPost_ret (v := .tuple #[ouV false (nilE), .bool false]) ?_ rfl ⟨false, [], none, 0, 0, by rw [HO.out]; rfl, (fun p hp => by rw [HO.out] at hp; cases hp), Bs.none_ _, (fun x hx => by cases hx), HBF.out _ _⟩
    exact resultsO Tryd.results42 _ _ G _ _ _ _ _ (by kernel_rfl) (by kernel_rfl) (finish_ou HZF.out)
end Go.Proofs.YtnoppnnpennddaaDoor
