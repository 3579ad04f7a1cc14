/- DelimJoins, walked. -/
import Derived.Test.YtkniednjchnncabDoorDelimCutsW
namespace Go.Proofs.YtkniednjchnncabDoor
open Go.RowKit

theorem OwnS.empty {base : Nat} (w : World) (hb : base ≤ w.heap.size) : OwnS (w.alloc (.cells #[] 9)) base (.slice (some ⟨w.heap.size, 0, none⟩) 0 0) [] :=
  ⟨by simp, .inr ⟨w.heap.size, 0, #[], rfl, hb, heap_alloc_new w _, Nat.le_refl _, by simp [maxLen], by simp, by simp⟩⟩
/-- those without the sign -/
def cleanOf (c : UInt8) (T : List (List UInt8)) : List (List UInt8) := T.filter fun x => !x.contains c
theorem cleanOf_no (c : UInt8) (T : List (List UInt8)) (k : Nat) (hk : k < T.length) (h : (T.getD k []).contains c = false) : cleanOf c (T.take (k + 1)) = cleanOf c (T.take k) ++ [T.getD k []] := by
  unfold cleanOf
  rw [take_getD T k hk, List.filter_append]
  simp only [List.filter_cons, List.filter_nil, h, Bool.not_false, if_true]
theorem cleanOf_yes (c : UInt8) (T : List (List UInt8)) (k : Nat) (hk : k < T.length) (h : (T.getD k []).contains c = true) : cleanOf c (T.take (k + 1)) = cleanOf c (T.take k) := by
  unfold cleanOf
  rw [take_getD T k hk, List.filter_append]
  simp only [List.filter_cons, List.filter_nil, h, Bool.not_true, if_false, List.append_nil, Bool.false_eq_true]
theorem lens_filter (f : List UInt8 → Bool) : ∀ T : List (List UInt8), Lib.lens (T.filter f) ≤ Lib.lens T
  | [] => by simp [Lib.lens]
  | x :: r => by
    have := lens_filter f r
    simp only [Lib.lens] at this ⊢
    rw [List.filter_cons]
    split
    · simp only [List.map_cons, List.sum_cons]; omega
    · simp only [List.map_cons, List.sum_cons]; omega
theorem contains_take (c : UInt8) (y : ByteArray) (j : Nat) (hj : j < y.size) : (y.data.toList.take (j + 1)).contains c = ((y.data.toList.take j).contains c || decide (y[j] = c)) := by
  rw [take_snoc y j hj, List.contains_append]
  congr 1
  by_cases h : y[j] = c
  · simp [h]
  · have h2 : ¬ c = y[j] := fun e => h e.symm
    simp [h, h2]

set_option maxHeartbeats 4000000 in
set_option maxRecDepth 100000 in
theorem delimJoins_walk (s : ByteArray) (c : UInt8) (A : Option Addr) (n cp : Nat) (T : List (List UInt8)) (w : World) (hm : MaxLen w) (_hs : s.size ≤ maxLen) (hS : Ss w A n cp T) (hs : s.size ≤ 1048576) (ht : Lib.lens T + T.length ≤ 1048576) :
    Calls Tryd.prog 4 #[.string s, u8 c, .slice A n cp] w (True_ w) := by
  have HM := Lib.hid hm
  have HS := Lib.hid hS
  have HT := Lib.hid ht
  have HSZ := Lib.hid hs
  have hmax := hS.nmax
  clear hm hS ht _hs
  go_enter Tryd.func4, Tryd.ntmps4
  go_wp2_with (fail)
  have HO : Hid (OwnS (w.alloc (.cells #[] 9)) w.heap.size (.slice (some ⟨w.heap.size, 0, none⟩) 0 0) []) := Lib.hid (OwnS.empty w (Nat.le_refl _))
  have HB : Hid (Below w.heap.size w (w.alloc (.cells #[] 9))) := Lib.hid ((Below.refl _ w).alloc (Nat.le_refl _) _)
  generalize w.alloc (.cells #[] 9) = w0 at *
  go_loopw [7, 19, 8, 10, 11, 12] (fun v i l _ _ _ wr => ∃ k : Nat, k ≤ n ∧ i = .int .i64 k ∧ v = .int .i64 ((s.size + Lib.lens (T.take k) + k : Nat) : Int) ∧ OwnS wr w.heap.size l (cleanOf c (T.take k)) ∧ Below w.heap.size w wr) (fun _ i _ _ _ _ _ => n - (intOf i).toNat)
  case atStart => exact ⟨0, Nat.zero_le _, rfl, rfl, HO.out, HB.out⟩
  case round =>
    clear HO HB
    obtain ⟨wo, rfl⟩ : ∃ wo : World, wo = wr := ⟨_, rfl⟩
    obtain ⟨k, hk, rfl, rfl, ho, hb⟩ := hrel
    have HO := Lib.hid ho
    have HB := Lib.hid hb
    clear ho hb
    have hb1 := Lib.lens_take_le T k
    have hTl := HS.out.len
    by_cases hlt : k < n
    · have hl := lens_getD T k (by omega)
      have hb2 := Lib.lens_take_le T (k + 1)
      obtain ⟨b, o, rfl, _, hc⟩ := (HS.out.below HB.out).read hlt
      have hTb := HT.out
      have e1 : (k : Int) < (n : Int) := by omega
      obtain ⟨p, hp⟩ : ∃ y, y = Lib.lens (T.take k) := ⟨_, rfl⟩
      rw [← hp] at hl hb1 ⊢
      have HCN := Lib.hid (cleanOf_no c T k (by omega))
      have HCY := Lib.hid (cleanOf_yes c T k (by omega))
      have HCL : Hid ((cleanOf c (T.take k)).length ≤ k) := Lib.hid (by
        have h1 := List.length_filter_le (fun x => !x.contains c) (T.take k)
        rw [List.length_take] at h1
        exact Nat.le_trans h1 (Nat.min_le_left _ _))
      obtain ⟨y, hy⟩ : ∃ y : ByteArray, y = txt (T.getD k []) := ⟨_, rfl⟩
      have hyl : y.data.toList = T.getD k [] := by rw [hy]
      have hysz : y.size = (T.getD k []).length := by rw [hy]; rfl
      rw [show str (T.getD k []) = .string y from congrArg Value.string hy.symm] at hc
      rw [← hysz] at hl
      rw [← hyl] at HCN HCY
      have hq : ((s.size + p + k : Nat) : Int) ≤ 4000000 := by omega
      have hy2 : (y.size : Int) ≤ 1048576 := by omega
      have HL := Lib.hid hl
      have HLT := Lib.hid hlt
      clear hl hb1 hb2 hTl hlt hp hTb hy hyl hysz
      go_wp2_with (fail)
      go_loop [11, 30, 12] (fun v i _ => ∃ j : Nat, j ≤ y.size ∧ i = .int .i64 j ∧ v = .bool ((y.data.toList.take j).contains c)) (fun _ i _ => y.size - (intOf i).toNat)
      case atStart => exact ⟨0, Nat.zero_le _, rfl, rfl⟩
      case round =>
        obtain ⟨j, hj, rfl, rfl⟩ := hrel
        by_cases hjy : j < y.size
        · have HCT := Lib.hid (contains_take c y j hjy)
          have e2 : (j : Int) < (y.size : Int) := by omega
          cases hq2 : (y.data.toList.take j).contains c
          · by_cases hx : y[j] = c
            · have d : (((y[j].toNat : Nat) : Int) == ((c.toNat : Nat) : Int)) = true := by rw [hx]; simp
              have HX : Hid ((y.data.toList.take (j + 1)).contains c = true) := Lib.hid (by rw [HCT.out, hq2]; simp [hx])
              clear hx hq2
              go_wp2_with (fail)
              exact ⟨⟨j + 1, by omega, by go_num, by rw [HX.out]⟩, by simp [intOf]; omega⟩
            · have d : (((y[j].toNat : Nat) : Int) == ((c.toNat : Nat) : Int)) = false := by
                rw [beq_eq_false_iff_ne]; intro e; exact hx (UInt8.toNat_inj.1 (by omega))
              have HX : Hid ((y.data.toList.take (j + 1)).contains c = false) := Lib.hid (by rw [HCT.out, hq2]; simp [hx])
              clear hx hq2
              go_wp2_with (fail)
              exact ⟨⟨j + 1, by omega, by go_num, by rw [HX.out]⟩, by simp [intOf]; omega⟩
          · have HX : Hid ((y.data.toList.take (j + 1)).contains c = true) := Lib.hid (by rw [HCT.out, hq2]; rfl)
            clear hq2
            go_wp2_with (fail)
            exact ⟨⟨j + 1, by omega, by go_num, by rw [HX.out]⟩, by simp [intOf]; omega⟩
        · obtain rfl : j = y.size := by omega
          rw [List.take_of_length_le (by simp)]
          clear hjy hj
          cases hq2 : y.data.toList.contains c
          · have HCN2 := Lib.hid (HCN.out hq2)
            clear hq2 HCN HCY
            have tok1 : Hid True := Lib.hid trivial
            go_wp2_with (at_builtin; have _t := tok1; go_loud ((refine wpList_str rfl (.tmp 44) (.tmp 46) rfl w.heap.size _ (cleanOf c (T.take k)) rfl (HO.out.below ((Below.refl _ wo).alloc (Nat.le_refl _) _)) wo.heap.size y.data.toList rfl (heap_alloc_new wo _) (by have := HCL.out; have := HLT.out; have := HT.out; have := HS.out.len; omega) (by have := HB.out.size; simp; omega) ?_; intro v' w' hown hbel hgr; have HOWN := Lib.hid hown; have HBEL := Lib.hid hbel; clear tok1 hown hbel hgr _t)))
            have hw2 : Below w.heap.size w w' := (HB.out.alloc HB.out.size _).trans HBEL.out
            refine ⟨⟨k + 1, HLT.out, by go_num, by rw [HL.out]; go_num, by rw [HCN2.out]; exact HOWN.out, hw2⟩, by have := HLT.out; simp [intOf]; omega⟩
          · have HCY2 := Lib.hid (HCY.out hq2)
            clear hq2 HCN HCY
            go_wp2_with (fail)
            exact ⟨⟨k + 1, HLT.out, by go_num, by rw [HL.out]; go_num, by rw [HCY2.out]; exact HO.out, HB.out⟩, by have := HLT.out; simp [intOf]; omega⟩
    · obtain rfl : k = n := by omega
      rw [List.take_of_length_le (by omega)] at HO ⊢
      have hfl := lens_filter (fun x => !x.contains c) T
      have hfn := List.length_filter_le (fun x => !x.contains c) T
      have HCB : Hid (Lib.lens (cleanOf c T) + (cleanOf c T).length ≤ 1048576) := Lib.hid (by have := HT.out; unfold cleanOf; omega)
      have HCC : Hid (∀ x ∈ cleanOf c T, c ∉ x) := Lib.hid (fun x hx => by
        have := (List.mem_filter.1 hx).2
        simpa using this)
      obtain ⟨N, hN⟩ : ∃ y, y = s.size + Lib.lens T + k := ⟨_, rfl⟩
      rw [← hN]
      generalize cleanOf c T = U at *
      obtain ⟨A3, c3, rfl, hU, _⟩ := HO.out.ss
      have HU := Lib.hid hU
      clear hb1 hTl hlt hN hfl hfn hU HO
      by_cases hlong : (3000 : Int) < (N : Int)
      · go_wp2_with (fail)
        refine (delimAlive wo).mono ?_
        rintro e w1 ⟨rfl, hb⟩
        have HB1 : Hid (Below w.heap.size w w1) := Lib.hid (HB.out.trans (hb.mono HB.out.size))
        clear hb
        go_wp2_with (fail)
        go_ret
        exact ⟨rfl, HB1.out⟩
      · go_wp2_with (fail)
        refine (delimCut s c wo (by have := HSZ.out; omega) (HM.out.below HB.out)).mono ?_
        rintro e w2 ⟨A1, c1, rfl, hS1, hb⟩
        have HB2 : Hid (Below w.heap.size w w2) := Lib.hid (HB.out.trans (hb.mono HB.out.size))
        have HS1 := Lib.hid hS1
        have HU2 := Lib.hid (HU.out.below hb)
        clear hS1 hb HB HU
        go_wp2_with (fail)
        refine (delimAlive w2).mono ?_
        rintro e w3 ⟨rfl, hb⟩
        have HB3 : Hid (Below w.heap.size w w3) := Lib.hid (HB2.out.trans (hb.mono HB2.out.size))
        have HS13 := Lib.hid (HS1.out.below hb)
        have HU3 := Lib.hid (HU2.out.below hb)
        clear hb HB2 HS1 HU2
        have hsl : s.data.toList.length = s.size := by simp
        have hjb : (Lib.join (cutAt c s.data.toList) [c]).length ≤ 1099511627000 := by rw [cutAt_join]; have := HSZ.out; omega
        have hln : (cutAt c s.data.toList).length ≤ 1099511627000 := by rw [cutAt_length]; have := List.count_le_length (a := c) (l := s.data.toList); have := HSZ.out; omega
        have hl0 : ¬ (((cutAt c s.data.toList).length : Nat) : Int) = 0 := by rw [cutAt_length]; omega
        have hl1 : ((((cutAt c s.data.toList).length : Nat) : Int) == 0) = false := by rw [beq_eq_false_iff_ne]; exact hl0
        have HJB := Lib.hid hjb
        have HLN := Lib.hid hln
        have HJ := Lib.hid (show str (Lib.join (cutAt c s.data.toList) [c]) = .string s by rw [cutAt_join, str, txt_data])
        clear hsl hjb hln hl0
        generalize cutAt c s.data.toList = V at *
        go_wp2_with (fail)
        refine (delimJoin c A1 V.length c1 V w3 HS13.out HJB.out HLN.out).mono ?_
        rintro e w4 ⟨rfl, hb⟩
        have HB4 : Hid (Below w.heap.size w w4) := Lib.hid (HB3.out.trans (hb.mono HB3.out.size))
        have HU4 := Lib.hid (HU3.out.below hb)
        rw [HJ.out]
        clear hb HB3 HS13 HU3 HJB HLN
        by_cases hu : U.length = 0
        · obtain rfl : U = [] := List.eq_nil_of_length_eq_zero hu
          rw [List.length_nil]
          go_wp2_with (fail)
          refine (delimJoin c none 0 0 [] w4 (Ss.nil w4 0 none (by simp [maxLen])) (by simp [Lib.join_nil]) (by omega)).mono ?_
          rintro e w5 ⟨rfl, hb⟩
          have HB5 : Hid (Below w.heap.size w w5) := Lib.hid (HB4.out.trans (hb.mono HB4.out.size))
          rw [show str (Lib.join [] [c]) = .string ⟨#[]⟩ from rfl]
          clear hb HB4
          go_wp2_with (fail)
          go_ret
          exact ⟨rfl, HB5.out⟩
        · have hu1 : (((U.length : Nat) : Int) == 0) = false := by rw [beq_eq_false_iff_ne]; omega
          have hjl : (Lib.join U [c]).length ≤ 2000000 := by rw [jlen]; have := HCB.out; omega
          have HJL := Lib.hid hjl
          have hcj : cutAt c (Lib.join U [c]) = U := by
            have hcc := HCC.out
            cases U with
            | nil => exact absurd rfl hu
            | cons x r => exact cutAt_of_join c x r hcc
          have HCJ := Lib.hid hcj
          clear hu hjl hcj
          go_wp2_with (fail)
          refine (delimJoin c A3 U.length c3 U w4 HU4.out (by have := HJL.out; omega) (by have := HCB.out; omega)).mono ?_
          rintro e w5 ⟨rfl, hb⟩
          have HB5 : Hid (Below w.heap.size w w5) := Lib.hid (HB4.out.trans (hb.mono HB4.out.size))
          have HU5 := Lib.hid (HU4.out.below hb)
          clear hb HB4 HU4
          go_wp2_with (fail)
          refine (delimCut (txt (Lib.join U [c])) c w5 (by have := HJL.out; show (Lib.join U [c]).length ≤ _; omega) (HM.out.below HB5.out)).mono ?_
          rintro e w6 ⟨A5, c5, rfl, hS5, hb⟩
          have HB6 : Hid (Below w.heap.size w w6) := Lib.hid (HB5.out.trans (hb.mono HB5.out.size))
          have HU6 := Lib.hid (HU5.out.below hb)
          rw [show (txt (Lib.join U [c])).data.toList = Lib.join U [c] from rfl, HCJ.out] at hS5 ⊢
          have HS5 := Lib.hid hS5
          clear hb hS5 HB5 HU5
          go_wp2_with (fail)
          refine (same06 A5 A3 U.length c5 c3 U w6 HS5.out HU6.out).mono ?_
          rintro e w7 ⟨rfl, hb⟩
          have HB7 : Hid (Below w.heap.size w w7) := Lib.hid (HB6.out.trans (hb.mono HB6.out.size))
          clear hb HB6 HU6 HS5
          go_wp2_with (fail)
          go_ret
          exact ⟨rfl, HB7.out⟩
end Go.Proofs.YtkniednjchnncabDoor
