/- SegmentBack, walked. -/
import Derived.Test.YtmambhopdbomfaaSegBackM
import Derived.Test.YtmambhopdbomfaaCleanOf
namespace Go.Proofs.Ytmambhopdbomfaa
open Go.RowKit

set_option maxHeartbeats 8000000 in
set_option maxRecDepth 100000 in
theorem segmentBack_walk (A : Option Addr) (n cp : Nat) (T : List (List UInt8)) (A' : Option Addr) (n' cp' : Nat) (l : List UInt8) (w : World) (hS : Ss w A n cp T) (hB : Bs w A' n' cp' l) (_hcp : cp' ≤ 140737488351232) (ht : Lib.lens T + T.length ≤ 1048576) :
    Calls Try.prog 6 #[.slice A n cp, .slice A' n' cp'] w (True_ w) := by
  have hnm := hB.nmax
  have hmax := hS.nmax
  have HS := Lib.hid hS
  have HT := Lib.hid ht
  have HBL := Lib.hid hB
  obtain ⟨N, hN⟩ : ∃ N, N = Lib.lens T + T.length := ⟨_, rfl⟩
  have HN := Lib.hid hN
  clear hS ht hB hN
  go_enter Try.func6, Try.ntmps6
  by_cases hbig : 2000 < N
  · have d1 : decide ((2000 : Int) < (N : Int)) = true := by simp; omega
    clear hbig
    go_wp2_with (fail)
    refine (bytes08 A n cp T _ HS.out HT.out N HN.out).mono ?_
    rintro e w2 ⟨rfl, rfl⟩
    go_wp2_with (fail)
    refine (alive_ _).mono ?_
    rintro e w3 ⟨rfl, hb3⟩
    have HB3 := Lib.hid hb3
    clear hb3
    go_wp2_with (fail)
    go_ret
    exact ⟨rfl, HB3.out⟩
  have d1 : decide ((2000 : Int) < (N : Int)) = false := by simp; omega
  have HNT : Hid (N ≤ 2000) := Lib.hid (by omega)
  clear hbig
  by_cases hbig2 : 2000 < n'
  · have d2 : decide ((2000 : Int) < (n' : Int)) = true := by simp; omega
    clear hbig2
    go_wp2_with (fail)
    refine (bytes08 A n cp T _ HS.out HT.out N HN.out).mono ?_
    rintro e w2 ⟨rfl, rfl⟩
    go_wp2_with (fail)
    refine (alive_ _).mono ?_
    rintro e w3 ⟨rfl, hb3⟩
    have HB3 := Lib.hid hb3
    clear hb3
    go_wp2_with (fail)
    go_ret
    exact ⟨rfl, HB3.out⟩
  have d2 : decide ((2000 : Int) < (n' : Int)) = false := by simp; omega
  have HNL : Hid (n' ≤ 2000) := Lib.hid (by omega)
  clear hbig2
  go_wp2_with (fail)
  refine (bytes08 A n cp T _ HS.out HT.out N HN.out).mono ?_
  rintro e w2 ⟨rfl, rfl⟩
  go_wp2_with (fail)
  clear d1 d2
  have HO0 : Hid (OwnS w2 w2.heap.size (.slice none 0 0) []) := Lib.hid (OwnS.nil _ _)
  go_loopw [5, 22, 7, 8, 9, 28] (fun v i _ _ _ _ wr => ∃ k : Nat, k ≤ n ∧ i = .int .i64 k ∧ OwnS wr w2.heap.size v (cleanOf 13 (T.take k)) ∧ Below w2.heap.size w2 wr) (fun _ i _ _ _ _ _ => n - (intOf i).toNat)
  case atStart => exact ⟨0, Nat.zero_le _, rfl, HO0.out, Below.refl _ _⟩
  case round =>
    clear HO0
    obtain ⟨wo, rfl⟩ : ∃ wo : World, wo = wr := ⟨_, rfl⟩
    obtain ⟨k, hk, rfl, ho, hb⟩ := hrel
    have HO := Lib.hid ho
    have HB := Lib.hid hb
    clear ho hb
    have HTL := Lib.hid HS.out.len
    by_cases hlt : k < n
    · obtain ⟨b, o, rfl, _, hc⟩ := (HS.out.below HB.out).read hlt
      have hl := lens_getD T k (by have := HTL.out; omega)
      have hb2 := Lib.lens_take_le T (k + 1)
      have hTb := HT.out
      have e1 : (k : Int) < (n : Int) := by omega
      have HCN := Lib.hid (cleanOf_no 13 T k (by have := HTL.out; omega))
      have HCY := Lib.hid (cleanOf_yes 13 T k (by have := HTL.out; omega))
      have HCL := Lib.hid (cleanOf_len 13 T k)
      obtain ⟨y, hy⟩ : ∃ y : ByteArray, y = txt (T.getD k []) := ⟨_, rfl⟩
      have hyl : y.data.toList = T.getD k [] := by rw [hy]
      have hysz : y.size = (T.getD k []).length := by rw [hy]; rfl
      rw [show str (T.getD k []) = .string y from congrArg Value.string hy.symm] at hc
      rw [← hysz] at hl
      rw [← hyl] at HCN HCY
      have hy2 : (y.size : Int) ≤ 1048576 := by omega
      have HLT := Lib.hid hlt
      clear hl hb2 hlt hTb hy hyl hysz
      go_wp2_with (fail)
      go_loop [8, 28, 9] (fun v i _ => ∃ j : Nat, j ≤ y.size ∧ i = .int .i64 j ∧ v = .bool ((y.data.toList.take j).contains 13)) (fun _ i _ => y.size - (intOf i).toNat)
      case atStart => exact ⟨0, Nat.zero_le _, rfl, rfl⟩
      case round =>
        obtain ⟨j, hj, rfl, rfl⟩ := hrel
        by_cases hjy : j < y.size
        · have HCT := Lib.hid (contains_take 13 y j hjy)
          have e2 : (j : Int) < (y.size : Int) := by omega
          cases hq2 : (y.data.toList.take j).contains 13
          · by_cases hx : y[j] = 13
            · have d : (((y[j].toNat : Nat) : Int) == 13) = true := by rw [hx]; rfl
              have HX : Hid ((y.data.toList.take (j + 1)).contains 13 = true) := Lib.hid (by rw [HCT.out, hq2]; simp [hx])
              clear hx hq2
              go_wp2_with (fail)
              exact ⟨⟨j + 1, by omega, by go_num, by rw [HX.out]⟩, by simp [intOf]; omega⟩
            · have d : (((y[j].toNat : Nat) : Int) == 13) = false := by
                rw [beq_eq_false_iff_ne]; intro e; exact hx (UInt8.toNat_inj.1 (by have : (13 : UInt8).toNat = 13 := rfl; omega))
              have HX : Hid ((y.data.toList.take (j + 1)).contains 13 = false) := Lib.hid (by rw [HCT.out, hq2]; simp [hx])
              clear hx hq2
              go_wp2_with (fail)
              exact ⟨⟨j + 1, by omega, by go_num, by rw [HX.out]⟩, by simp [intOf]; omega⟩
          · have HX : Hid ((y.data.toList.take (j + 1)).contains 13 = true) := Lib.hid (by rw [HCT.out, hq2]; rfl)
            clear hq2
            go_wp2_with (fail)
            exact ⟨⟨j + 1, by omega, by go_num, by rw [HX.out]⟩, by simp [intOf]; omega⟩
        · obtain rfl : j = y.size := by omega
          rw [List.take_of_length_le (by simp)]
          clear hjy hj
          cases hq2 : y.data.toList.contains 13
          · have HCN2 := Lib.hid (HCN.out hq2)
            clear hq2 HCN HCY
            have tok1 : Hid True := Lib.hid trivial
            go_wp2_with (at_builtin; have _t := tok1; go_loud ((refine wpList_str rfl (.tmp 41) (.tmp 43) rfl w2.heap.size _ (cleanOf 13 (T.take k)) rfl (HO.out.below ((Below.refl _ wo).alloc (Nat.le_refl _) _)) wo.heap.size y.data.toList rfl (heap_alloc_new wo _) (by have := HCL.out; have := HLT.out; have := HT.out; have := HS.out.len; omega) (by have := HB.out.size; simp; omega) ?_; intro v' w' hown hbel hgr; have HOWN := Lib.hid hown; have HBEL := Lib.hid hbel; clear tok1 hown hbel hgr _t)))
            have hw2 : Below w2.heap.size w2 w' := (HB.out.alloc HB.out.size _).trans HBEL.out
            refine ⟨⟨k + 1, HLT.out, by go_num, by rw [HCN2.out]; exact HOWN.out, hw2⟩, by have := HLT.out; simp [intOf]; omega⟩
          · have HCY2 := Lib.hid (HCY.out hq2)
            clear hq2 HCN HCY
            go_wp2_with (fail)
            exact ⟨⟨k + 1, HLT.out, by go_num, by rw [HCY2.out]; exact HO.out, HB.out⟩, by have := HLT.out; simp [intOf]; omega⟩
    · obtain rfl : k = n := by omega
      rw [List.take_of_length_le (by have := HTL.out; omega)] at HO
      have HCB : Hid (Lib.lens (cleanOf 13 T) + (cleanOf 13 T).length ≤ 2000) := Lib.hid (by have h1 := cleanOf_bulk 13 T; have h2 := HN.out; have h3 := HNT.out; omega)
      have HCC := Lib.hid (cleanOf_mem 13 T)
      generalize cleanOf 13 T = U at *
      obtain ⟨A3, c3, rfl, hU, _⟩ := HO.out.ss
      have HU := Lib.hid hU
      have HBW : Hid (Bs wo A' n' cp' l) := Lib.hid (HBL.out.below HB.out)
      have HLL : Hid (l.length = n') := Lib.hid HBL.out.len
      clear hlt hU HO hk
      go_wp2_with (fail)
      refine (split_ A' n' cp' l wo HBW.out (by have := HNL.out; omega)).mono ?_
      rintro e w3 ⟨A4, c4, rfl, hS4, hb3⟩
      have HS4 := Lib.hid hS4
      have HB3 : Hid (Below w2.heap.size w2 w3) := Lib.hid (HB.out.trans (hb3.mono HB.out.size))
      have HU3 := Lib.hid (HU.out.below hb3)
      have HBW3 := Lib.hid (HBW.out.below hb3)
      have HJL : Hid (Lib.lens (splitD l) + (splitD l).length ≤ 2001) := Lib.hid (by
        rw [← joinD_len, join_splitD]
        have h1 := HLL.out
        have h2 := HNL.out
        split
        · omega
        · simp; omega)
      clear hS4 hb3
      go_wp2_with (fail)
      refine (segJoin A4 _ c4 (splitD l) w3 HS4.out (by have := HJL.out; omega)).mono ?_
      rintro e w4 ⟨A5, c5, rfl, hB5, hb4⟩
      have HB4 : Hid (Below w2.heap.size w2 w4) := Lib.hid (HB3.out.trans (hb4.mono HB3.out.size))
      have HU4 := Lib.hid (HU3.out.below hb4)
      have HBW4 := Lib.hid (HBW3.out.below hb4)
      have hcv := hB5.str (P := Try.prog) 22 5 9 Try.underlying22 Try.underlying5 Try.underlying9
      rw [join_splitD] at hcv ⊢
      obtain ⟨R, hR⟩ : ∃ R, R = (if l = [] ∨ l.getLastD 0 = 13 then l else l ++ [13]) := ⟨_, rfl⟩
      have HR := Lib.hid hR
      rw [← hR] at hcv ⊢
      clear hb4 hB5 hR HS4
      go_wp2_with (fail)
      refine (alive_ _).mono ?_
      rintro e w5 ⟨rfl, hb5⟩
      have HB5 : Hid (Below w2.heap.size w2 w5) := Lib.hid (HB4.out.trans (hb5.mono HB4.out.size))
      have HU5 := Lib.hid (HU4.out.below hb5)
      have HBW5 := Lib.hid (HBW4.out.below hb5)
      clear hb5 hcv
      go_wp2_with (fail)
      refine (segJoin A3 _ c3 U w5 HU5.out (by have := HCB.out; omega)).mono ?_
      rintro e w6 ⟨A6, c6, rfl, hB6, hb6⟩
      have HB6 : Hid (Below w2.heap.size w2 w6) := Lib.hid (HB5.out.trans (hb6.mono HB5.out.size))
      have HU6 := Lib.hid (HU5.out.below hb6)
      have HBW6 := Lib.hid (HBW5.out.below hb6)
      have HJ6 := Lib.hid hB6
      clear hb6 hB6
      go_wp2_with (fail)
      refine (split_ A6 _ c6 (joinD U) w6 HJ6.out (by rw [joinD_len]; have := HCB.out; omega)).mono ?_
      rintro e w7 ⟨A7, c7, rfl, hS7, hb7⟩
      rw [split_joinD U HCC.out] at hS7 ⊢
      have HB7 : Hid (Below w2.heap.size w2 w7) := Lib.hid (HB6.out.trans (hb7.mono HB6.out.size))
      have HU7 := Lib.hid (HU6.out.below hb7)
      have HBW7 := Lib.hid (HBW6.out.below hb7)
      have HS7 := Lib.hid hS7
      clear hb7 hS7
      go_wp2_with (fail)
      refine (same08 A7 A3 U.length c7 c3 U w7 HS7.out HU7.out).mono ?_
      rintro e w8 ⟨rfl, hb8⟩
      have HB8 : Hid (Below w2.heap.size w2 w8) := Lib.hid (HB7.out.trans (hb8.mono HB7.out.size))
      have hBW8 := HBW7.out.below hb8
      have hcv := hBW8.str (P := Try.prog) 22 5 9 Try.underlying22 Try.underlying5 Try.underlying9
      clear hb8
      by_cases h0 : n' = 0
      · have d3 : ((n' : Int) == 0) = true := by simp; omega
        have hl0 : l = [] := List.length_eq_zero_iff.1 (by have := HLL.out; omega)
        have hRl : R = l := by rw [HR.out, if_pos (.inl hl0)]
        rw [hRl]
        have hst : ((txt l).toList == (txt l).toList) = true := by simp
        clear h0 hl0 hRl hBW8
        go_wp2_with (fail)
        go_ret
        exact ⟨rfl, HB8.out⟩
      · have d3 : ((n' : Int) == 0) = false := by simp; omega
        obtain ⟨j, hj⟩ : ∃ j : Nat, (n' : Int) - 1 = (j : Int) := ⟨n' - 1, by omega⟩
        have hjn : j < n' := by omega
        obtain ⟨b, o, rfl, _, hcs⟩ := hBW8.at_ (by omega)
        have hcell := hcs j (l.getD j 0) (by rw [List.getD_eq_getElem?_getD, List.getElem?_eq_getElem (by rw [HLL.out]; exact hjn)]; rfl)
        clear hcs
        have hlast : l.getD j 0 = l.getLastD 0 := by
          rw [List.getLastD_eq_getLast?, List.getLast?_eq_getElem?, HLL.out, show n' - 1 = j by omega, List.getD_eq_getElem?_getD]
        rw [hlast] at hcell
        have ew : IntKind.i64.wrap (j : Int) = (j : Int) := by rw [IntKind.wrap_i64]; have := HNL.out; omega
        have hjn2 : (j : Int) < (n' : Int) := by omega
        have hne : l ≠ [] := fun e => by rw [e] at HLL; have := HLL.out; simp at this; omega
        obtain ⟨z, hz⟩ : ∃ z, z = l.getLastD 0 := ⟨_, rfl⟩
        rw [← hz] at hcell
        by_cases h13 : z = 13
        · have d4 : (((z.toNat : Nat) : Int) == 13) = true := by rw [h13]; rfl
          have hRl : R = l := by rw [HR.out, if_pos (.inr (hz.symm.trans h13))]
          rw [hRl]
          have hst : ((txt l).toList == (txt l).toList) = true := by simp
          clear h0 hRl hBW8 hz h13 hlast hne
          go_wp2_with (fail)
          go_ret
          exact ⟨rfl, HB8.out⟩
        · have d4 : (((z.toNat : Nat) : Int) == 13) = false := by
            rw [beq_eq_false_iff_ne]; intro e; exact h13 (UInt8.toNat_inj.1 (by have : (13 : UInt8).toNat = 13 := rfl; omega))
          have hRl : R = l ++ [13] := by
            rw [HR.out, if_neg]
            rintro (e | e)
            · exact hne e
            · exact h13 (hz.trans e)
          rw [hRl]
          have hq : ¬ 9223372036854775807 < l.length + 1 := by have := HLL.out; have := HNL.out; omega
          have HST : Hid ((l ++ [13] == (txt l ++ { data := #[13] }).toList) = true) := Lib.hid (by rw [Go.ByteArray.toList_eq]; simp)
          clear h0 hRl hBW8 hz h13 hlast hne
          go_wp2_with (fail)
          go_ret
          exact ⟨congrArg (fun b => Ending.returned (.bool b)) HST.out, HB8.out⟩
end Go.Proofs.Ytmambhopdbomfaa
