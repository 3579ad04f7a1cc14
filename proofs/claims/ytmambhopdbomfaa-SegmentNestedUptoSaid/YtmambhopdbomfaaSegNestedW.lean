/- SegmentNested, walked. -/
import Derived.Test.YtmambhopdbomfaaNest1
namespace Go.Proofs.Ytmambhopdbomfaa
open Go.RowKit

theorem txt_lit (M : List UInt8) (c : UInt8) : txt M ++ (⟨#[c]⟩ : ByteArray) = txt (M ++ [c]) := by
  rw [txt_append]
theorem cleanX_take (y : ByteArray) (q : Nat) (h : q < y.size) : cleanX (y.data.toList.take (q + 1)) = (cleanX (y.data.toList.take q) && !decide (y[q] = 126) && !decide (y[q] = 94)) := by
  unfold cleanX
  rw [contains_take 126 y q h, contains_take 94 y q h]
  cases (y.data.toList.take q).contains 126 <;> cases (y.data.toList.take q).contains 94 <;> cases decide (y[q] = 126) <;> cases decide (y[q] = 94) <;> rfl

set_option maxHeartbeats 16000000 in
set_option maxRecDepth 100000 in
theorem segmentNested_walk (A : Option Addr) (n cp : Nat) (R : List (List (List UInt8))) (w : World) (hS : Sss w A n cp R) (hbk : bulkR R + R.length ≤ 1048576) :
    Calls Try.prog 9 #[.slice A n cp] w (True_ w) := by
  have hmax := hS.nmax
  have HS0 := Lib.hid hS
  have HBK := Lib.hid hbk
  have HRL : Hid (R.length = n) := Lib.hid hS.1
  clear hS hbk
  go_enter Try.func9, Try.ntmps9
  go_wp2_with (fail)
  refine (plain_ w).mono ?_
  rintro e w1 ⟨rfl, hb1⟩
  have HB1 : Hid (Below w.heap.size w (boxSgn plainS w1)) := Lib.hid (hb1.trans ((boxSgn_below plainS w1).mono hb1.size))
  have HX1 : Hid (BoxS plainS w1.heap.size (boxSgn plainS w1)) := Lib.hid (heap_alloc_new w1 _)
  have HS : Hid (Sss (boxSgn plainS w1) A n cp R) := Lib.hid ((HS0.out.below hb1).below (boxSgn_below plainS w1))
  clear hb1 HS0
  go_wp2_with (fail)
  rw [show w1.alloc _ = boxSgn plainS w1 from rfl]
  generalize w1.heap.size = g at *
  generalize boxSgn plainS w1 = wd at *
  have HO0 : Hid (OwnSS wd wd.heap.size (.slice none 0 0) []) := Lib.hid (OwnSS.nil _ _)
  go_loopw [5, 6, 27, 8, 9, 11, 12, 13, 33, 39] (fun s v i _ _ _ _ _ _ _ wr => ∃ k : Nat, k ≤ n ∧ i = .int .i64 k ∧ s = .int .i64 ((bulkR (R.take k) : Nat) : Int) ∧ OwnSS wr wd.heap.size v (ownR (R.take k)) ∧ Below wd.heap.size wd wr) (fun _ _ i _ _ _ _ _ _ _ _ => n - (intOf i).toNat)
  case atStart => exact ⟨0, Nat.zero_le _, rfl, rfl, HO0.out, Below.refl _ _⟩
  case round =>
    clear HO0
    obtain ⟨wo, rfl⟩ : ∃ wo : World, wo = wr := ⟨_, rfl⟩
    obtain ⟨k, hk, rfl, rfl, ho, hb⟩ := hrel
    have HO := Lib.hid ho
    have HB := Lib.hid hb
    clear ho hb
    by_cases hlt : k < n
    · obtain ⟨b, o, Ai, ci, rfl, _, hc, hrow⟩ := (HS.out.below HB.out).read hlt
      have HLT := Lib.hid hlt
      have e1 : (k : Int) < (n : Int) := by omega
      have HTK := Lib.hid (takeR R k (by rw [HRL.out]; exact hlt))
      have HBT := Lib.hid (bulkR_take R (k + 1))
      have HLR := Lib.hid (ownR_len R k)
      obtain ⟨T, hT⟩ : ∃ T, T = R.getD k [] := ⟨_, rfl⟩
      rw [← hT] at hc hrow HTK
      obtain ⟨m, hm⟩ : ∃ m, m = T.length := ⟨_, rfl⟩
      rw [← hm] at hc hrow
      have HSR := Lib.hid hrow
      have hmx := hrow.nmax
      obtain ⟨p, hp⟩ : ∃ p, p = bulkR (R.take k) := ⟨_, rfl⟩
      have HPG : Hid (p + gT T ≤ 1048576) := Lib.hid (by
        have h1 := HBT.out
        rw [HTK.out, bulkR_snoc, ← hp] at h1
        have h2 := HBK.out
        omega)
      have HP := Lib.hid hp
      rw [← hp]
      have HM := Lib.hid hm
      clear hT hrow hlt hp hm
      have HN0 : Hid (OwnS wo wo.heap.size (.slice none 0 0) []) := Lib.hid (OwnS.nil _ _)
      go_wp2_with (fail)
      go_loopw [5, 9, 33, 11, 12, 13, 39] (fun s v i _ _ _ _ wr => ∃ j : Nat, j ≤ m ∧ i = .int .i64 j ∧ s = .int .i64 ((p + gT (T.take j) : Nat) : Int) ∧ OwnS wr wo.heap.size v (cleanP (T.take j)) ∧ Below wo.heap.size wo wr) (fun _ _ i _ _ _ _ _ => m - (intOf i).toNat)
      case atStart => exact ⟨0, Nat.zero_le _, rfl, rfl, HN0.out, Below.refl _ _⟩
      case round =>
        clear HN0
        obtain ⟨wm, rfl⟩ : ∃ wm : World, wm = wr := ⟨_, rfl⟩
        obtain ⟨j, hj, rfl, rfl, hom, hbm⟩ := hrel
        have HOM := Lib.hid hom
        have HBM := Lib.hid hbm
        clear hom hbm
        by_cases hjl : j < m
        · obtain ⟨b2, o2, rfl, _, hc2⟩ := (HSR.out.below HBM.out).read hjl
          have HJT := Lib.hid (take_getD T j (by rw [← HM.out]; exact hjl))
          have e2 : (j : Int) < (m : Int) := by omega
          have HCY := Lib.hid (cleanP_yes T j (by rw [← HM.out]; exact hjl))
          have HCN := Lib.hid (cleanP_no T j (by rw [← HM.out]; exact hjl))
          have HCL := Lib.hid (cleanP_len T j)
          have HGT := Lib.hid (gT_take T (j + 1))
          obtain ⟨y, hy⟩ : ∃ y : ByteArray, y = txt (T.getD j []) := ⟨_, rfl⟩
          have hyl : y.data.toList = T.getD j [] := by rw [hy]
          have hysz : y.size = (T.getD j []).length := by rw [hy]; rfl
          rw [show str (T.getD j []) = .string y from congrArg Value.string hy.symm] at hc2
          obtain ⟨z, hz⟩ : ∃ z, z = p + gT (T.take j) := ⟨_, rfl⟩
          have HZ : Hid (z + (1 + y.size) = p + gT (T.take (j + 1)) ∧ z + (1 + y.size) ≤ 1048576) := Lib.hid (by
            have h1 := HPG.out
            have h2 := HGT.out
            rw [HJT.out, gT_snoc, ← hysz] at h2 ⊢
            omega)
          rw [← hz]
          have hzb : (z : Int) ≤ 1048576 := by have := HZ.out; omega
          have hy2 : (y.size : Int) ≤ 1048576 := by have := HZ.out; omega
          rw [← hyl] at HCN HCY
          have HJL := Lib.hid hjl
          clear hjl hy hyl hysz hz
          go_wp2_with (fail)
          go_loop [12, 39, 13] (fun v i _ => ∃ q : Nat, q ≤ y.size ∧ i = .int .i64 q ∧ v = .bool (cleanX (y.data.toList.take q))) (fun _ i _ => y.size - (intOf i).toNat)
          case atStart => exact ⟨0, Nat.zero_le _, rfl, rfl⟩
          case round =>
            obtain ⟨q, hq, rfl, rfl⟩ := hrel
            by_cases hqy : q < y.size
            · have HCT := Lib.hid (cleanX_take y q hqy)
              have e3 : (q : Int) < (y.size : Int) := by omega
              cases hq2 : cleanX (y.data.toList.take q)
              · have HX : Hid (cleanX (y.data.toList.take (q + 1)) = false) := Lib.hid (by rw [HCT.out, hq2]; rfl)
                clear hq2
                go_wp2_with (fail)
                exact ⟨⟨q + 1, by omega, by go_num, by rw [HX.out]⟩, by simp [intOf]; omega⟩
              · by_cases hx : y[q] = 126
                · have d : (((y[q].toNat : Nat) : Int) != 126) = false := by rw [hx]; rfl
                  have HX : Hid (cleanX (y.data.toList.take (q + 1)) = false) := Lib.hid (by rw [HCT.out, hq2]; simp [hx])
                  clear hx hq2
                  go_wp2_with (fail)
                  exact ⟨⟨q + 1, by omega, by go_num, by rw [HX.out]⟩, by simp [intOf]; omega⟩
                · have d : (((y[q].toNat : Nat) : Int) != 126) = true := by
                    rw [bne_iff_ne]; intro e; exact hx (UInt8.toNat_inj.1 (by have : (126 : UInt8).toNat = 126 := rfl; omega))
                  by_cases hx2 : y[q] = 94
                  · have d2 : (((y[q].toNat : Nat) : Int) != 94) = false := by rw [hx2]; rfl
                    have HX : Hid (cleanX (y.data.toList.take (q + 1)) = false) := Lib.hid (by rw [HCT.out, hq2]; simp [hx2])
                    clear hx hx2 hq2
                    go_wp2_with (fail)
                    exact ⟨⟨q + 1, by omega, by go_num, by rw [HX.out]⟩, by simp [intOf]; omega⟩
                  · have d2 : (((y[q].toNat : Nat) : Int) != 94) = true := by
                      rw [bne_iff_ne]; intro e; exact hx2 (UInt8.toNat_inj.1 (by have : (94 : UInt8).toNat = 94 := rfl; omega))
                    have HX : Hid (cleanX (y.data.toList.take (q + 1)) = true) := Lib.hid (by rw [HCT.out, hq2]; simp [hx, hx2])
                    clear hx hx2 hq2
                    go_wp2_with (fail)
                    exact ⟨⟨q + 1, by omega, by go_num, by rw [HX.out]⟩, by simp [intOf]; omega⟩
            · obtain rfl : q = y.size := by omega
              rw [List.take_of_length_le (by simp)]
              clear hqy hq
              cases hq2 : cleanX y.data.toList
              · have HCN2 := Lib.hid (HCN.out hq2)
                clear hq2 HCN HCY
                go_wp2_with (fail)
                exact ⟨⟨j + 1, HJL.out, by go_num, by rw [← HZ.out.1]; go_num, by rw [HCN2.out]; exact HOM.out, HBM.out⟩, by have := HJL.out; simp [intOf]; omega⟩
              · have HCY2 := Lib.hid (HCY.out hq2)
                clear hq2 HCN HCY
                have tok1 : Hid True := Lib.hid trivial
                go_wp2_with (at_builtin; have _t := tok1; go_loud ((refine wpList_str rfl (.tmp 62) (.tmp 64) rfl wo.heap.size _ (cleanP (T.take j)) rfl (HOM.out.below ((Below.refl _ wm).alloc (Nat.le_refl _) _)) wm.heap.size y.data.toList rfl (heap_alloc_new wm _) (by have := HCL.out; have := HJL.out; have := HM.out; have := HPG.out; unfold gT at this; omega) (by have := HBM.out.size; simp; omega) ?_; intro v' w' hown hbel hgr; have HOWN := Lib.hid hown; have HBEL := Lib.hid hbel; clear tok1 hown hbel hgr _t)))
                have hw2 : Below wo.heap.size wo w' := (HBM.out.alloc HBM.out.size _).trans HBEL.out
                first
                | exact ⟨⟨j + 1, HJL.out, by go_num, by rw [← HZ.out.1]; go_num, by rw [HCY2.out]; exact HOWN.out, hw2⟩, by have := HJL.out; simp [intOf]; omega⟩
                | refine ⟨⟨_, _, _, _, _, _, ⟨j + 1, HJL.out, rfl, rfl, by rw [HCY2.out]; exact HOWN.out, hw2⟩, ?_⟩, by have := HJL.out; simp [intOf]; omega⟩
                  refine ⟨?_, rfl, rfl, rfl, rfl, ?_⟩
                  · rw [← HZ.out.1]; go_num
                  · go_num
        · obtain rfl : j = m := by omega
          rw [List.take_of_length_le (by rw [← HM.out]; exact Nat.le_refl _)] at HOM ⊢
          have HPN : Hid (p + gT T = bulkR (R.take (k + 1))) := Lib.hid (by rw [HTK.out, bulkR_snoc, HP.out])
          have hbw : Below wd.heap.size wd wm := HB.out.trans (HBM.out.mono HB.out.size)
          have HBW := Lib.hid hbw
          have HOSS := Lib.hid (HO.out.below HBM.out)
          obtain ⟨A3, c3, rfl, hU, _⟩ := HOM.out.ss
          have hUx := hU.nmax
          clear hjl hj hbw
          by_cases h0 : cleanP T = []
          · have d0 : (cleanP T).length = 0 := by rw [h0]; rfl
            have HON : Hid (ownR (R.take (k + 1)) = ownR (R.take k)) := Lib.hid (by rw [HTK.out]; exact ownR_none _ _ h0)
            rw [d0]
            clear h0 d0 hUx
            go_wp2_with (fail)
            exact ⟨⟨k + 1, HLT.out, by go_num, by rw [← HPN.out], by rw [HON.out]; exact HOSS.out, HBW.out⟩, by have := HLT.out; simp [intOf]; omega⟩
          · have d0 : 0 < (cleanP T).length := List.length_pos_iff.2 h0
            have HON : Hid (ownR (R.take (k + 1)) = ownR (R.take k) ++ [cleanP T]) := Lib.hid (by rw [HTK.out]; exact ownR_snoc _ _ h0)
            generalize cleanP T = U at *
            have d1 : (0 : Int) < (U.length : Int) := by omega
            clear h0 d0
            have tok1 : Hid True := Lib.hid trivial
            go_wp2_with (at_builtin; have _t := tok1; go_loud ((refine wpList_ss rfl (.tmp 70) (.tmp 72) rfl wd.heap.size _ (ownR (R.take k)) rfl (HOSS.out.below ((Below.refl _ wm).alloc (Nat.le_refl _) _)) wm.heap.size _ U rfl (heap_alloc_new wm _) ((HOM.out.mono HB.out.size).below ((Below.refl _ wm).alloc (Nat.le_refl _) _)) (by have := HLR.out; have := HLT.out; have := HRL.out; have := HBK.out; omega) (by have := HBW.out.size; simp; omega) ?_; intro v' w' hown hbel; have HOWN := Lib.hid hown; have HBEL := Lib.hid hbel; clear tok1 hown hbel _t)))
            have hw2 : Below wd.heap.size wd w' := (HBW.out.alloc HBW.out.size _).trans HBEL.out
            first
            | exact ⟨⟨k + 1, HLT.out, by go_num, by rw [← HPN.out] <;> go_num, by rw [HON.out]; exact HOWN.out, hw2⟩, by have := HLT.out; simp [intOf]; omega⟩
            | exact (trivial : True)
    · obtain rfl : k = n := by omega
      rw [List.take_of_length_le (by rw [HRL.out]; exact Nat.le_refl _)] at HO ⊢
      have HOB := Lib.hid (ownR_bulk R)
      have HOC := Lib.hid (ownR_clean R)
      generalize ownR R = O at *
      obtain ⟨N, hN⟩ : ∃ N, N = bulkR R := ⟨_, rfl⟩
      rw [← hN] at HOB ⊢
      have HN := Lib.hid hN
      obtain ⟨A6, c6, rfl, h6⟩ := HO.out.form
      have hOx := h6.nmax
      have H6 := Lib.hid h6
      have HX := Lib.hid (HX1.out.below HB.out)
      clear hlt hk hN h6 HO
      go_wp2_with (fail)
      refine (alive_ _).mono ?_
      rintro e w4 ⟨rfl, hb4⟩
      have HB4 : Hid (Below w.heap.size w w4) := Lib.hid (HB1.out.trans ((HB.out.trans (hb4.mono HB.out.size)).mono HB1.out.size))
      have HX4 := Lib.hid (HX.out.below hb4)
      have H64 := Lib.hid (H6.out.below hb4)
      clear hb4 HX H6
      by_cases hbig : 800 < N
      · have d1 : decide ((800 : Int) < (N : Int)) = true := by simp; omega
        clear hbig
        go_wp2_with (fail)
        refine (alive_ _).mono ?_
        rintro e w5 ⟨rfl, hb5⟩
        have HB5 : Hid (Below w.heap.size w w5) := Lib.hid (HB4.out.trans (hb5.mono HB4.out.size))
        clear hb5
        go_wp2_with (fail)
        go_ret
        exact ⟨rfl, HB5.out⟩
      have d1 : decide ((800 : Int) < (N : Int)) = false := by simp; omega
      have HNL : Hid (N ≤ 800) := Lib.hid (by omega)
      clear hbig
      by_cases h0 : O = []
      · have d2 : (((O.length : Nat) : Int) == 0) = true := by rw [h0]; rfl
        clear h0
        go_wp2_with (fail)
        refine (alive_ _).mono ?_
        rintro e w5 ⟨rfl, hb5⟩
        have HB5 : Hid (Below w.heap.size w w5) := Lib.hid (HB4.out.trans (hb5.mono HB4.out.size))
        clear hb5
        go_wp2_with (fail)
        go_ret
        exact ⟨rfl, HB5.out⟩
      have hpos : 0 < O.length := List.length_pos_iff.2 h0
      have d2 : (((O.length : Nat) : Int) == 0) = false := by simp; omega
      have H0 := Lib.hid h0
      obtain ⟨mo, hmo⟩ : ∃ mo, mo = O.length := ⟨_, rfl⟩
      rw [← hmo] at H64 d2 hOx ⊢
      have HMO := Lib.hid hmo
      clear h0 hpos hmo
      go_wp2_with (fail)
      clear d1 d2
      go_loop [4, 89, 14, 15, 16, 17, 100] (fun f i _ _ _ _ _ => ∃ k : Nat, k ≤ mo ∧ i = .int .i64 k ∧ f = .string (txt (fieldJ (O.take k)))) (fun _ i _ _ _ _ _ => mo - (intOf i).toNat)
      case atStart => exact ⟨0, Nat.zero_le _, rfl, rfl⟩
      case round =>
        obtain ⟨k, hk, rfl, rfl⟩ := hrel
        by_cases hlt : k < mo
        · obtain ⟨b, o, Ai, ci, rfl, _, hc, hrow⟩ := H64.out.read hlt
          have HLT := Lib.hid hlt
          have e1 : (k : Int) < (mo : Int) := by omega
          have HTK := Lib.hid (takeR O k (by rw [← HMO.out]; exact hlt))
          obtain ⟨P, hP⟩ : ∃ P, P = O.getD k [] := ⟨_, rfl⟩
          rw [← hP] at hc hrow HTK
          have HPG : Hid (gT P ≤ 800) := Lib.hid (by
            have h1 := HOB.out
            have h2 := HNL.out
            have h3 : gT P ≤ bulkR O := bulkR_mem (by
              rw [hP, List.getD_eq_getElem?_getD, List.getElem?_eq_getElem (by rw [← HMO.out]; exact hlt)]
              exact List.getElem_mem _)
            omega)
          have HFL : Hid ((fieldJ (O.take k)).length ≤ 800) := Lib.hid (by
            have h1 := HOB.out
            have h2 := HNL.out
            have h3 := bulkR_take O k
            have h4 := fieldJ_len (O.take k) (fun T hT => HOC.out T (List.mem_of_mem_take hT))
            omega)
          obtain ⟨m, hm⟩ : ∃ m, m = P.length := ⟨_, rfl⟩
          rw [← hm] at hc hrow
          have HSR := Lib.hid hrow
          have hmx := hrow.nmax
          have HM := Lib.hid hm
          have HTN : Hid (fieldJ (O.take (k + 1)) = preC 126 ((O.take k).map partJ) ++ partJ P) := Lib.hid (by rw [HTK.out]; unfold fieldJ; rw [List.map_append, List.map_cons, List.map_nil, join_snocC])
          have HFT : Hid (fieldJ (O.take k) = Lib.join ((O.take k).map partJ) [126]) := Lib.hid rfl
          clear hP hrow hlt hm hk
          by_cases hk0 : k = 0
          · have dk : decide ((0 : Int) < (k : Int)) = false := by simp; omega
            have dk1 : ¬ 0 < k := by omega
            have dk2 : decide (0 < k) = false := by simp; omega
            have HP0 : Hid (preC 126 ((O.take k).map partJ) = []) := Lib.hid (by rw [hk0]; rfl)
            have hf0 : fieldJ (O.take k) = [] := by rw [hk0]; rfl
            obtain ⟨F0, hF0⟩ : ∃ F0 : List UInt8, F0 = fieldJ (O.take k) := ⟨_, rfl⟩
            have HTN : Hid (fieldJ (O.take (k + 1)) = F0 ++ partJ P) := Lib.hid (by rw [HTN.out, HP0.out, hF0, hf0])
            rw [← hF0]
            have HF0 : Hid (F0.length ≤ 801) := Lib.hid (by rw [hF0]; have := HFL.out; omega)
            clear hk0 hf0 hF0
            go_wp2_with (fail)
            go_loopw [4, 100, 16, 17] (fun f i _ _ wr => ∃ j : Nat, j ≤ m ∧ i = .int .i64 j ∧ f = .string (txt (F0 ++ partJ (P.take j))) ∧ wr = w4) (fun _ i _ _ _ => m - (intOf i).toNat)
            case atStart => exact ⟨0, Nat.zero_le _, rfl, by rw [show partJ (P.take 0) = [] from rfl, List.append_nil], rfl⟩
            case round =>
              obtain ⟨j, hj, rfl, rfl, rfl⟩ := hrel
              by_cases hjl : j < m
              · obtain ⟨b2, o2, rfl, _, hc2⟩ := HSR.out.read hjl
                have e2 : (j : Int) < (m : Int) := by omega
                have HJT := Lib.hid (take_getD P j (by rw [← HM.out]; exact hjl))
                obtain ⟨x, hx⟩ : ∃ x, x = P.getD j [] := ⟨_, rfl⟩
                rw [← hx] at hc2 HJT
                have HJL := Lib.hid hjl
                have HNX : Hid (partJ (P.take (j + 1)) = preC 94 (P.take j) ++ x) := Lib.hid (by rw [HJT.out]; exact join_snocC 94 _ _)
                have HLX : Hid ((partJ (P.take j)).length ≤ 800 ∧ x.length ≤ 800) := Lib.hid (by
                  have h1 := join_le 94 (P.take j)
                  have h2 := gT_take P j
                  have h3 := gT_take P (j + 1)
                  rw [HJT.out, gT_snoc] at h3
                  have h4 := HPG.out
                  exact ⟨by unfold partJ; omega, by omega⟩)
                have HPE : Hid (0 < j → preC 94 (P.take j) = partJ (P.take j) ++ [94]) := Lib.hid (fun h => if_neg (fun e => by
                  have h1 := congrArg List.length e
                  rw [List.length_take, List.length_nil] at h1
                  have h2 := HM.out
                  have h3 := HJL.out
                  omega))
                obtain ⟨M2, hM2⟩ : ∃ M2 : List UInt8, M2 = F0 ++ partJ (P.take j) := ⟨_, rfl⟩
                have HM2 : Hid (M2 = F0 ++ partJ (P.take j) ∧ M2.length ≤ 1700) := Lib.hid ⟨hM2, by rw [hM2, List.length_append]; have := HF0.out; have := HLX.out; omega⟩
                rw [← hM2]
                clear hx hjl hM2 hj
                by_cases hj0 : j = 0
                · have dj : decide ((0 : Int) < (j : Int)) = false := by simp; omega
                  have dj1 : ¬ 0 < j := by omega
                  have dj2 : decide (0 < j) = false := by simp; omega
                  have HE : Hid (partJ (P.take (j + 1)) = partJ (P.take j) ++ x) := Lib.hid (by rw [HNX.out, hj0]; rfl)
                  have h2 : ¬ 9223372036854775807 < M2.length + x.length := by have := HM2.out; have := HLX.out; omega
                  clear hj0
                  go_wp2_with (fail)
                  exact ⟨⟨j + 1, HJL.out, by go_num, by rw [HE.out, txt_append, HM2.out.1, List.append_assoc], by trivial⟩, by have := HJL.out; simp [intOf]; omega⟩
                · have dj : decide ((0 : Int) < (j : Int)) = true := by simp; omega
                  have dj1 : 0 < j := by omega
                  have dj2 : decide (0 < j) = true := by simp; omega
                  have HE : Hid (partJ (P.take (j + 1)) = partJ (P.take j) ++ [94] ++ x) := Lib.hid (by rw [HNX.out, HPE.out (by omega)])
                  have h2 : ¬ 9223372036854775807 < M2.length + 1 := by have := HM2.out; omega
                  have h3 : ¬ 9223372036854775807 < M2.length + 1 + x.length := by have := HM2.out; have := HLX.out; omega
                  clear hj0
                  go_wp2_with (fail)
                  exact ⟨⟨j + 1, HJL.out, by go_num, by rw [HE.out, txt_lit, txt_append, HM2.out.1]; simp only [List.append_assoc], by trivial⟩, by have := HJL.out; simp [intOf]; omega⟩
              · obtain rfl : j = m := by omega
                rw [List.take_of_length_le (by rw [← HM.out]; exact Nat.le_refl _), ← HTN.out]
                clear hjl hj
                go_wp2_with (fail)
                exact ⟨⟨k + 1, HLT.out, by go_num, rfl⟩, by have := HLT.out; simp [intOf]; omega⟩
          · have dk : decide ((0 : Int) < (k : Int)) = true := by simp; omega
            have dk1 : 0 < k := by omega
            have dk2 : decide (0 < k) = true := by simp; omega
            have hne : (O.take k).map partJ ≠ [] := by
              intro e
              have h1 := congrArg List.length e
              rw [List.length_map, List.length_take, List.length_nil] at h1
              have h2 := HMO.out
              have h3 := HLT.out
              omega
            have HP0 : Hid (preC 126 ((O.take k).map partJ) = fieldJ (O.take k) ++ [126]) := Lib.hid (if_neg hne)
            rw [HP0.out] at HTN
            obtain ⟨M, hM⟩ : ∃ M : List UInt8, M = fieldJ (O.take k) := ⟨_, rfl⟩
            rw [← hM] at HTN HFL ⊢
            have h1 : ¬ 9223372036854775807 < M.length + 1 := by have := HFL.out; omega
            obtain ⟨F0, hF0⟩ : ∃ F0 : List UInt8, F0 = M ++ [126] := ⟨_, rfl⟩
            rw [← hF0] at HTN
            have HF0 : Hid (F0.length ≤ 801) := Lib.hid (by rw [hF0]; have := HFL.out; simp; omega)
            have HFE := Lib.hid hF0
            clear hk0 hne hM hF0
            go_wp2_with (fail)
            rw [txt_lit, ← HFE.out]
            go_loopw [4, 100, 16, 17] (fun f i _ _ wr => ∃ j : Nat, j ≤ m ∧ i = .int .i64 j ∧ f = .string (txt (F0 ++ partJ (P.take j))) ∧ wr = w4) (fun _ i _ _ _ => m - (intOf i).toNat)
            case atStart => exact ⟨0, Nat.zero_le _, rfl, by rw [show partJ (P.take 0) = [] from rfl, List.append_nil], rfl⟩
            case round =>
              obtain ⟨j, hj, rfl, rfl, rfl⟩ := hrel
              by_cases hjl : j < m
              · obtain ⟨b2, o2, rfl, _, hc2⟩ := HSR.out.read hjl
                have e2 : (j : Int) < (m : Int) := by omega
                have HJT := Lib.hid (take_getD P j (by rw [← HM.out]; exact hjl))
                obtain ⟨x, hx⟩ : ∃ x, x = P.getD j [] := ⟨_, rfl⟩
                rw [← hx] at hc2 HJT
                have HJL := Lib.hid hjl
                have HNX : Hid (partJ (P.take (j + 1)) = preC 94 (P.take j) ++ x) := Lib.hid (by rw [HJT.out]; exact join_snocC 94 _ _)
                have HLX : Hid ((partJ (P.take j)).length ≤ 800 ∧ x.length ≤ 800) := Lib.hid (by
                  have h1 := join_le 94 (P.take j)
                  have h2 := gT_take P j
                  have h3 := gT_take P (j + 1)
                  rw [HJT.out, gT_snoc] at h3
                  have h4 := HPG.out
                  exact ⟨by unfold partJ; omega, by omega⟩)
                have HPE : Hid (0 < j → preC 94 (P.take j) = partJ (P.take j) ++ [94]) := Lib.hid (fun h => if_neg (fun e => by
                  have h1 := congrArg List.length e
                  rw [List.length_take, List.length_nil] at h1
                  have h2 := HM.out
                  have h3 := HJL.out
                  omega))
                obtain ⟨M2, hM2⟩ : ∃ M2 : List UInt8, M2 = F0 ++ partJ (P.take j) := ⟨_, rfl⟩
                have HM2 : Hid (M2 = F0 ++ partJ (P.take j) ∧ M2.length ≤ 1700) := Lib.hid ⟨hM2, by rw [hM2, List.length_append]; have := HF0.out; have := HLX.out; omega⟩
                rw [← hM2]
                clear hx hjl hM2 hj
                by_cases hj0 : j = 0
                · have dj : decide ((0 : Int) < (j : Int)) = false := by simp; omega
                  have dj1 : ¬ 0 < j := by omega
                  have dj2 : decide (0 < j) = false := by simp; omega
                  have HE : Hid (partJ (P.take (j + 1)) = partJ (P.take j) ++ x) := Lib.hid (by rw [HNX.out, hj0]; rfl)
                  have h2 : ¬ 9223372036854775807 < M2.length + x.length := by have := HM2.out; have := HLX.out; omega
                  clear hj0
                  go_wp2_with (fail)
                  exact ⟨⟨j + 1, HJL.out, by go_num, by rw [HE.out, txt_append, HM2.out.1, List.append_assoc], by trivial⟩, by have := HJL.out; simp [intOf]; omega⟩
                · have dj : decide ((0 : Int) < (j : Int)) = true := by simp; omega
                  have dj1 : 0 < j := by omega
                  have dj2 : decide (0 < j) = true := by simp; omega
                  have HE : Hid (partJ (P.take (j + 1)) = partJ (P.take j) ++ [94] ++ x) := Lib.hid (by rw [HNX.out, HPE.out (by omega)])
                  have h2 : ¬ 9223372036854775807 < M2.length + 1 := by have := HM2.out; omega
                  have h3 : ¬ 9223372036854775807 < M2.length + 1 + x.length := by have := HM2.out; have := HLX.out; omega
                  clear hj0
                  go_wp2_with (fail)
                  exact ⟨⟨j + 1, HJL.out, by go_num, by rw [HE.out, txt_lit, txt_append, HM2.out.1]; simp only [List.append_assoc], by trivial⟩, by have := HJL.out; simp [intOf]; omega⟩
              · obtain rfl : j = m := by omega
                rw [List.take_of_length_le (by rw [← HM.out]; exact Nat.le_refl _), ← HTN.out]
                clear hjl hj
                go_wp2_with (fail)
                exact ⟨⟨k + 1, HLT.out, by go_num, rfl⟩, by have := HLT.out; simp [intOf]; omega⟩
        · obtain rfl : k = mo := by omega
          rw [List.take_of_length_le (by rw [← HMO.out]; exact Nat.le_refl _)]
          have HAF := Lib.hid (again_field O HOC.out H0.out)
          rw [← HMO.out] at HAF
          have HPF : Hid (∀ i : Nat, i < k → partsD (txt (fieldJ O)) plainS ((i : Int) + 1) = O.getD i []) := Lib.hid (fun i hi => parts_field O HOC.out i (by rw [← HMO.out]; exact hi))
          obtain ⟨s, hs⟩ : ∃ s : ByteArray, s = txt (fieldJ O) := ⟨_, rfl⟩
          rw [← hs] at HAF HPF ⊢
          have HSZ : Hid (s.size ≤ 1000000) := Lib.hid (by
            rw [hs, txt_size']
            have h1 := fieldJ_len O HOC.out
            have h2 := HOB.out
            have h3 := HNL.out
            omega)
          have HML : Hid (k ≤ 1048576) := Lib.hid (by
            have h1 := cut_le plainS.c s
            rw [HAF.out] at h1
            have h2 := HSZ.out
            omega)
          clear hs hlt hk
          obtain ⟨c0, c1, c2, c3, c4⟩ := HX4.out.cells
          go_wp2_with (fail)
          refine (agains_ s plainS _ (by have := HSZ.out; omega)).mono ?_
          rintro e w5 ⟨rfl, hb5⟩
          rw [HAF.out]
          have HX5 := Lib.hid (HX4.out.below hb5)
          have HB5 := Lib.hid (HB4.out.trans (hb5.mono HB4.out.size))
          have H65 := Lib.hid (H64.out.below hb5)
          clear hb5 c0 c1 c2 c3 c4
          go_wp2_with (fail)
          go_loopw [122, 18, 19, 20, 21, 22, 23, 137] (fun i _ _ _ _ _ _ _ wr => ∃ q : Nat, q ≤ k ∧ i = .int .i64 q ∧ Below w5.heap.size w5 wr) (fun i _ _ _ _ _ _ _ _ => k - (intOf i).toNat)
          case atStart => exact ⟨0, Nat.zero_le _, rfl, Below.refl _ _⟩
          case round =>
            obtain ⟨wo, rfl⟩ : ∃ wo : World, wo = wr := ⟨_, rfl⟩
            obtain ⟨q, hq, rfl, hb⟩ := hrel
            have HBQ := Lib.hid hb
            clear hb
            by_cases hlt : q < k
            · obtain ⟨b, o, Ai, ci, rfl, _, hc, hrow⟩ := (H65.out.below HBQ.out).read hlt
              have HLT := Lib.hid hlt
              have e1 : (q : Int) < (k : Int) := by omega
              have HPQ := Lib.hid (HPF.out q hlt)
              obtain ⟨P, hP⟩ : ∃ P, P = O.getD q [] := ⟨_, rfl⟩
              rw [← hP] at hc hrow HPQ
              have HPG : Hid (gT P ≤ 800) := Lib.hid (by
                have h1 := HOB.out
                have h2 := HNL.out
                have h3 : gT P ≤ bulkR O := bulkR_mem (by
                  rw [hP, List.getD_eq_getElem?_getD, List.getElem?_eq_getElem (by rw [← HMO.out]; exact hlt)]
                  exact List.getElem_mem _)
                omega)
              obtain ⟨m, hm⟩ : ∃ m, m = P.length := ⟨_, rfl⟩
              rw [← hm] at hc hrow
              have HSR := Lib.hid hrow
              have hmx := hrow.nmax
              have HM := Lib.hid hm
              have ew : IntKind.i64.wrap ((q : Int) + 1) = (q : Int) + 1 := by rw [IntKind.wrap_i64]; have := HML.out; omega
              obtain ⟨c0, c1, c2, c3, c4⟩ := (HX5.out.below HBQ.out).cells
              clear hP hrow hlt hm hq
              go_wp2_with (fail)
              refine (parts_ s ((q : Int) + 1) plainS _ (by have := HSZ.out; omega)).mono ?_
              rintro e w6 ⟨rfl, hb6⟩
              rw [HPQ.out, ← HM.out]
              have HB6 : Hid (Below w5.heap.size w5 w6) := Lib.hid (HBQ.out.trans (hb6.mono HBQ.out.size))
              have HSR6 := Lib.hid (HSR.out.below hb6)
              clear hb6 c0 c1 c2 c3 c4
              go_wp2_with (fail)
              go_loopw [137, 20, 21, 22, 23] (fun i _ _ _ _ wr => ∃ j : Nat, j ≤ m ∧ i = .int .i64 j ∧ Below w6.heap.size w6 wr) (fun i _ _ _ _ _ => m - (intOf i).toNat)
              case atStart => exact ⟨0, Nat.zero_le _, rfl, Below.refl _ _⟩
              case round =>
                obtain ⟨wi, rfl⟩ : ∃ wi : World, wi = wr := ⟨_, rfl⟩
                obtain ⟨j, hj, rfl, hb⟩ := hrel
                have HBI := Lib.hid hb
                clear hb
                by_cases hjl : j < m
                · obtain ⟨b2, o2, rfl, _, hc2⟩ := (HSR6.out.below HBI.out).read hjl
                  have e2 : (j : Int) < (m : Int) := by omega
                  obtain ⟨x, hx⟩ : ∃ x, x = P.getD j [] := ⟨_, rfl⟩
                  rw [← hx] at hc2
                  have HJL := Lib.hid hjl
                  have HMB : Hid (m ≤ 800) := Lib.hid (by have h1 := HPG.out; have h2 := HM.out; unfold gT at h1; omega)
                  have ew2 : IntKind.i64.wrap ((j : Int) + 1) = (j : Int) + 1 := by rw [IntKind.wrap_i64]; have := HMB.out; omega
                  have HNX : Hid (nthD (partsD s plainS ((q : Int) + 1)) ((j : Int) + 1) = some x) := Lib.hid (by
                    rw [HPQ.out]
                    unfold nthD
                    rw [if_pos (by omega), show ((j : Int) + 1 - 1).toNat = j by omega, hx, List.getD_eq_getElem?_getD, List.getElem?_eq_getElem (by rw [← HM.out]; exact hjl)]
                    rfl)
                  have hst : ((txt x).toList == (txt x).toList) = true := by simp
                  obtain ⟨c0, c1, c2, c3, c4⟩ := ((HX5.out.below HB6.out).below (HBI.out)).cells
                  clear hx hjl
                  go_wp2_with (fail)
                  refine (part_ s ((q : Int) + 1) ((j : Int) + 1) plainS _ (by have := HSZ.out; omega)).mono ?_
                  rintro e w7 ⟨rfl, hb7⟩
                  rw [HNX.out]
                  have HB7 : Hid (Below w6.heap.size w6 w7) := Lib.hid (HBI.out.trans (hb7.mono HBI.out.size))
                  clear hb7 c0 c1 c2 c3 c4
                  go_wp2_with (fail)
                  exact ⟨⟨j + 1, HJL.out, by go_num, HB7.out⟩, by have := HJL.out; simp [intOf]; omega⟩
                · obtain rfl : j = m := by omega
                  have hbn : Below w5.heap.size w5 wi := HB6.out.trans (HBI.out.mono HB6.out.size)
                  have HBN := Lib.hid hbn
                  clear hjl hj hbn
                  go_wp2_with (fail)
                  exact ⟨⟨q + 1, HLT.out, by go_num, HBN.out⟩, by have := HLT.out; simp [intOf]; omega⟩
            · obtain rfl : q = k := by omega
              clear hlt hq
              go_wp2_with (fail)
              go_ret
              exact ⟨rfl, HB5.out.trans (HBQ.out.mono HB5.out.size)⟩
end Go.Proofs.Ytmambhopdbomfaa
