/- TraceJoins, walked. -/
import Derived.Test.YtnoppnnpennddaaDoorTrX
import Derived.Test.YtnoppnnpennddaaDoorTrZ
import Derived.Test.YtnoppnnpennddaaDoorTrJ
namespace Go.Proofs.YtnoppnnpennddaaDoor
open Go.RowKit

theorem ex_take0 (r : ByteArray) (i : Nat) : txt (r.data.toList.take i) = r.extract 0 i := by
  apply ByteArray.ext
  apply Array.toList_inj.1
  rw [ByteArray.data_extract, Array.toList_extract, List.extract_eq_take_drop]
  simp
set_option maxHeartbeats 16000000 in
set_option maxRecDepth 100000 in
theorem traceJoins_walk (A : Option Addr) (n c : Nat) (L : List TStep) (A' : Option Addr) (n' c' : Nat) (M : List TStep) (w : World) (hv : TRows w ∧ MaxLen w ∧ Pow w) (hS : Sts w A n c L) (hS' : Sts w A' n' c' M) (hf : ∀ x ∈ L, x.Fits) (hn : n ≤ 1048576) (hf' : ∀ x ∈ M, x.Fits) (hn' : n' ≤ 1048576) :
    Calls Tryd.prog 7 #[.slice A n c, .slice A' n' c'] w fun e w' => e = .returned (.bool true) ∧ Below w.heap.size w w' := by
  have HR := Lib.hid (fun W (hb : Below w.heap.size w W) => hv.1.below hb)
  have HM := Lib.hid (fun W (hb : Below w.heap.size w W) => hv.2.1.below hb)
  have HP := Lib.hid (fun W (hb : Below w.heap.size w W) => hv.2.2.below hb)
  have HS := Lib.hid hS
  have HF := Lib.hid hf
  have HN := Lib.hid hn
  have HL : Hid (L.length = n) := Lib.hid hS.1
  have HS' := Lib.hid hS'
  have HF' := Lib.hid hf'
  have HN' := Lib.hid hn'
  clear hv hS hf hn hS' hf' hn'
  go_enter Tryd.func7, Tryd.ntmps7
  go_wp2_with (fail)
  refine (alive19 w (HM.out _ (Below.refl _ _)) (HR.out _ (Below.refl _ _))).mono ?_
  rintro e w1 ⟨rfl, hb1⟩
  have HB1 := Lib.hid hb1
  clear hb1
  go_wp2_with (fail)
  refine (great_ A n c L w1 (HS.out.below HB1.out) HN.out HF.out).mono ?_
  rintro e w2 ⟨rfl, hb2⟩
  have HB2 := Lib.hid (HB1.out.trans (hb2.mono HB1.out.size))
  clear hb2 HB1
  by_cases hbig : 1500 < sumG L
  · as_aux_lemma =>
    have d1 : decide ((1500 : Int) < (sumG L : Int)) = true := by rw [decide_eq_true_iff]; omega
    rw [d1]
    clear d1
    go_wp2_with (fail)
    refine (alive19 w2 (HM.out _ HB2.out) (HR.out _ HB2.out)).mono ?_
    rintro e w3 ⟨rfl, hb3⟩
    have HB3 := Lib.hid (HB2.out.trans (hb3.mono HB2.out.size))
    clear hb3
    go_wp2_with (fail)
    go_ret
    exact ⟨rfl, HB3.out⟩
  have d1 : decide ((1500 : Int) < (sumG L : Int)) = false := by rw [decide_eq_false_iff_not]; omega
  rw [d1]
  have HG : Hid (sumG L ≤ 1500) := Lib.hid (by omega)
  clear d1 hbig
  go_wp2_with (fail)
  refine (great_ A' n' c' M w2 (HS'.out.below HB2.out) HN'.out HF'.out).mono ?_
  rintro e w3 ⟨rfl, hb3⟩
  have HB3 := Lib.hid (HB2.out.trans (hb3.mono HB2.out.size))
  clear hb3 HB2
  by_cases hbig : 1500 < sumG M
  · as_aux_lemma =>
    have d1 : decide ((1500 : Int) < (sumG M : Int)) = true := by rw [decide_eq_true_iff]; omega
    rw [d1]
    clear d1
    go_wp2_with (fail)
    refine (alive19 w3 (HM.out _ HB3.out) (HR.out _ HB3.out)).mono ?_
    rintro e w4 ⟨rfl, hb4⟩
    have HB4 := Lib.hid (HB3.out.trans (hb4.mono HB3.out.size))
    clear hb4
    go_wp2_with (fail)
    go_ret
    exact ⟨rfl, HB4.out⟩
  have d1 : decide ((1500 : Int) < (sumG M : Int)) = false := by rw [decide_eq_false_iff_not]; omega
  rw [d1]
  have HG' : Hid (sumG M ≤ 1500) := Lib.hid (by omega)
  clear d1 hbig
  go_wp2_with (fail)
  refine (format_ A n c L w3 (HS.out.below HB3.out) HF.out (by have := HG.out; omega) (HR.out _ HB3.out) (HP.out _ HB3.out)).mono ?_
  rcases fmtD_two L with ⟨er, he, hne⟩ | ⟨he, hco⟩
  · as_aux_lemma =>
    rw [he]
    rintro e w4 ⟨rfl, hb4⟩
    have HB4 := Lib.hid (HB3.out.trans (hb4.mono HB3.out.size))
    have n1 : (er == 0) = false := by rw [beq_eq_false_iff_ne]; exact hne
    have n2 : (er != 0) = true := by rw [bne, n1]; rfl
    clear hb4 he hne
    dsimp only
    rw [str_nil]
    go_wp2_with (fail)
    refine (format_ A' n' c' M w4 (HS'.out.below HB4.out) HF'.out (by have := HG'.out; omega) (HR.out _ HB4.out) (HP.out _ HB4.out)).mono ?_
    obtain ⟨q, hq⟩ : ∃ q, q = fmtD M := ⟨_, rfl⟩
    rw [← hq]
    clear hq
    rintro e w5 ⟨rfl, hb5⟩
    have HB5 := Lib.hid (HB4.out.trans (hb5.mono HB4.out.size))
    clear hb5
    rw [show str q.1 = .string (txt q.1) from rfl]
    go_wp2_with (fail)
    go_ret
    exact ⟨rfl, HB5.out⟩
  rw [he]
  rintro e w4 ⟨rfl, hb4⟩
  have HB4 := Lib.hid (HB3.out.trans (hb4.mono HB3.out.size))
  have HCO := Lib.hid hco
  clear hb4 he hco HB3
  dsimp only
  have HSL : Hid ((stepsT L).length ≤ 150000) := Lib.hid (by have := stepsT_len HF.out; have := HG.out; omega)
  have HAP := Lib.hid (fun t => parseT_app t (stepsT L) [] 0 (stepsT_last L))
  have HLA := Lib.hid (stepsT_last L)
  obtain ⟨S, hS⟩ : ∃ S, S = stepsT L := ⟨_, rfl⟩
  rw [← hS] at HSL HAP HLA ⊢
  clear hS
  rw [show str S = .string (txt S) from rfl]
  go_wp2_with (fail)
  refine (format_ A' n' c' M w4 (HS'.out.below HB4.out) HF'.out (by have := HG'.out; omega) (HR.out _ HB4.out) (HP.out _ HB4.out)).mono ?_
  rcases fmtD_two M with ⟨er, he, hne⟩ | ⟨he, hco⟩
  · as_aux_lemma =>
    rw [he]
    rintro e w5 ⟨rfl, hb5⟩
    have HB5 := Lib.hid (HB4.out.trans (hb5.mono HB4.out.size))
    have n1 : (er == 0) = false := by rw [beq_eq_false_iff_ne]; exact hne
    have n2 : (er != 0) = true := by rw [bne, n1]; rfl
    clear hb5 he hne
    dsimp only
    rw [str_nil]
    go_wp2_with (fail)
    go_ret
    exact ⟨rfl, HB5.out⟩
  rw [he]
  rintro e w5 ⟨rfl, hb5⟩
  have HB5 := Lib.hid (HB4.out.trans (hb5.mono HB4.out.size))
  have HSH := Lib.hid (fun K k => parseT_steps K k (b := M) hco)
  clear hb5 he hco HB4
  dsimp only
  have HSL' : Hid ((stepsT M).length ≤ 150000) := Lib.hid (by have := stepsT_len HF'.out; have := HG'.out; omega)
  obtain ⟨T, hT⟩ : ∃ T, T = stepsT M := ⟨_, rfl⟩
  rw [← hT] at HSL' HSH ⊢
  clear hT
  rw [show str T = .string (txt T) from rfl]
  have hadd : ¬ (9223372036854775807 < (txt S).size + (txt T).size) := by rw [size_txt, size_txt]; have := HSL.out; have := HSL'.out; omega
  have HAT : Hid (txt S ++ txt T = txt (S ++ T)) := Lib.hid (txt_appT S T)
  obtain ⟨s, hs⟩ : ∃ s, s = txt S := ⟨_, rfl⟩
  obtain ⟨t, ht⟩ : ∃ t, t = txt T := ⟨_, rfl⟩
  have HSS := Lib.hid hs
  have HTT := Lib.hid ht
  rw [← hs, ← ht] at hadd HAT ⊢
  clear hs ht
  go_wp2_with (fail)
  rw [HAT.out]
  clear hadd
  rcases hp1 : parseT [] 0 S with ⟨M1, k1, e1⟩
  rcases hp2 : parseT [] 0 T with ⟨M2, k2, e2⟩
  have HC1 := Lib.hid (parse_back _ _ _ _ _ _ hp1 (by simp))
  have HC2 := Lib.hid (parse_back _ _ _ _ _ _ hp2 (by simp))
  have HP1 := Lib.hid hp1
  have HP2 := Lib.hid hp2
  have HK1 : Hid (k1 ≤ 150000) := Lib.hid (by have := parseT_lines S [] 0; rw [hp1] at this; dsimp only at this; have := HSL.out; omega)
  have HK2 : Hid (k2 ≤ 150000) := Lib.hid (by have := parseT_lines T [] 0; rw [hp2] at this; dsimp only at this; have := HSL'.out; omega)
  rcases hp3 : parseT [] 0 (S ++ T) with ⟨M3, k3, e3⟩
  have HP3 : Hid ((M3, k3, e3) = if e1 = 0 then shiftT M1 k1 (M2, k2, e2) else ([], k1, 10)) := Lib.hid (by
    rw [← hp3, HAP.out T, hp1]
    dsimp only
    split
    · rw [HSH.out, hp2]
    · rfl)
  refine (parse_T (txt (S ++ T)) w5 (by rw [size_txt]; have := HSL.out; have := HSL'.out; simp only [List.length_append]; omega) (HM.out _ HB5.out) (HR.out _ HB5.out)).mono ?_
  rw [show (txt (S ++ T)).data.toList = S ++ T from rfl, hp3]
  clear hp1 hp2 hp3
  rintro e w6 ⟨v6, rfl, hst6, hb6⟩
  have HB6 := Lib.hid (HB5.out.trans (hb6.mono HB5.out.size))
  obtain ⟨A6, c6, rfl, hs6⟩ := hst6.sts
  have HS6 := Lib.hid hs6
  dsimp only at HS6 ⊢
  clear hst6 hb6 hs6
  go_wp2_with (fail)
  rw [HSS.out]
  refine (parse_T (txt S) w6 (by rw [size_txt]; have := HSL.out; omega) (HM.out _ HB6.out) (HR.out _ HB6.out)).mono ?_
  rw [show (txt S).data.toList = S from rfl, HP1.out]
  rintro e w7 ⟨v7, rfl, hst7, hb7⟩
  have HB7 := Lib.hid (HB6.out.trans (hb7.mono HB6.out.size))
  have HS6 := Lib.hid (HS6.out.below (hb7.mono (Nat.le_refl _)))
  obtain ⟨A7, c7, rfl, hs7⟩ := hst7.sts
  have HS7 := Lib.hid hs7
  dsimp only at HS7 ⊢
  clear hst7 hb7 hs7
  rw [← HSS.out]
  go_wp2_with (fail)
  rw [HTT.out]
  refine (parse_T (txt T) w7 (by rw [size_txt]; have := HSL'.out; omega) (HM.out _ HB7.out) (HR.out _ HB7.out)).mono ?_
  rw [show (txt T).data.toList = T from rfl, HP2.out]
  rintro e w8 ⟨v8, rfl, hst8, hb8⟩
  have HB8 := Lib.hid (HB7.out.trans (hb8.mono HB7.out.size))
  have HS6 := Lib.hid (HS6.out.below (hb8.mono (Nat.le_refl _)))
  have HS7 := Lib.hid (HS7.out.below (hb8.mono (Nat.le_refl _)))
  obtain ⟨A8, c8, rfl, hs8⟩ := hst8.sts
  have HS8 := Lib.hid hs8
  dsimp only at HS8 ⊢
  clear hst8 hb8 hs8
  rw [← HTT.out]
  rcases HC1.out with ⟨rfl, h1, h2⟩ | ⟨rfl, rfl⟩
  · rcases HC2.out with ⟨rfl, g1, g2⟩ | ⟨rfl, rfl⟩
    · have h3 := HP3.out
      rw [if_pos rfl, shiftT, if_pos rfl] at h3
      simp only [Prod.mk.injEq] at h3
      obtain ⟨hm3, hk3, rfl⟩ := h3
      have HM3 := Lib.hid hm3
      have HLN : Hid (M1.length ≤ 150000 ∧ M2.length ≤ 150000) := Lib.hid (by
        have a1 := len_sumG M1
        have a2 := len_sumG M2
        have b1 := stepsT_long h2
        have b2 := stepsT_long g2
        rw [h1] at b1
        rw [g1] at b2
        simp only [stepsT, List.flatMap_nil, List.nil_append] at b1 b2
        have := HSL.out
        have := HSL'.out
        omega)
      have HOU : Hid (∀ x ∈ M3, x.outs.length ≤ 100000000) := Lib.hid (by
        intro x hx
        rw [hm3] at hx
        have b1 := stepsT_long h2
        have b2 := stepsT_long g2
        rw [h1] at b1
        rw [g1] at b2
        simp only [stepsT, List.flatMap_nil, List.nil_append] at b1 b2
        have := HSL.out
        have := HSL'.out
        have h9 := len_sumO x.outs
        rcases List.mem_append.1 hx with h | h
        · have := sumG_mem h; omega
        · have := sumG_mem h; omega)
      have hw3 : IntKind.i64.wrap ((k1 : Int) + (k2 : Int)) = (k3 : Int) := by
        rw [hk3]
        push_cast
        exact IntWalk.i64_in _ (by have := HK1.out; have := HK2.out; omega)
      obtain ⟨P7, hr7, hu7⟩ := HS7.out.src
      obtain ⟨P8, hr8, hu8⟩ := HS8.out.src
      have HR7 := Lib.hid (fun (W : World) (hb : Below w8.heap.size w8 W) => hr7.below (hb.alloc hb.size (.cells #[] TS)))
      have HU7 := Lib.hid (fun (W : World) (hb : Below w8.heap.size w8 W) => hu7.below (hb.alloc hb.size (.cells #[] TS)))
      have HR8 := Lib.hid (fun (W : World) (hb : Below w8.heap.size w8 W) => hr8.below hb)
      have HU8 := Lib.hid (fun (W : World) (hb : Below w8.heap.size w8 W) => hu8.below hb)
      have HUU := Lib.hid hu7.1
      have HUS := Lib.hid (fun (W : World) (hb : Below w8.heap.size w8 W) => (hu7.app hu8).below hb)
      have tok1 : Hid True := Lib.hid trivial
      have tok2 : Hid True := Lib.hid trivial
      clear h1 h2 g1 g2 HC1 HC2 HP3 hm3 hk3 hr7 hu7 hr8 hu8
      by_cases h0 : S = []
      · have e0 : s.size = 0 := by rw [HSS.out, h0]; rfl
        have HB0 : Hid (Below w8.heap.size w8 w8) := Lib.hid (Below.refl _ _)
        clear h0
        go_wp2_with (first
          | (at_builtin; have _t := tok1
             refine wpList_appSteps (by rfl) (.tmp 108) (.tmp 109) 39 rfl w8.heap.size Tryd.underlying39 _ 0 [] rfl (own_lit0 w8) A7 M1.length c7 M1 P7 rfl (HR7.out _ HB0.out) (HU7.out _ HB0.out) (by have := HLN.out; omega) (by simp) ?_
             intro v9 w9 hown9 hb9
             have HO9 := Lib.hid hown9
             have HB9 := Lib.hid (((Below.refl w8.heap.size w8).alloc (Nat.le_refl _) (.cells #[] TS)).trans hb9)
             clear hown9 hb9 tok1 _t)
          | (at_builtin; have _t := tok2
             refine wpList_appSteps (by rfl) (.tmp 110) (.tmp 111) 39 rfl w8.heap.size Tryd.underlying39 v9 (0 + M1.length) _ rfl HO9.out A8 M2.length c8 M2 P8 rfl (HR8.out _ (HB0.out.trans (HB9.out.mono HB0.out.size))) (HU8.out _ (HB0.out.trans (HB9.out.mono HB0.out.size))) (by have := HLN.out; omega) HB9.out.size ?_
             intro v10 w10 hown10 hb10
             have HB10 := Lib.hid (HB9.out.trans hb10)
             obtain ⟨A10, c10, rfl, hs10⟩ := sts_own (n := M3.length) (L := M3) (P := P7 ++ P8) (by rw [HM3.out, stepsC_app _ _ HUU.out, List.length_append]; simpa using hown10) rfl (by rw [HM3.out]; exact HUS.out _ (HB0.out.trans (HB10.out.mono HB0.out.size)))
             have HS10 := Lib.hid hs10
             clear hown10 hb10 hs10 tok2 _t))
        refine (sameL A6 A10 M3.length c6 c10 M3 w10 (HS6.out.below (HB0.out.trans (HB10.out.mono HB0.out.size))) HS10.out (by have := HLN.out; have e := congrArg List.length HM3.out; rw [List.length_append] at e; omega) HOU.out).mono ?_
        rintro e w11 ⟨rfl, hb11⟩
        have HBF := Lib.hid ((HB8.out.trans (HB0.out.mono HB8.out.size)).trans ((HB10.out.mono (Nat.le_trans HB8.out.size HB0.out.size)).trans (hb11.mono (Nat.le_trans (Nat.le_trans HB8.out.size HB0.out.size) HB10.out.size))))
        clear hb11
        go_wp2_with (fail)
        go_ret
        exact ⟨rfl, HBF.out⟩
      · obtain ⟨U, hU⟩ : ∃ U, S = U ++ [10] := by
          rcases HLA.out with h | h
          · exact absurd h h0
          · exact List.getLast?_eq_some_iff.1 h
        obtain ⟨k', hk', hpu⟩ := parseT_cut U [] M1 0 k1 (by rw [← hU]; exact HP1.out)
        have hsz : s.size = U.length + 1 := by rw [HSS.out, size_txt, hU]; simp
        have HUL : Hid (U.length ≤ 150000) := Lib.hid (by have := HSL.out; rw [hU] at this; simp at this; omega)
        have HUL2 := Lib.hid HUL.out
        have HEX : Hid (s.extract 0 U.length = txt U) := Lib.hid (by rw [← ex_take0, HSS.out, hU]; simp)
        have HPU := Lib.hid hpu
        obtain ⟨u, hu⟩ : ∃ u, u = U.length := ⟨_, rfl⟩
        rw [← hu] at HEX HUL hsz
        have hz1 : (0 : Int) < (s.size : Int) := by omega
        have hws : IntKind.i64.wrap ((s.size : Int) - 1) = (u : Int) := by rw [show (s.size : Int) - 1 = (u : Int) from by omega]; exact IntWalk.i64_in _ (by have := HUL.out; omega)
        have hle : (u : Int) ≤ (s.size : Int) := by omega
        have hwk : IntKind.i64.wrap ((k1 : Int) - 1) = (k' : Int) := by rw [show (k1 : Int) - 1 = (k' : Int) from by omega]; exact IntWalk.i64_in _ (by have := HK1.out; omega)
        clear h0 hU hpu hu hk' hsz
        go_wp2_with (fail)
        rw [HEX.out]
        refine (parse_T (txt U) w8 (by rw [size_txt]; have := HUL2.out; omega) (HM.out _ HB8.out) (HR.out _ HB8.out)).mono ?_
        rw [show (txt U).data.toList = U from rfl, HPU.out]
        rintro e w12 ⟨v12, rfl, hst12, hb12⟩
        have HB12 := Lib.hid hb12
        obtain ⟨A12, c12, rfl, _⟩ := hst12.sts
        dsimp only
        clear hst12 hb12
        clear hz1 hws hle
        go_wp2_with (first
          | (at_builtin; have _t := tok1
             refine wpList_appSteps (by rfl) (.tmp 108) (.tmp 109) 39 rfl w12.heap.size Tryd.underlying39 _ 0 [] rfl (own_lit0 w12) A7 M1.length c7 M1 P7 rfl (HR7.out _ HB12.out) (HU7.out _ HB12.out) (by have := HLN.out; omega) (by simp) ?_
             intro v9 w9 hown9 hb9
             have HO9 := Lib.hid hown9
             have HB9 := Lib.hid (((Below.refl w12.heap.size w12).alloc (Nat.le_refl _) (.cells #[] TS)).trans hb9)
             clear hown9 hb9 tok1 _t)
          | (at_builtin; have _t := tok2
             refine wpList_appSteps (by rfl) (.tmp 110) (.tmp 111) 39 rfl w12.heap.size Tryd.underlying39 v9 (0 + M1.length) _ rfl HO9.out A8 M2.length c8 M2 P8 rfl (HR8.out _ (HB12.out.trans (HB9.out.mono HB12.out.size))) (HU8.out _ (HB12.out.trans (HB9.out.mono HB12.out.size))) (by have := HLN.out; omega) HB9.out.size ?_
             intro v10 w10 hown10 hb10
             have HB10 := Lib.hid (HB9.out.trans hb10)
             obtain ⟨A10, c10, rfl, hs10⟩ := sts_own (n := M3.length) (L := M3) (P := P7 ++ P8) (by rw [HM3.out, stepsC_app _ _ HUU.out, List.length_append]; simpa using hown10) rfl (by rw [HM3.out]; exact HUS.out _ (HB12.out.trans (HB10.out.mono HB12.out.size)))
             have HS10 := Lib.hid hs10
             clear hown10 hb10 hs10 tok2 _t))
        refine (sameL A6 A10 M3.length c6 c10 M3 w10 (HS6.out.below (HB12.out.trans (HB10.out.mono HB12.out.size))) HS10.out (by have := HLN.out; have e := congrArg List.length HM3.out; rw [List.length_append] at e; omega) HOU.out).mono ?_
        rintro e w11 ⟨rfl, hb11⟩
        have HBF := Lib.hid ((HB8.out.trans (HB12.out.mono HB8.out.size)).trans ((HB10.out.mono (Nat.le_trans HB8.out.size HB12.out.size)).trans (hb11.mono (Nat.le_trans (Nat.le_trans HB8.out.size HB12.out.size) HB10.out.size))))
        clear hb11
        go_wp2_with (fail)
        go_ret
        exact ⟨rfl, HBF.out⟩
    · as_aux_lemma =>
      have h3 := HP3.out
      rw [if_pos rfl, shiftT, if_neg (by decide : ¬ (10 : Int) = 0)] at h3
      simp only [Prod.mk.injEq] at h3
      obtain ⟨rfl, rfl, rfl⟩ := h3
      clear h1 h2 HC1 HC2 HP3
      go_wp2_with (fail)
      go_ret
      exact ⟨rfl, HB8.out⟩
  · as_aux_lemma =>
    have h3 := HP3.out
    rw [if_neg (by decide : ¬ (10 : Int) = 0)] at h3
    simp only [Prod.mk.injEq] at h3
    obtain ⟨rfl, rfl, rfl⟩ := h3
    rcases HC2.out with ⟨rfl, g1, g2⟩ | ⟨rfl, rfl⟩
    · clear g1 g2 HC1 HC2 HP3
      go_wp2_with (fail)
      go_ret
      exact ⟨rfl, HB8.out⟩
    · clear HC1 HC2 HP3
      go_wp2_with (fail)
      go_ret
      exact ⟨rfl, HB8.out⟩
end Go.Proofs.YtnoppnnpennddaaDoor
