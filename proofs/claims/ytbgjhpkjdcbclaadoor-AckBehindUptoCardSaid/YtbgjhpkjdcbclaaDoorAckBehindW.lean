/- AckBehind, walked. -/
import Derived.Test.YtbgjhpkjdcbclaaDoorAckA
import Derived.Test.YtbgjhpkjdcbclaaDoorBig
import Derived.Test.YtbgjhpkjdcbclaaDoorAckP
import Derived.Test.YtbgjhpkjdcbclaaDoorConv
import Derived.Test.YtbgjhpkjdcbclaaDoorOpenAck
import Derived.Test.YtbgjhpkjdcbclaaDoorHdRow
import Derived.Test.YtbgjhpkjdcbclaaDoorTxt
namespace Go.Proofs.YtbgjhpkjdcbclaaDoor
open Go.RowKit

set_option maxHeartbeats 8000000 in
set_option maxRecDepth 100000 in
theorem ackBuildB (h : Hd) (code : ByteArray) (w : World) (hv : Cds w) (hb : h.sum ≤ 1048576) (hc : code.size ≤ 1000) : Calls Tryd.prog 11 #[h.v, .string code] w (RetBE w (buildD h code)) := by
  have HX0 := Lib.hid (BoxH.new h w)
  have HB0 := Lib.hid (boxHd_below h w)
  have HV0 := Lib.hid (hv.below (boxHd_below h w))
  have HS := Lib.hid hb
  have HC := Lib.hid hc
  have HAS := Lib.hid (ansH_sum h)
  have HA7 := Lib.hid (a7_le h)
  clear hv hb hc
  go_enter Tryd.func11, Tryd.ntmps11
  go_wp2_with (fail)
  generalize w.alloc (.cells #[u8 h.d.a, u8 h.d.b, u8 h.d.c, u8 h.d.d, u8 h.d.e, .string h.a0, .string h.a1, .string h.a2, .string h.a3, .string h.a4, .string h.a5, .string h.a6, .string h.a7, .string h.a8, .string h.a9] TH) = w0 at *
  refine (ackKnown_ code w0 HV0.out).mono ?_
  rintro e w1 ⟨rfl, rfl⟩
  cases hk : codeD code
  · have HE : Hid (buildD h code = ([], 17)) := Lib.hid (by unfold buildD; rw [hk]; rfl)
    go_wp2_with (fail)
    go_ret2
    exact ⟨none, 0, by rw [HE.out]; rfl, by rw [HE.out]; exact Bs.none_ _, HB0.out⟩
  · obtain ⟨c0, c1, c2, c3, c4, c5, c6, c7, c8, c9, c10, c11, c12, c13, c14⟩ := HX0.out.cells
    go_wp2_with (fail)
    clear c0 c1 c2 c3 c4 c5 c6 c7 c8 c9 c10 c11 c12 c13 c14
    refine (headOf_ h w1).mono ?_
    rintro e w2 ⟨rfl, hb2⟩
    have HX2 := Lib.hid (HX0.out.below hb2)
    have HB2 := Lib.hid (HB0.out.trans (hb2.mono HB0.out.size))
    clear hb2 HX0
    go_wp2_with (fail)
    refine (writeB (ansH h) w2 (by rw [← Hd.sum_eq]; have := HAS.out; have := HS.out; omega)).mono ?_
    rintro e w3 ⟨rfl, hb3⟩
    have HX3 := Lib.hid (HX2.out.below hb3)
    have HB3 := Lib.hid (HB2.out.trans (hb3.mono HB2.out.size))
    clear hb3 HX2
    rcases writeH_cases (ansH h) with hw | hw | ⟨hw, hg, hst⟩
    · have HE : Hid (buildD h code = ([], 11)) := Lib.hid (by unfold buildD; rw [if_pos hk, hw]; rfl)
      rw [hw]
      rw [show str (([], (11 : Int)) : List UInt8 × Int).1 = Value.string ⟨#[]⟩ from rfl]
      clear hw hk
      go_wp2_with (fail)
      go_ret2
      exact ⟨none, 0, by rw [HE.out]; rfl, by rw [HE.out]; exact Bs.none_ _, HB3.out⟩
    · have HE : Hid (buildD h code = ([], 10)) := Lib.hid (by unfold buildD; rw [if_pos hk, hw]; rfl)
      rw [hw]
      rw [show str (([], (10 : Int)) : List UInt8 × Int).1 = Value.string ⟨#[]⟩ from rfl]
      clear hw hk
      go_wp2_with (fail)
      go_ret2
      exact ⟨none, 0, by rw [HE.out]; rfl, by rw [HE.out]; exact Bs.none_ _, HB3.out⟩
    · have HE : Hid (buildD h code = (joinD [segH (ansH h), makeD msaB h.d.a [code.data.toList, h.a7.data.toList]], 0)) := Lib.hid (by unfold buildD; rw [if_pos hk, hw]; rfl)
      have HSL : Hid ((segH (ansH h)).length ≤ 1048597) := Lib.hid (by have := segH_len (ansH h); have := HAS.out; have := HS.out; omega)
      rw [hw]
      clear hw hk hg hst
      obtain ⟨c0, c1, c2, c3, c4, c5, c6, c7, c8, c9, c10, c11, c12, c13, c14⟩ := HX3.out.cells
      go_wp2_with (fail)
      clear c0 c1 c2 c3 c4 c5 c6 c7 c8 c9 c10 c11 c12 c13 c14
      have HO4 : Hid (OwnS (w3.alloc (.cells #[.string code, .string h.a7] 9)) w3.heap.size (.slice (some ⟨w3.heap.size, 0, none⟩) 2 2) [code.data.toList, h.a7.data.toList]) := Lib.hid (OwnS.twoH w3 code.data.toList h.a7.data.toList _ (Nat.le_refl _))
      have HB4 : Hid (Below w.heap.size w (w3.alloc (.cells #[.string code, .string h.a7] 9))) := Lib.hid (HB3.out.alloc HB3.out.size _)
      have HT : Hid (Lib.lens [code.data.toList, h.a7.data.toList] ≤ 1050000) := Lib.hid (by rw [lens_two]; have := HC.out; have := HA7.out; have := HS.out; simp; omega)
      generalize w3.alloc (.cells #[.string code, .string h.a7] 9) = w4 at *
      refine (segMakeB h.d msaB _ 2 2 _ w4 HO4.out.ss' (by decide) (by have := HT.out; simp only [List.length_cons, List.length_nil]; omega)).mono ?_
      rintro e w5 ⟨rfl, hb5⟩
      have HB5 := Lib.hid (HB4.out.trans (hb5.mono HB4.out.size))
      have HML : Hid ((makeD msaB h.d.a [code.data.toList, h.a7.data.toList]).length ≤ 1050005) := Lib.hid (by rw [msa_len, ← lens_two]; have := HT.out; omega)
      clear hb5 HO4 HB4 HT
      obtain ⟨M, hM⟩ : ∃ M, M = makeD msaB h.d.a [code.data.toList, h.a7.data.toList] := ⟨_, rfl⟩
      rw [← hM] at HE HML ⊢
      obtain ⟨S, hS⟩ : ∃ S, S = segH (ansH h) := ⟨_, rfl⟩
      rw [← hS] at HE HSL ⊢
      clear hM hS
      go_wp2_with (fail)
      have HO6 : Hid (OwnS (w5.alloc (.cells #[str S, str M] 9)) w5.heap.size (.slice (some ⟨w5.heap.size, 0, none⟩) 2 2) [S, M]) := Lib.hid (OwnS.twoH w5 S M _ (Nat.le_refl _))
      have HB6 : Hid (Below w.heap.size w (w5.alloc (.cells #[str S, str M] 9))) := Lib.hid (HB5.out.alloc HB5.out.size _)
      generalize w5.alloc (.cells #[str S, str M] 9) = w6 at *
      refine (segJoinB _ 2 2 [S, M] w6 HO6.out.ss' (by rw [lens_two]; have := HSL.out; have := HML.out; simp only [List.length_cons, List.length_nil]; omega)).mono ?_
      rintro e w7 ⟨A7, c7, rfl, hB7, hb7⟩
      have HBS := Lib.hid hB7
      have HB7 := Lib.hid (HB6.out.trans (hb7.mono HB6.out.size))
      clear hB7 hb7 HO6
      go_wp2_with (fail)
      go_ret2
      exact ⟨A7, c7, by rw [HE.out]; rfl, by rw [HE.out]; exact HBS.out, HB7.out⟩



theorem joinTail_snoc (s : List UInt8) (T : List (List UInt8)) (x : List UInt8) : Lib.joinTail s (T ++ [x]) = Lib.joinTail s T ++ (s ++ x) := by
  simp [Lib.joinTail]
/-- further fields, and further segments, play no part -/
theorem behind_read {h : Hd} {code : ByteArray} (hk : codeD code = true) (hg : h.d.good = true) (hs : (ansH h).l.all (standD h.d.a) = true) (F : List (List UInt8)) (hF : ∀ f ∈ F, (13 : UInt8) ∉ f) (more : List UInt8) :
    readA (segH (ansH h) ++ 13 :: (makeD msaB h.d.a [code.data.toList, h.a7.data.toList]) ++ Lib.joinTail [h.d.a] F ++ [13] ++ more) = ((code, h.a7), 0) := by
  have hc := good_a hg
  have h13 : (13 : UInt8) ≠ h.d.a := fun e => sign_not13 h.d.a hc e.symm
  have hm : (13 : UInt8) ∉ makeD msaB h.d.a [code.data.toList, h.a7.data.toList] ++ Lib.joinTail [h.d.a] F := by
    intro hm
    rcases List.mem_append.1 hm with hm | hm
    · exact msa_not13 hc _ _ (code_clean hk hc).2.1 (stand_id hs).2 hm
    · clear hs
      induction F with
      | nil => simp [Lib.joinTail] at hm
      | cons f F ih =>
        have e : Lib.joinTail [h.d.a] (f :: F) = [h.d.a] ++ f ++ Lib.joinTail [h.d.a] F := by simp [Lib.joinTail]
        rw [e] at hm
        rcases List.mem_append.1 hm with hm | hm
        · rcases List.mem_append.1 hm with hm | hm
          · exact h13 (List.mem_singleton.1 hm)
          · exact hF f (List.mem_cons_self ..) hm
        · exact ih (fun y hy => hF y (List.mem_cons_of_mem _ hy)) (List.mem_append.2 (.inr hm)) hm
  rw [show segH (ansH h) ++ 13 :: (makeD msaB h.d.a [code.data.toList, h.a7.data.toList]) ++ Lib.joinTail [h.d.a] F ++ [13] ++ more = segH (ansH h) ++ 13 :: ((makeD msaB h.d.a [code.data.toList, h.a7.data.toList] ++ Lib.joinTail [h.d.a] F) ++ 13 :: more) from by simp]
  rw [readA_two (h := ansH h) hg hs, splitD_cons _ _ hm]
  have t := tell_two hc code h.a7 (code_clean hk hc).1 (stand_id hs).1 (segH (ansH h)) (splitD more) (makeD msaB h.d.a [code.data.toList, h.a7.data.toList] ++ Lib.joinTail [h.d.a] F) (by
    cases F with
    | nil => exact .inl (by simp [Lib.joinTail])
    | cons f F => exact .inr ⟨f ++ Lib.joinTail [h.d.a] F, by simp [Lib.joinTail]⟩)
  rw [if_pos hk] at t
  exact t

set_option maxHeartbeats 16000000 in
set_option maxRecDepth 100000 in
theorem ackBehind_walk (h : Hd) (A : Option Addr) (n cp : Nat) (l : List UInt8) (A' : Option Addr) (n' cp' : Nat) (T : List (List UInt8)) (w : World) (hv : Cds w) (hBl : Bs w A n cp l) (_hcp : cp ≤ 140737488351232) (hST : Ss w A' n' cp' T) (ht : Lib.lens (h.l.map (·.data.toList)) ≤ 1048576) (_hb : Lib.lens T + T.length ≤ 1048576) :
    Calls Tryd.prog 7 #[h.v, .slice A n cp, .slice A' n' cp'] w (True_ w) := by
  have HS := Lib.hid (show h.sum ≤ 1048576 by rw [h.sum_eq]; exact ht)
  have hnm := hBl.nmax
  have hnt := hST.nmax
  have HBL0 := Lib.hid hBl
  have HST0 := Lib.hid hST
  have HX0 := Lib.hid (BoxH.new h w)
  have HB0 := Lib.hid (boxHd_below h w)
  have HV := Lib.hid (fun W (hb : Below w.heap.size w W) => hv.below hb)
  clear hv ht hBl hST _hb
  go_enter Tryd.func7, Tryd.ntmps7
  go_wp2_with (with_reducible refine wpList_loadHG w.heap.size h (by kernel_rfl) (by kernel_rfl) HX0.out ?_)
  generalize w.alloc (.cells #[u8 h.d.a, u8 h.d.b, u8 h.d.c, u8 h.d.d, u8 h.d.e, .string h.a0, .string h.a1, .string h.a2, .string h.a3, .string h.a4, .string h.a5, .string h.a6, .string h.a7, .string h.a8, .string h.a9] TH) = w0 at *
  refine (ackBuildB h (cB 2) w0 (HV.out _ HB0.out) HS.out (by decide)).mono ?_
  rintro e w1 ⟨A1, cp1, rfl, hBs, hb1⟩
  have HX1 := Lib.hid (HX0.out.below hb1)
  have HB1 := Lib.hid (HB0.out.trans (hb1.mono HB0.out.size))
  have HBD := Lib.hid (buildD_len h (cB 2))
  clear hb1 HX0 HB0
  rcases buildD_known (h := h) (code := cB 2) (by decide +kernel) with hw | hw | ⟨hw, hg, hst⟩
  · as_aux_lemma =>
    rw [hw]
    clear hw hBs HX1
    go_wp2_with (fail)
    refine (alive10 w1 (HV.out _ HB1.out)).mono ?_
    rintro e w2 ⟨rfl, hbA⟩
    have HBA := Lib.hid (HB1.out.trans (hbA.mono HB1.out.size))
    clear hbA
    go_wp2_with (fail)
    go_ret
    exact ⟨rfl, HBA.out⟩
  · as_aux_lemma =>
    rw [hw]
    clear hw hBs HX1
    go_wp2_with (fail)
    refine (alive10 w1 (HV.out _ HB1.out)).mono ?_
    rintro e w2 ⟨rfl, hbA⟩
    have HBA := Lib.hid (HB1.out.trans (hbA.mono HB1.out.size))
    clear hbA
    go_wp2_with (fail)
    go_ret
    exact ⟨rfl, HBA.out⟩
  · rw [hw] at hBs HBD ⊢
    have HG := Lib.hid (And.intro hg hst)
    obtain ⟨K, hK⟩ : ∃ K, K = segH (ansH h) ++ 13 :: (makeD msaB h.d.a [(cB 2).data.toList, h.a7.data.toList]) := ⟨_, rfl⟩
    have eK : segH (ansH h) ++ 13 :: (makeD msaB h.d.a [(cB 2).data.toList, h.a7.data.toList] ++ [13]) = K ++ [13] := by rw [hK]; simp
    rw [eK] at hBs HBD ⊢
    have HR := Lib.hid (fun F (hF : ∀ f ∈ F, (13 : UInt8) ∉ f) more => behind_read (h := h) (code := cB 2) (by decide +kernel) hg hst F hF more)
    rw [← hK] at HR
    obtain ⟨N, hN⟩ : ∃ N, N = K.length := ⟨_, rfl⟩
    have hlen : (K ++ [13]).length = N + 1 := by rw [List.length_append, hN]; rfl
    rw [hlen] at hBs HBD ⊢
    have HBS1 := Lib.hid hBs
    have HKL : Hid (K.length = N) := Lib.hid hN.symm
    clear hw hg hst hK eK hN hlen hBs
    go_wp2_with (with_reducible refine wpList_loadHG w.heap.size h (by kernel_rfl) (by kernel_rfl) HX1.out ?_)
    refine (great10 h w1 HS.out rfl rfl).mono ?_
    rintro e w2 ⟨rfl, hb2⟩
    have HX2 := Lib.hid (HX1.out.below hb2)
    have HB2 := Lib.hid (HB1.out.trans (hb2.mono HB1.out.size))
    have HBS2 := Lib.hid (HBS1.out.below hb2)
    clear hb2 HX1 HB1 HBS1
    cases hgr : decide (2000 < h.sum)
    · have HSM : Hid (h.sum ≤ 2000) := Lib.hid (by have := of_decide_eq_false hgr; omega)
      have HNN : Hid (N ≤ 4042) := Lib.hid (by have t := HBD.out; have := HSM.out; have h2 : (cB 2).size = 2 := rfl; rw [h2] at t; omega)
      clear hgr HBD
      by_cases hbig : 1000 < n
      · as_aux_lemma =>
        have d1 : decide ((1000 : Int) < (n : Int)) = true := by simp; omega
        clear HX2 HBS2
        go_wp2_with (fail)
        refine (alive10 w2 (HV.out _ HB2.out)).mono ?_
        rintro e w3 ⟨rfl, hbA⟩
        have HBA := Lib.hid (HB2.out.trans (hbA.mono HB2.out.size))
        clear hbA
        go_wp2_with (fail)
        go_ret
        exact ⟨rfl, HBA.out⟩
      have d1 : decide ((1000 : Int) < (n : Int)) = false := by simp; omega
      have HN1 : Hid (n ≤ 1000) := Lib.hid (by omega)
      by_cases hbig2 : 50 < n'
      · as_aux_lemma =>
        have d2 : decide ((50 : Int) < (n' : Int)) = true := by simp; omega
        clear HX2 HBS2
        go_wp2_with (fail)
        refine (alive10 w2 (HV.out _ HB2.out)).mono ?_
        rintro e w3 ⟨rfl, hbA⟩
        have HBA := Lib.hid (HB2.out.trans (hbA.mono HB2.out.size))
        clear hbA
        go_wp2_with (fail)
        go_ret
        exact ⟨rfl, HBA.out⟩
      have d2 : decide ((50 : Int) < (n' : Int)) = false := by simp; omega
      have HN2 : Hid (n' ≤ 50) := Lib.hid (by omega)
      clear hbig hbig2
      obtain ⟨M, hM⟩ : ∃ M, M = N + 1 := ⟨_, rfl⟩
      have HBSM : Hid (Bs w2 A1 M cp1 (K ++ [13])) := Lib.hid (by rw [hM]; exact HBS2.out)
      have HBSK : Hid (Bs w2 A1 N cp1 K) := Lib.hid (by
        have t := HBS2.out.take (j := N) (by omega)
        rwa [List.take_append_of_le_length (by rw [HKL.out]; exact Nat.le_refl _), List.take_of_length_le (by rw [HKL.out]; exact Nat.le_refl _)] at t)
      have HMC : Hid (M ≤ cp1) := Lib.hid HBSM.out.le
      have HMN := Lib.hid hM
      have d3 : ((M : Int) == 0) = false := by simp; omega
      have d4 : wrap64 ((M : Int) - 1) = (N : Int) := by rw [IntWalk.wrap64_in _ (by have := HNN.out; omega)]; omega
      have d5 : (N : Int) ≤ (M : Int) := by omega
      have d6 : (N : Int) ≤ (cp1 : Int) := by have := HMC.out; omega
      have d7 : (0 : Int) ≤ (N : Int) := by omega
      rw [← hM]
      clear hM HBS2
      go_wp2_with (with_reducible refine wpList_strT (dst := some 49) A1 N cp1 K (by kernel_rfl) HBSK.out ?_)
      clear d1 d2 d3 d4 d5 d6 d7
      clear HBSK
      go_loopw [52, 9, 11, 12] (fun i s _ _ wr => ∃ (k : Nat) (Z : List UInt8), k ≤ n' ∧ i = .int .i64 k ∧ s = .string (txt Z) ∧ Hid (Z = K ++ Lib.joinTail [h.d.a] (T.take k)) ∧ Hid (Z.length ≤ N + 201 * k) ∧ Hid (∀ f ∈ T.take k, (13 : UInt8) ∉ f) ∧ Below w2.heap.size w2 wr) (fun i _ _ _ _ => n' - (intOf i).toNat)
      case atStart => exact ⟨0, K, by omega, rfl, rfl, Lib.hid (by simp [Lib.joinTail]), Lib.hid (by have := HKL.out; omega), Lib.hid (by simp), Below.refl _ _⟩
      case round =>
        obtain ⟨wo, rfl⟩ : ∃ wo : World, wo = wr := ⟨_, rfl⟩
        obtain ⟨k, Z, hk, rfl, rfl, HZ, HZL, HF, hbo⟩ := hrel
        have HBO := Lib.hid hbo
        clear hbo
        by_cases hlt : k < n'
        · as_aux_lemma =>
          obtain ⟨b, o, rfl, hbl, hc⟩ := HST0.out.read hlt
          have HCL : Hid (∀ W, Below w2.heap.size w2 W → W.cell? ⟨b, o + k, none⟩ = some (str (T.getD k []))) := Lib.hid (fun W hW => (((HB2.out.trans (hW.mono HB2.out.size)).cell (p := ⟨b, o + k, none⟩) hbl).trans hc))
          obtain ⟨s1, hs1⟩ : ∃ s1 : ByteArray, s1 = txt (T.getD k []) := ⟨_, rfl⟩
          have hs2 : s1.data.toList = T.getD k [] := by rw [hs1]
          have hTk := take_getD T k (by rw [HST0.out.len]; exact hlt)
          rw [← hs2] at hTk
          have HTK := Lib.hid hTk
          have cy := HCL.out wo HBO.out
          rw [show str (T.getD k []) = .string s1 from congrArg Value.string hs1.symm] at cy
          have e1 : (k : Int) < (n' : Int) := by omega
          have e2 : (0 : Int) ≤ (k : Int) := by omega
          have HK := Lib.hid hlt
          obtain ⟨L, hL⟩ : ∃ L, L = s1.size := ⟨_, rfl⟩
          have hL2 : s1.data.toList.length = L := by rw [hL]; simp
          have HL := Lib.hid hL2
          clear hs1 hs2 hTk hc hbl hlt hk HCL HST0
          go_wp2_with (fail)
          clear cy
          rw [← hL]
          have HLS := Lib.hid hL
          clear hL hL2 e1 e2
          go_loopw [58, 12] (fun j _ wr => ∃ q : Nat, q ≤ L ∧ j = .int .i64 q ∧ Hid (∀ c ∈ s1.data.toList.take q, c ≠ 13) ∧ Hid (0 < q → L ≤ 200) ∧ Below w2.heap.size w2 wr) (fun j _ _ => L - (intOf j).toNat)
          case atStart => exact ⟨0, by omega, rfl, Lib.hid (by simp), Lib.hid (fun h0 => absurd h0 (by omega)), HBO.out⟩
          case round =>
            clear HBO
            obtain ⟨wi, rfl⟩ : ∃ wi : World, wi = wr := ⟨_, rfl⟩
            obtain ⟨q, hq, rfl, HALL, HQL, hbi⟩ := hrel
            have HBW := Lib.hid hbi
            have HBI := Lib.hid (HB2.out.trans (hbi.mono HB2.out.size))
            clear hbi
            by_cases hlq : q < L
            · as_aux_lemma =>
              have hqs : q < s1.size := by rw [← HLS.out]; exact hlq
              have ix := fun W => strIdx s1 q hqs q rfl W
              have HQ := Lib.hid hlq
              have d7 : decide ((q : Int) < (L : Int)) = true := by simp; omega
              have w1' : wrap64 ((q : Int) + 1) = (q : Int) + 1 := IntWalk.wrap64_in _ (by have := HQL.out; omega)
              have htk : s1.data.toList.take (q + 1) = s1.data.toList.take q ++ [s1[q]] := by rw [List.take_succ_eq_append_getElem (by simpa using hqs)]; rfl
              obtain ⟨z, hz⟩ : ∃ z, z = s1[q] := ⟨_, rfl⟩
              rw [← hz] at htk
              have ix2 : ∀ W, (Instr.index 9 (.string s1) (.int .i64 (q : Int))).run Tryd.prog W = .ok (u8 z) W := fun W => by rw [ix W, hz]
              have HTK2 := Lib.hid htk
              clear htk hz ix hqs
              by_cases hz13 : z = 13
              · as_aux_lemma =>
                have k2 : (((z.toNat : Nat) : Int) == 13) = true := by rw [hz13]; rfl
                clear hz13 hlq hq
                go_wp2_with (fail)
                refine (alive10 wi (HV.out _ HBI.out)).mono ?_
                rintro e w3 ⟨rfl, hbA⟩
                have HBA := Lib.hid (HBI.out.trans (hbA.mono HBI.out.size))
                clear hbA
                go_wp2_with (fail)
                go_ret
                exact ⟨rfl, HBA.out⟩
              · have k2 : (((z.toNat : Nat) : Int) == 13) = false := by
                  rw [beq_eq_false_iff_ne]; intro e; exact hz13 (UInt8.toNat_inj.1 (by show z.toNat = 13; omega))
                by_cases h200 : 200 < L
                · as_aux_lemma =>
                  have d8 : decide ((200 : Int) < (s1.size : Int)) = true := by rw [← HLS.out]; simp; omega
                  clear hz13 hlq hq h200
                  go_wp2_with (fail)
                  refine (alive10 wi (HV.out _ HBI.out)).mono ?_
                  rintro e w3 ⟨rfl, hbA⟩
                  have HBA := Lib.hid (HBI.out.trans (hbA.mono HBI.out.size))
                  clear hbA
                  go_wp2_with (fail)
                  go_ret
                  exact ⟨rfl, HBA.out⟩
                · as_aux_lemma =>
                  have d8 : decide ((200 : Int) < (s1.size : Int)) = false := by rw [← HLS.out]; simp; omega
                  have HNX : Hid (∀ c ∈ s1.data.toList.take (q + 1), c ≠ 13) := Lib.hid (fun c hc => by
                    rw [HTK2.out] at hc
                    rcases List.mem_append.1 hc with hc | hc
                    · exact HALL.out c hc
                    · rw [List.mem_singleton.1 hc]; exact hz13)
                  have HL2 : Hid (0 < q + 1 → L ≤ 200) := Lib.hid (fun _ => by omega)
                  clear hz13 hlq hq h200
                  go_wp2_with (fail)
                  try rw [w1']
                  exact ⟨⟨q + 1, HQ.out, by go_num, HNX, HL2, HBW.out⟩, by have := HQ.out; simp [intOf]; omega⟩
            · as_aux_lemma =>
              obtain rfl : q = L := by omega
              have d7 : decide ((q : Int) < (q : Int)) = false := by simp
              have HNO : Hid ((13 : UInt8) ∉ s1.data.toList) := Lib.hid (fun hm => by
                have t := HALL.out 13 (by rw [List.take_of_length_le (by rw [HL.out]; exact Nat.le_refl _)]; exact hm)
                exact t rfl)
              have HLQ : Hid (q ≤ 200) := Lib.hid (by
                rcases Nat.eq_zero_or_pos q with h0 | h0
                · omega
                · exact HQL.out h0)
              clear hlq hq HALL HQL
              have HXI := Lib.hid (HX2.out.below HBW.out)
              have c0 := HXI.out.cells.1
              obtain ⟨ca, hca⟩ : ∃ ca, ca = h.d.a := ⟨_, rfl⟩
              have HCA := Lib.hid hca
              rw [← hca] at c0
              have HBS : Hid (Bs (wi.alloc (.cells #[u8 ca] 5)) (some ⟨wi.heap.size, 0, none⟩) 1 1 [ca]) := Lib.hid (Bs.lit (n := 1) wi [ca] 5 #[u8 ca] wi.heap.size rfl rfl rfl (by simp [maxLen]))
              have HBA0 : Hid (Below w2.heap.size w2 (wi.alloc (.cells #[u8 ca] 5))) := Lib.hid (HBW.out.alloc HBW.out.size _)
              obtain ⟨Z1, hZ1⟩ : ∃ Z1, Z1 = [ca] ++ s1.data.toList := ⟨_, rfl⟩
              obtain ⟨Z2, hZ2⟩ : ∃ Z2, Z2 = Z ++ Z1 := ⟨_, rfl⟩
              have HZ1 := Lib.hid (Lib.hid hZ1)
              have HZ2 := Lib.hid (Lib.hid hZ2)
              have HZ1L : Hid (Z1.length = 1 + q) := Lib.hid (by rw [hZ1, List.length_append, HL.out]; rfl)
              have HZ2L : Hid (Z2.length = Z.length + (1 + q)) := Lib.hid (by rw [hZ2, List.length_append, HZ1L.out])
              have HZN : Hid (Hid (Z2 = K ++ Lib.joinTail [h.d.a] (T.take (k + 1)))) := Lib.hid (Lib.hid (by rw [hZ2, hZ1, HZ.out, HTK.out, joinTail_snoc, hca, List.append_assoc]))
              have HFN : Hid (Hid (∀ f ∈ T.take (k + 1), (13 : UInt8) ∉ f)) := Lib.hid (Lib.hid (fun f hf => by
                rw [HTK.out] at hf
                rcases List.mem_append.1 hf with hf | hf
                · exact HF.out f hf
                · rw [List.mem_singleton.1 hf]; exact HNO.out))
              have w2' : wrap64 ((k : Int) + 1) = (k : Int) + 1 := IntWalk.wrap64_in _ (by have := HK.out; have := HN2.out; omega)
              clear hZ1 hZ2 hca
              go_wp2_with (first | (with_reducible refine wpList_strT (dst := some 77) (some ⟨wi.heap.size, 0, none⟩) 1 1 [ca] (by kernel_rfl) HBS.out ?_) | (with_reducible refine wpList_addT (dst := some 79) [ca] s1.data.toList Z1 HZ1.out (by kernel_rfl) (by kernel_rfl) (by have := HZ1L.out; have := HLQ.out; omega) ?_) | (with_reducible refine wpList_addT (dst := some 80) Z Z1 Z2 HZ2.out (by kernel_rfl) (by kernel_rfl) (by have := HZ2L.out; have := HLQ.out; have := HZL.out; have := HNN.out; have := HK.out; have := HN2.out; omega) ?_))
              try rw [w2']
              exact ⟨⟨k + 1, Z2, HK.out, by go_num, rfl, HZN.out, Lib.hid (by have := HZ2L.out; have := HLQ.out; have := HZL.out; omega), HFN.out, HBA0.out⟩, by have := HK.out; simp [intOf]; omega⟩
        · as_aux_lemma =>
          obtain rfl : k = n' := by omega
          have HFA : Hid (∀ f ∈ T, (13 : UInt8) ∉ f) := Lib.hid (by have t := HF.out; rwa [List.take_of_length_le (by rw [HST0.out.len]; exact Nat.le_refl _)] at t)
          have HR1 : Hid (readA (K ++ [13]) = ((cB 2, h.a7), 0)) := Lib.hid (by have t := HR.out [] (by simp) []; simpa [Lib.joinTail] using t)
          have HR2 : Hid (readA (Z ++ [13] ++ l) = ((cB 2, h.a7), 0)) := Lib.hid (by have t := HR.out T HFA.out l; rw [HZ.out, List.take_of_length_le (by rw [HST0.out.len]; exact Nat.le_refl _)]; exact t)
          have HBW := Lib.hid (HB2.out.trans (HBO.out.mono HB2.out.size))
          have HBSO := Lib.hid (HBSM.out.below HBO.out)
          have HBLO := Lib.hid (HBL0.out.below HBW.out)
          have e3 : ¬ (k : Int) < (k : Int) := by omega
          obtain ⟨id, hid⟩ : ∃ id, id = h.a7 := ⟨_, rfl⟩
          obtain ⟨cd, hcd⟩ : ∃ cd, cd = cB 2 := ⟨_, rfl⟩
          rw [← hid, ← hcd] at HR1 HR2
          clear hid hcd hlt hk HF HZ HBO HBSM HBL0 HR HST0 HX2
          go_wp2_with (fail)
          refine (ackRead A1 M cp1 (K ++ [13]) wo (HV.out _ HBW.out) HBSO.out (by have := HMN.out; have := HNN.out; omega)).mono ?_
          rw [HR1.out]
          rintro e w4 ⟨rfl, hb4⟩
          have HXA : Hid (BoxA cd id w4.heap.size (w4.alloc (.cells #[.string cd, .string id] 39))) := Lib.hid (heap_alloc_new w4 _)
          have hb5 := hb4.alloc hb4.size (.cells #[.string cd, .string id] 39)
          have HB5 : Hid (Below w.heap.size w (w4.alloc (.cells #[.string cd, .string id] 39))) := Lib.hid (HBW.out.trans (hb5.mono HBW.out.size))
          have HBL5 := Lib.hid (HBLO.out.below hb5)
          clear hb4 hb5 HBSO HBLO HBW
          obtain ⟨Z3, hZ3⟩ : ∃ Z3, Z3 = Z ++ [13] := ⟨_, rfl⟩
          obtain ⟨N3, hN3⟩ : ∃ N3, N3 = Z3.length := ⟨_, rfl⟩
          have HZ3 := Lib.hid (Lib.hid hZ3)
          have HN3 : Hid (Z3.length = N3) := Lib.hid hN3.symm
          have HNB : Hid (N3 ≤ 20000) := Lib.hid (by rw [hN3, hZ3, List.length_append]; have := HZL.out; have := HNN.out; have := HN2.out; simp only [List.length_cons, List.length_nil]; omega)
          rw [← hZ3] at HR2
          clear hZ3 hN3
          have tok1 : Hid True := Lib.hid trivial
          have tok2 : Hid True := Lib.hid trivial
          go_wp2_with (first | (with_reducible refine wpList_addT (dst := some 89) Z [13] Z3 HZ3.out (by kernel_rfl) (by kernel_rfl) (by have := HN3.out; have := HNB.out; omega) ?_) | (have _t := tok1; with_reducible refine wpList_convT Z3 N3 (w4.heap.size + 1) (by kernel_rfl) HN3.out (by have := HNB.out; simp only [maxLen]; omega) (World.size_alloc _ _) ?_; intro cap5 W5 HC5 hbv5; have HBV5 := Lib.hid hbv5; have HBL6 := Lib.hid (HBL5.out.below hbv5); have HGE : Hid (w4.heap.size + 1 ≤ W5.heap.size) := Lib.hid (by have t := hbv5.size; rw [World.size_alloc] at t; exact t); clear tok1 _t hbv5) | (at_builtin; have _t := tok2; go_loud ((refine wpList_appC rfl (.tmp 90) (.tmp 91) 28 rfl 5 Tryd.underlying28 byteInfo rfl HC5.out rfl HBL6.out HGE.out (by have := HNB.out; have := HN1.out; omega) ?_; intro B6 c6 w6 hB6 hb6; have HB6 := Lib.hid hB6; have HBV6 := Lib.hid hb6; clear tok2 hB6 hb6 _t))))
          have hb56 : Below (w4.heap.size + 1) (w4.alloc (.cells #[.string cd, .string id] 39)) w6 := by
            have t := HBV5.out
            rw [World.size_alloc] at t
            exact t.trans HBV6.out
          have HBB6 : Hid (Below w.heap.size w w6) := Lib.hid (HB5.out.trans (hb56.mono (by have t := HB5.out.size; rw [World.size_alloc] at t; exact t)))
          have HXA6 : Hid (BoxA cd id w4.heap.size w6) := Lib.hid (HXA.out.below (hb56.mono (by rw [World.size_alloc]; exact Nat.le_refl _)))
          clear hb56 HBV5 HBV6 HC5 HBL6 HBL5 HXA HB5 HGE
          refine (ackRead B6 (N3 + n) c6 (Z3 ++ l) w6 (HV.out _ HBB6.out) HB6.out (by have := HNB.out; have := HN1.out; omega)).mono ?_
          rw [HR2.out]
          rintro e w7 ⟨rfl, hb7⟩
          have HXA7 := Lib.hid (HXA6.out.below hb7)
          have HB7 := Lib.hid (HBB6.out.trans (hb7.mono HBB6.out.size))
          have HXC : Hid (BoxA cd id w7.heap.size (w7.alloc (.cells #[.string cd, .string id] 39))) := Lib.hid (heap_alloc_new w7 _)
          have HXA8 : Hid (BoxA cd id w4.heap.size (w7.alloc (.cells #[.string cd, .string id] 39))) := Lib.hid (HXA7.out.below ((Below.refl _ _).alloc (Nat.le_refl _) _))
          have HB8 : Hid (Below w.heap.size w (w7.alloc (.cells #[.string cd, .string id] 39))) := Lib.hid (HB7.out.alloc HB7.out.size _)
          clear hb7 HB6 HXA6 HXA7 HBB6 HB7
          go_wp2_with (fail)
          obtain ⟨G7, hG7⟩ : ∃ y, y = w7.heap.size := ⟨_, rfl⟩
          rw [← hG7] at HXC ⊢
          clear hG7
          obtain ⟨G4, hG4⟩ : ∃ y, y = w4.heap.size := ⟨_, rfl⟩
          rw [← hG4] at HXA8 ⊢
          clear hG4
          generalize w7.alloc (.cells #[.string cd, .string id] 39) = w8 at *
          refine (alive10 w8 (HV.out _ HB8.out)).mono ?_
          rintro e w9 ⟨rfl, hbA⟩
          have HBA := Lib.hid (HB8.out.trans (hbA.mono HB8.out.size))
          have HX9 := Lib.hid (HXA8.out.below hbA)
          have HY9 := Lib.hid (HXC.out.below hbA)
          clear hbA HXA8 HXC HB8
          obtain ⟨c0, c1⟩ := HX9.out.cells
          obtain ⟨q0, q1⟩ := HY9.out.cells
          have heq := fun W => ack_self cd id W
          go_wp2_with (fail)
          go_ret
          exact ⟨rfl, HBA.out⟩
    · as_aux_lemma =>
      clear hgr HX2 HBS2
      go_wp2_with (fail)
      refine (alive10 w2 (HV.out _ HB2.out)).mono ?_
      rintro e w3 ⟨rfl, hbA⟩
      have HBA := Lib.hid (HB2.out.trans (hbA.mono HB2.out.size))
      clear hbA
      go_wp2_with (fail)
      go_ret
      exact ⟨rfl, HBA.out⟩
end Go.Proofs.YtbgjhpkjdcbclaaDoor
