/- AckForms, walked. -/
import Derived.Test.YtbgjhpkjdcbclaaDoorAckA
import Derived.Test.YtbgjhpkjdcbclaaDoorBig
import Derived.Test.YtbgjhpkjdcbclaaDoorConv
import Derived.Test.YtbgjhpkjdcbclaaDoorOpenAck
import Derived.Test.YtbgjhpkjdcbclaaDoorHdRow
import Derived.Test.YtbgjhpkjdcbclaaDoorTxt
namespace Go.Proofs.YtbgjhpkjdcbclaaDoor
open Go.RowKit

abbrev msbB : ByteArray := ⟨#[77, 83, 66]⟩
theorem forms_none {h : Hd} (hg : h.d.good = true) (hs : h.l.all (standD h.d.a) = true) : readA (segH h ++ [13]) = ((⟨#[]⟩, ⟨#[]⟩), 10) := by
  rw [show segH h ++ [13] = segH h ++ 13 :: [] from rfl, readA_two hg hs]
  exact tellD_none _ _
theorem forms_other {h : Hd} (hg : h.d.good = true) (hs : h.l.all (standD h.d.a) = true) : readA (segH h ++ [13, 77, 83, 66] ++ [h.d.a] ++ [65, 65] ++ [h.d.a] ++ [49, 13]) = ((⟨#[]⟩, ⟨#[]⟩), 10) := by
  have hc := good_a hg
  have h13 : (13 : UInt8) ≠ h.d.a := fun e => sign_not13 h.d.a hc e.symm
  have e : segH h ++ [13, 77, 83, 66] ++ [h.d.a] ++ [65, 65] ++ [h.d.a] ++ [49, 13] = segH h ++ 13 :: ([77, 83, 66, h.d.a, 65, 65, h.d.a, 49] ++ 13 :: []) := by simp
  rw [e, readA_two hg hs, splitD_cons _ _ (by simp; exact h13)]
  refine tell_other _ _ _ _ ?_
  rw [show ([77, 83, 66, h.d.a, 65, 65, h.d.a, 49] : List UInt8) = msbB.data.toList ++ [h.d.a, 65, 65, h.d.a, 49] from rfl, nameS_of msbB _ rfl]
  decide
theorem forms_code {h : Hd} {code : ByteArray} (hg : h.d.good = true) (hs : h.l.all (standD h.d.a) = true) (hcl : ∀ c ∈ code.data.toList, c ≠ 13 ∧ c ≠ h.d.a) : readA (segH h ++ [13, 77, 83, 65] ++ [h.d.a] ++ code.data.toList ++ [h.d.a] ++ [49, 13]) = if codeD code = true then ((code, ⟨#[49]⟩), 0) else ((⟨#[]⟩, ⟨#[]⟩), 17) := by
  have hc := good_a hg
  have e : segH h ++ [13, 77, 83, 65] ++ [h.d.a] ++ code.data.toList ++ [h.d.a] ++ [49, 13] = segH h ++ 13 :: (makeD msaB h.d.a [code.data.toList, (ByteArray.mk #[49]).data.toList] ++ 13 :: []) := by rw [makeD_two]; simp [Lib.joinTail]
  rw [e, readA_two hg hs, splitD_cons _ _ (msa_not13 hc _ _ (fun hm => (hcl _ hm).1 rfl) (by decide))]
  refine tell_two hc code ⟨#[49]⟩ (fun hm => (hcl _ hm).2 rfl) (fun hm => ?_) _ _ _ (.inl rfl)
  have := List.mem_singleton.1 hm
  exact sign_no_letter hc 49 (by decide) this

set_option maxHeartbeats 16000000 in
set_option maxRecDepth 100000 in
theorem ackForms_walk (h : Hd) (code : ByteArray) (w : World) (hv : Cds w) (_hr : code.size ≤ maxLen) (ht : Lib.lens (h.l.map (·.data.toList)) ≤ 1048576) (_hc : code.size ≤ 1048576) :
    Calls Tryd.prog 8 #[h.v, .string code] w (True_ w) := by
  have HT := Lib.hid ht
  have HS := Lib.hid (show h.sum ≤ 1048576 by rw [h.sum_eq]; exact ht)
  have HX0 := Lib.hid (BoxH.new h w)
  have HB0 := Lib.hid (boxHd_below h w)
  have HV := Lib.hid (fun W (hb : Below w.heap.size w W) => hv.below hb)
  have HE := Lib.hid (writeH_cases h)
  have HSL := Lib.hid (segH_len h)
  clear hv ht _hc _hr
  go_enter Tryd.func8, Tryd.ntmps8
  go_wp2_with (with_reducible refine wpList_loadHG w.heap.size h (by kernel_rfl) (by kernel_rfl) HX0.out ?_)
  generalize w.alloc (.cells #[u8 h.d.a, u8 h.d.b, u8 h.d.c, u8 h.d.d, u8 h.d.e, .string h.a0, .string h.a1, .string h.a2, .string h.a3, .string h.a4, .string h.a5, .string h.a6, .string h.a7, .string h.a8, .string h.a9] TH) = w0 at *
  refine (writeB h w0 (by have := HT.out; omega)).mono ?_
  rintro e w1 ⟨rfl, hb1⟩
  have HX1 := Lib.hid (HX0.out.below hb1)
  have HB1 := Lib.hid (HB0.out.trans (hb1.mono HB0.out.size))
  clear hb1 HX0 HB0
  rcases HE.out with hw | hw | ⟨hw, hg, hst⟩
  · as_aux_lemma =>
    rw [hw]
    clear hw HX1 HE
    go_wp2_with (fail)
    refine (alive10 w1 (HV.out _ HB1.out)).mono ?_
    rintro e w2 ⟨rfl, hbA⟩
    have HBA := Lib.hid (HB1.out.trans (hbA.mono HB1.out.size))
    clear hbA
    go_wp2_with (fail)
    go_ret
    exact ⟨rfl, HBA.out⟩
  · as_aux_lemma =>
    rw [hw]
    clear hw HX1 HE
    go_wp2_with (fail)
    refine (alive10 w1 (HV.out _ HB1.out)).mono ?_
    rintro e w2 ⟨rfl, hbA⟩
    have HBA := Lib.hid (HB1.out.trans (hbA.mono HB1.out.size))
    clear hbA
    go_wp2_with (fail)
    go_ret
    exact ⟨rfl, HBA.out⟩
  · have HG := Lib.hid (And.intro hg hst)
    rw [hw]
    clear hw hg hst HE
    obtain ⟨S, hS⟩ : ∃ S, S = segH h := ⟨_, rfl⟩
    have HSE := Lib.hid hS
    rw [← hS] at HSL ⊢
    clear hS
    go_wp2_with (with_reducible refine wpList_loadHG w.heap.size h (by kernel_rfl) (by kernel_rfl) HX1.out ?_)
    refine (great10 h w1 HS.out rfl rfl).mono ?_
    rintro e w2 ⟨rfl, hb2⟩
    have HX2 := Lib.hid (HX1.out.below hb2)
    have HB2 := Lib.hid (HB1.out.trans (hb2.mono HB1.out.size))
    clear hb2 HX1 HB1
    cases hgr : decide (2000 < h.sum)
    · have HSM : Hid (h.sum ≤ 2000) := Lib.hid (by have := of_decide_eq_false hgr; omega)
      clear hgr
      by_cases hbig : 100 < code.size
      · as_aux_lemma =>
        have d1 : decide ((100 : Int) < (code.size : Int)) = true := by simp; omega
        clear HX2
        go_wp2_with (fail)
        refine (alive10 w2 (HV.out _ HB2.out)).mono ?_
        rintro e w3 ⟨rfl, hbA⟩
        have HBA := Lib.hid (HB2.out.trans (hbA.mono HB2.out.size))
        clear hbA
        go_wp2_with (fail)
        go_ret
        exact ⟨rfl, HBA.out⟩
      have d1 : decide ((100 : Int) < (code.size : Int)) = false := by simp; omega
      have HCS : Hid (code.size ≤ 100) := Lib.hid (by omega)
      have HCN : Hid (code.data.toList.length = code.size) := Lib.hid (by simp)
      clear hbig
      go_wp2_with (fail)
      clear d1
      go_loopw [34, 7] (fun i _ wr => ∃ q : Nat, q ≤ code.size ∧ i = .int .i64 q ∧ (∀ c ∈ code.data.toList.take q, c ≠ 13 ∧ c ≠ h.d.a) ∧ Below w2.heap.size w2 wr) (fun i _ _ => code.size - (intOf i).toNat)
      case atStart => exact ⟨0, by omega, rfl, by simp, Below.refl _ _⟩
      case round =>
        obtain ⟨wi, rfl⟩ : ∃ wi : World, wi = wr := ⟨_, rfl⟩
        obtain ⟨q, hq, rfl, hall, hbi⟩ := hrel
        have HALL := Lib.hid hall
        have HBI := Lib.hid (HB2.out.trans (hbi.mono HB2.out.size))
        have HBW := Lib.hid hbi
        have HXI := Lib.hid (HX2.out.below hbi)
        clear hall hbi
        have c0 := HXI.out.cells.1
        by_cases hlq : q < code.size
        · as_aux_lemma =>
          have ix := fun W => strIdx code q hlq q rfl W
          have HQ := Lib.hid hlq
          have d7 : decide ((q : Int) < (code.size : Int)) = true := by simp; omega
          have w1' : wrap64 ((q : Int) + 1) = (q : Int) + 1 := IntWalk.wrap64_in _ (by have := HCS.out; omega)
          have htk : code.data.toList.take (q + 1) = code.data.toList.take q ++ [code[q]] := by rw [List.take_succ_eq_append_getElem (by simpa using hlq)]; rfl
          obtain ⟨z, hz⟩ : ∃ z, z = code[q] := ⟨_, rfl⟩
          rw [← hz] at htk
          have ix2 : ∀ W, (Instr.index 9 (.string code) (.int .i64 (q : Int))).run Tryd.prog W = .ok (u8 z) W := fun W => by rw [ix W, hz]; rfl
          have HTK := Lib.hid htk
          clear htk hz ix HXI HX2 HSL HSM HG HSE HS HT
          by_cases hz13 : z = 13
          · as_aux_lemma =>
            have k2 : (((z.toNat : Nat) : Int) == 13) = true := by rw [hz13]; rfl
            clear hz13
            go_wp2_with (fail)
            go_quiet (fail)
            have HBN := Lib.hid (drawN_below HBI.out nq)
            go_wp2_with (fail)
            generalize wi.drewN nq = wn at *
            refine (alive10 wn (HV.out _ HBN.out)).mono ?_
            rintro e w3 ⟨rfl, hbA⟩
            have HBA := Lib.hid (HBN.out.trans (hbA.mono HBN.out.size))
            clear hbA
            go_wp2_with (fail)
            go_ret
            exact ⟨rfl, HBA.out⟩
          · have k2 : (((z.toNat : Nat) : Int) == 13) = false := by
              rw [beq_eq_false_iff_ne]; intro e; exact hz13 (UInt8.toNat_inj.1 (by show z.toNat = 13; omega))
            by_cases hza : z = h.d.a
            · as_aux_lemma =>
              have k1 : (((z.toNat : Nat) : Int) == ((h.d.a.toNat : Nat) : Int)) = true := by rw [hza]; simp
              clear hz13 hza
              go_wp2_with (fail)
              go_quiet (fail)
              have HBN := Lib.hid (drawN_below HBI.out nq)
              go_wp2_with (fail)
              generalize wi.drewN nq = wn at *
              refine (alive10 wn (HV.out _ HBN.out)).mono ?_
              rintro e w3 ⟨rfl, hbA⟩
              have HBA := Lib.hid (HBN.out.trans (hbA.mono HBN.out.size))
              clear hbA
              go_wp2_with (fail)
              go_ret
              exact ⟨rfl, HBA.out⟩
            · as_aux_lemma =>
              have k1 : (((z.toNat : Nat) : Int) == ((h.d.a.toNat : Nat) : Int)) = false := by
                rw [beq_eq_false_iff_ne]; intro e; exact hza (UInt8.toNat_inj.1 (by omega))
              have HNX : Hid (∀ c ∈ code.data.toList.take (q + 1), c ≠ 13 ∧ c ≠ h.d.a) := Lib.hid (fun c hc => by
                rw [HTK.out] at hc
                rcases List.mem_append.1 hc with hc | hc
                · exact HALL.out c hc
                · rw [List.mem_singleton.1 hc]; exact ⟨hz13, hza⟩)
              clear hz13 hza
              go_wp2_with (fail)
              go_quiet (fail)
              have HBN := Lib.hid (drawN_below HBW.out nq)
              go_wp2_with (fail)
              rw [w1']
              exact ⟨⟨q + 1, HQ.out, by go_num, HNX.out, HBN.out⟩, by have := HQ.out; simp [intOf]; omega⟩
        · as_aux_lemma =>
          obtain rfl : q = code.size := by omega
          have HCL : Hid (∀ c ∈ code.data.toList, c ≠ 13 ∧ c ≠ h.d.a) := Lib.hid (by have t := HALL.out; rwa [List.take_of_length_le (by simp)] at t)
          have d7 : decide ((code.size : Int) < (code.size : Int)) = false := by simp
          clear hlq hq HALL HX2 HBW HB2 HXI
          obtain ⟨N, hN⟩ : ∃ N, S.length = N := ⟨_, rfl⟩
          have HNN : Hid (N ≤ 2018) := Lib.hid (by have := HSL.out; have := HSM.out; omega)
          have HL := Lib.hid hN
          have HF1 := Lib.hid (forms_none HG.out.1 HG.out.2)
          have HF2 := Lib.hid (forms_other HG.out.1 HG.out.2)
          have HF3 := Lib.hid (forms_code HG.out.1 HG.out.2 HCL.out)
          rw [← HSE.out] at HF1 HF2 HF3
          clear hN HSE HG HSL HSM HS HT HCL
          obtain ⟨ca, hca⟩ : ∃ ca, ca = h.d.a := ⟨_, rfl⟩
          rw [← hca] at HF2 HF3 c0
          have HBS : Hid (Bs (wi.alloc (.cells #[u8 ca] 5)) (some ⟨wi.heap.size, 0, none⟩) 1 1 [ca]) := Lib.hid (Bs.lit (n := 1) wi [ca] 5 #[u8 ca] wi.heap.size rfl rfl rfl (by simp [maxLen]))
          have HBA0 : Hid (Below w.heap.size w (wi.alloc (.cells #[u8 ca] 5))) := Lib.hid (HBI.out.alloc HBI.out.size _)
          clear hca
          obtain ⟨Z1, hZ1⟩ : ∃ Z, Z = S ++ [13] := ⟨_, rfl⟩
          have HZ1 := Lib.hid (Lib.hid hZ1)
          have HZ1L : Hid (Z1.length = N + 1) := Lib.hid (by rw [hZ1, List.length_append]; rw [HL.out]; simp only [List.length_cons, List.length_nil])
          clear hZ1
          obtain ⟨Z2, hZ2⟩ : ∃ Z, Z = S ++ [13, 77, 83, 66] := ⟨_, rfl⟩
          have HZ2 := Lib.hid (Lib.hid hZ2)
          have HZ2L : Hid (Z2.length = N + 4) := Lib.hid (by rw [hZ2, List.length_append]; rw [HL.out]; simp only [List.length_cons, List.length_nil])
          clear hZ2
          obtain ⟨Z3, hZ3⟩ : ∃ Z, Z = Z2 ++ [ca] := ⟨_, rfl⟩
          have HZ3 := Lib.hid (Lib.hid hZ3)
          have HZ3L : Hid (Z3.length = N + 4 + 1) := Lib.hid (by rw [hZ3, List.length_append]; rw [HZ2L.out]; simp only [List.length_cons, List.length_nil])
          clear hZ3
          obtain ⟨Z4, hZ4⟩ : ∃ Z, Z = Z3 ++ [65, 65] := ⟨_, rfl⟩
          have HZ4 := Lib.hid (Lib.hid hZ4)
          have HZ4L : Hid (Z4.length = N + 4 + 1 + 2) := Lib.hid (by rw [hZ4, List.length_append]; rw [HZ3L.out]; simp only [List.length_cons, List.length_nil])
          clear hZ4
          obtain ⟨Z5, hZ5⟩ : ∃ Z, Z = Z4 ++ [ca] := ⟨_, rfl⟩
          have HZ5 := Lib.hid (Lib.hid hZ5)
          have HZ5L : Hid (Z5.length = N + 4 + 1 + 2 + 1) := Lib.hid (by rw [hZ5, List.length_append]; rw [HZ4L.out]; simp only [List.length_cons, List.length_nil])
          clear hZ5
          obtain ⟨Z6, hZ6⟩ : ∃ Z, Z = Z5 ++ [49, 13] := ⟨_, rfl⟩
          have HZ6 := Lib.hid (Lib.hid hZ6)
          have HZ6L : Hid (Z6.length = N + 4 + 1 + 2 + 1 + 2) := Lib.hid (by rw [hZ6, List.length_append]; rw [HZ5L.out]; simp only [List.length_cons, List.length_nil])
          clear hZ6
          obtain ⟨Y2, hY2⟩ : ∃ Z, Z = S ++ [13, 77, 83, 65] := ⟨_, rfl⟩
          have HY2 := Lib.hid (Lib.hid hY2)
          have HY2L : Hid (Y2.length = N + 4) := Lib.hid (by rw [hY2, List.length_append]; rw [HL.out]; simp only [List.length_cons, List.length_nil])
          clear hY2
          obtain ⟨Y3, hY3⟩ : ∃ Z, Z = Y2 ++ [ca] := ⟨_, rfl⟩
          have HY3 := Lib.hid (Lib.hid hY3)
          have HY3L : Hid (Y3.length = N + 4 + 1) := Lib.hid (by rw [hY3, List.length_append]; rw [HY2L.out]; simp only [List.length_cons, List.length_nil])
          clear hY3
          obtain ⟨Y4, hY4⟩ : ∃ Z, Z = Y3 ++ code.data.toList := ⟨_, rfl⟩
          have HY4 := Lib.hid (Lib.hid hY4)
          have HY4L : Hid (Y4.length = N + 4 + 1 + code.size) := Lib.hid (by rw [hY4, List.length_append, HCN.out, HY3L.out])
          clear hY4
          obtain ⟨Y5, hY5⟩ : ∃ Z, Z = Y4 ++ [ca] := ⟨_, rfl⟩
          have HY5 := Lib.hid (Lib.hid hY5)
          have HY5L : Hid (Y5.length = N + 4 + 1 + code.size + 1) := Lib.hid (by rw [hY5, List.length_append]; rw [HY4L.out]; simp only [List.length_cons, List.length_nil])
          clear hY5
          obtain ⟨Y6, hY6⟩ : ∃ Z, Z = Y5 ++ [49, 13] := ⟨_, rfl⟩
          have HY6 := Lib.hid (Lib.hid hY6)
          have HY6L : Hid (Y6.length = N + 4 + 1 + code.size + 1 + 2) := Lib.hid (by rw [hY6, List.length_append]; rw [HY5L.out]; simp only [List.length_cons, List.length_nil])
          clear hY6
          rw [← HZ1.out.out] at HF1
          rw [← HZ2.out.out, ← HZ3.out.out, ← HZ4.out.out, ← HZ5.out.out, ← HZ6.out.out] at HF2
          rw [← HY2.out.out, ← HY3.out.out, ← HY4.out.out, ← HY5.out.out, ← HY6.out.out] at HF3
          have tok1 : Hid True := Lib.hid trivial
          go_wp2_with (first | (with_reducible refine wpList_strT (some ⟨wi.heap.size, 0, none⟩) 1 1 [ca] (by kernel_rfl) HBS.out ?_) | (with_reducible refine wpList_addT (dst := some 59) S [13] Z1 HZ1.out (by kernel_rfl) (by kernel_rfl) (by have := HZ1L.out; have := HNN.out; have := HCS.out; omega) ?_) | (have _t := tok1; with_reducible refine wpList_convT Z1 (N + 1) (wi.heap.size + 1) (by kernel_rfl) HZ1L.out (by have := HNN.out; simp only [maxLen]; omega) (World.size_alloc _ _) ?_; intro cap1 W1 HC1 hbv1; clear tok1 _t))
          clear c0 d7
          have HBW1 := Lib.hid (HBA0.out.trans (hbv1.mono HBA0.out.size))
          clear hbv1
          refine (ackRead _ (N + 1) cap1 Z1 W1 (HV.out _ HBW1.out) HC1.out.bs (by have := HNN.out; have := HCS.out; omega)).mono ?_
          rw [HF1.out]
          rintro e wr1 ⟨rfl, hbr⟩
          have HBR1 : Hid (Below w.heap.size w (wr1.alloc (.cells #[.string ⟨#[]⟩, .string ⟨#[]⟩] 39))) := Lib.hid ((HBW1.out.trans (hbr.mono HBW1.out.size)).alloc (HBW1.out.trans (hbr.mono HBW1.out.size)).size _)
          clear hbr HC1 HBW1 HBA0
          have tok2 : Hid True := Lib.hid trivial
          go_wp2_with (first | (with_reducible refine wpList_addT (dst := some 66) S [13, 77, 83, 66] Z2 HZ2.out (by kernel_rfl) (by kernel_rfl) (by have := HZ2L.out; have := HNN.out; have := HCS.out; omega) ?_) | (with_reducible refine wpList_addT (dst := some 68) Z2 [ca] Z3 HZ3.out (by kernel_rfl) (by kernel_rfl) (by have := HZ3L.out; have := HNN.out; have := HCS.out; omega) ?_) | (with_reducible refine wpList_addT (dst := some 69) Z3 [65, 65] Z4 HZ4.out (by kernel_rfl) (by kernel_rfl) (by have := HZ4L.out; have := HNN.out; have := HCS.out; omega) ?_) | (with_reducible refine wpList_addT (dst := some 71) Z4 [ca] Z5 HZ5.out (by kernel_rfl) (by kernel_rfl) (by have := HZ5L.out; have := HNN.out; have := HCS.out; omega) ?_) | (with_reducible refine wpList_addT (dst := some 72) Z5 [49, 13] Z6 HZ6.out (by kernel_rfl) (by kernel_rfl) (by have := HZ6L.out; have := HNN.out; have := HCS.out; omega) ?_) | (have _t := tok2; with_reducible refine wpList_convT Z6 (N + 4 + 1 + 2 + 1 + 2) (wr1.heap.size + 1) (by kernel_rfl) HZ6L.out (by have := HNN.out; have := HCS.out; simp only [maxLen]; omega) (World.size_alloc _ _) ?_; intro cap2 W2 HC2 hbv2; clear tok2 _t))
          have HBW2 := Lib.hid (HBR1.out.trans (hbv2.mono HBR1.out.size))
          clear hbv2
          refine (ackRead _ (N + 4 + 1 + 2 + 1 + 2) cap2 Z6 W2 (HV.out _ HBW2.out) HC2.out.bs (by have := HNN.out; have := HCS.out; omega)).mono ?_
          rw [HF2.out]
          rintro e wr2 ⟨rfl, hbr⟩
          have HBR2 : Hid (Below w.heap.size w (wr2.alloc (.cells #[.string ⟨#[]⟩, .string ⟨#[]⟩] 39))) := Lib.hid ((HBW2.out.trans (hbr.mono HBW2.out.size)).alloc (HBW2.out.trans (hbr.mono HBW2.out.size)).size _)
          clear hbr HC2 HBW2 HBR1
          have tok3 : Hid True := Lib.hid trivial
          go_wp2_with (first | (with_reducible refine wpList_addT (dst := some 79) S [13, 77, 83, 65] Y2 HY2.out (by kernel_rfl) (by kernel_rfl) (by have := HY2L.out; have := HNN.out; have := HCS.out; omega) ?_) | (with_reducible refine wpList_addT (dst := some 81) Y2 [ca] Y3 HY3.out (by kernel_rfl) (by kernel_rfl) (by have := HY3L.out; have := HNN.out; have := HCS.out; omega) ?_) | (with_reducible refine wpList_addT (dst := some 83) Y3 code.data.toList Y4 HY4.out (by kernel_rfl) (by kernel_rfl) (by have := HY4L.out; have := HNN.out; have := HCS.out; omega) ?_) | (with_reducible refine wpList_addT (dst := some 85) Y4 [ca] Y5 HY5.out (by kernel_rfl) (by kernel_rfl) (by have := HY5L.out; have := HNN.out; have := HCS.out; omega) ?_) | (with_reducible refine wpList_addT (dst := some 86) Y5 [49, 13] Y6 HY6.out (by kernel_rfl) (by kernel_rfl) (by have := HY6L.out; have := HNN.out; have := HCS.out; omega) ?_) | (have _t := tok3; with_reducible refine wpList_convT Y6 (N + 4 + 1 + code.size + 1 + 2) (wr2.heap.size + 1) (by kernel_rfl) HY6L.out (by have := HNN.out; have := HCS.out; simp only [maxLen]; omega) (World.size_alloc _ _) ?_; intro cap3 W3 HC3 hbv3; clear tok3 _t))
          cases hco : codeD code
          · as_aux_lemma =>
            rw [hco, if_neg (by decide)] at HF3
            have HCO := Lib.hid hco
            clear hco
            have HBW3 := Lib.hid (HBR2.out.trans (hbv3.mono HBR2.out.size))
            clear hbv3
            refine (ackRead _ (N + 4 + 1 + code.size + 1 + 2) cap3 Y6 W3 (HV.out _ HBW3.out) HC3.out.bs (by have := HNN.out; have := HCS.out; omega)).mono ?_
            rw [HF3.out]
            rintro e wr3 ⟨rfl, hbr⟩
            have HBR3 : Hid (Below w.heap.size w (wr3.alloc (.cells #[.string ⟨#[]⟩, .string ⟨#[]⟩] 39))) := Lib.hid ((HBW3.out.trans (hbr.mono HBW3.out.size)).alloc (HBW3.out.trans (hbr.mono HBW3.out.size)).size _)
            clear hbr HC3 HBW3 HBR2
            have HXA : Hid (BoxA ⟨#[]⟩ ⟨#[]⟩ wr3.heap.size (wr3.alloc (.cells #[.string ⟨#[]⟩, .string ⟨#[]⟩] 39))) := Lib.hid (heap_alloc_new wr3 _)
            go_wp2_with (fail)
            obtain ⟨G3, hG3⟩ : ∃ y, y = wr3.heap.size := ⟨_, rfl⟩
            rw [← hG3] at HXA ⊢
            clear hG3
            generalize wr3.alloc (.cells #[.string ⟨#[]⟩, .string ⟨#[]⟩] 39) = w4 at *
            refine (alive10 w4 (HV.out _ HBR3.out)).mono ?_
            rintro e w5 ⟨rfl, hbA⟩
            have HBA := Lib.hid (HBR3.out.trans (hbA.mono HBR3.out.size))
            have HXB := Lib.hid (HXA.out.below hbA)
            clear hbA HXA HBR3
            go_wp2_with (fail)
            refine (ackKnown_ code w5 (HV.out _ HBA.out)).mono ?_
            rintro e w6 ⟨rfl, rfl⟩
            rw [HCO.out]
            obtain ⟨c0, c1⟩ := HXB.out.cells
            have heq := fun W => ack_self ⟨#[]⟩ ⟨#[]⟩ W
            go_wp2_with (fail)
            go_ret
            exact ⟨rfl, HBA.out⟩
          · as_aux_lemma =>
            rw [hco, if_pos rfl] at HF3
            have HCO := Lib.hid hco
            clear hco
            have HBW3 := Lib.hid (HBR2.out.trans (hbv3.mono HBR2.out.size))
            clear hbv3
            refine (ackRead _ (N + 4 + 1 + code.size + 1 + 2) cap3 Y6 W3 (HV.out _ HBW3.out) HC3.out.bs (by have := HNN.out; have := HCS.out; omega)).mono ?_
            rw [HF3.out]
            rintro e wr3 ⟨rfl, hbr⟩
            have HBR3 : Hid (Below w.heap.size w (wr3.alloc (.cells #[.string code, .string ⟨#[49]⟩] 39))) := Lib.hid ((HBW3.out.trans (hbr.mono HBW3.out.size)).alloc (HBW3.out.trans (hbr.mono HBW3.out.size)).size _)
            clear hbr HC3 HBW3 HBR2
            have HXA : Hid (BoxA code ⟨#[49]⟩ wr3.heap.size (wr3.alloc (.cells #[.string code, .string ⟨#[49]⟩] 39))) := Lib.hid (heap_alloc_new wr3 _)
            go_wp2_with (fail)
            obtain ⟨G3, hG3⟩ : ∃ y, y = wr3.heap.size := ⟨_, rfl⟩
            rw [← hG3] at HXA ⊢
            clear hG3
            generalize wr3.alloc (.cells #[.string code, .string ⟨#[49]⟩] 39) = w4 at *
            refine (alive10 w4 (HV.out _ HBR3.out)).mono ?_
            rintro e w5 ⟨rfl, hbA⟩
            have HBA := Lib.hid (HBR3.out.trans (hbA.mono HBR3.out.size))
            have HXB := Lib.hid (HXA.out.below hbA)
            clear hbA HXA HBR3
            go_wp2_with (fail)
            refine (ackKnown_ code w5 (HV.out _ HBA.out)).mono ?_
            rintro e w6 ⟨rfl, rfl⟩
            rw [HCO.out]
            obtain ⟨c0, c1⟩ := HXB.out.cells
            have heq := fun W => ack_self code ⟨#[49]⟩ W
            go_wp2_with (fail)
            go_ret
            exact ⟨rfl, HBA.out⟩
    · as_aux_lemma =>
      clear hgr HX2
      go_wp2_with (fail)
      refine (alive10 w2 (HV.out _ HB2.out)).mono ?_
      rintro e w3 ⟨rfl, hbA⟩
      have HBA := Lib.hid (HB2.out.trans (hbA.mono HB2.out.size))
      clear hbA
      go_wp2_with (fail)
      go_ret
      exact ⟨rfl, HBA.out⟩
end Go.Proofs.YtbgjhpkjdcbclaaDoor
