/- Layer 10's answer: an answer built; AckBuilds, walked. -/
import Derived.Test.YtbgjhpkjdcbclaaDoorAckA

import Derived.Test.YtbgjhpkjdcbclaaDoorRef09w
namespace Go.Proofs.YtbgjhpkjdcbclaaDoor
open Go.RowKit

theorem codeD_three (s : ByteArray) : codeD s = (s.toList == [65, 65] || s.toList == [65, 69] || s.toList == [65, 82]) := by
  have e : ∀ (k : Nat) (x : List UInt8), (cB k).data.toList = x → (s.toList == x) = decide (cB k = s) := by
    intro k x hx
    rw [Go.ByteArray.toList_eq]
    by_cases h : cB k = s
    · rw [decide_eq_true h, ← h, hx]; simp
    · rw [decide_eq_false h, beq_eq_false_iff_ne]
      exact fun e => h (ByteArray.ext (Array.toList_inj.1 (by rw [hx, e])))
  rw [e 0 [65, 65] rfl, e 1 [65, 69] rfl, e 2 [65, 82] rfl]
  unfold codeD codesL
  simp [Bool.or_assoc]
set_option maxHeartbeats 1000000 in
theorem refKnown10 (s : ByteArray) (w : World) : Calls Tryd.prog 15 #[.string s] w fun e w' => e = .returned (.bool (codeD s)) ∧ w' = w := by
  rw [codeD_three]
  cases d1 : (s.toList == [65, 65]) <;> cases d2 : (s.toList == [65, 69]) <;> cases d3 : (s.toList == [65, 82]) <;>
  · go_enter Tryd.func15, Tryd.ntmps15
    go_wp2_with (fail)
    go_ret
    exact ⟨rfl, rfl⟩

theorem built_ans (h : Hd) : Tryd.prog.built TH [(0, h.d.v), (1, .string h.a2), (2, .string h.a3), (3, .string h.a0), (4, .string h.a1), (5, .string h.a4), (7, .string ⟨#[65, 67, 75]⟩), (8, .string h.a7), (9, .string h.a8), (10, .string h.a9)] = some (ansH h).cells := by kernel_rfl

set_option maxHeartbeats 8000000 in
set_option maxRecDepth 100000 in
theorem refBuild10 (h : Hd) (code : ByteArray) (w : World) (hb : h.sum ≤ 300000) (hc : code.size ≤ 1000) : Calls Tryd.prog 12 #[h.v, .string code] w fun e w' => e = .returned (.tuple #[str (buildD h code).1, .int .i64 (buildD h code).2]) ∧ Below w.heap.size w w' := by
  have HX0 := Lib.hid (BoxH.new h w)
  have HB0 := Lib.hid (boxHd_below h w)
  have HS := Lib.hid hb
  have HC := Lib.hid hc
  have HAS := Lib.hid (ansH_sum h)
  have HA7 := Lib.hid (a7_le h)
  clear hb hc
  go_enter Tryd.func12, Tryd.ntmps12
  go_wp2_with (fail)
  generalize w.alloc (.cells #[u8 h.d.a, u8 h.d.b, u8 h.d.c, u8 h.d.d, u8 h.d.e, .string h.a0, .string h.a1, .string h.a2, .string h.a3, .string h.a4, .string h.a5, .string h.a6, .string h.a7, .string h.a8, .string h.a9] TH) = w0 at *
  refine (refKnown10 code w0).mono ?_
  rintro e w1 ⟨rfl, rfl⟩
  cases hk : codeD code
  · as_aux_lemma =>
    have HE : Hid (buildD h code = ([], 17)) := Lib.hid (by unfold buildD; rw [hk]; rfl)
    go_wp2_with (fail)
    go_ret2
    exact ⟨by rw [HE.out]; rfl, HB0.out⟩
  · obtain ⟨c0, c1, c2, c3, c4, c5, c6, c7, c8, c9, c10, c11, c12, c13, c14⟩ := HX0.out.cells
    have HQ0 : Hid (BoxH (ansH h) w1.heap.size (w1.alloc (.cells (ansH h).cells TH))) := Lib.hid (BoxH.new _ w1)
    have HX1 : Hid (BoxH h w.heap.size (w1.alloc (.cells (ansH h).cells TH))) := Lib.hid (HX0.out.below (boxHd_below (ansH h) w1))
    have HB1 : Hid (Below w.heap.size w (w1.alloc (.cells (ansH h).cells TH))) := Lib.hid (HB0.out.alloc HB0.out.size _)
    obtain ⟨q, hq⟩ : ∃ q, q = ansH h := ⟨_, rfl⟩
    have HQE := Lib.hid hq
    have hbu : Tryd.prog.built TH [(0, h.d.v), (1, .string h.a2), (2, .string h.a3), (3, .string h.a0), (4, .string h.a1), (5, .string h.a4), (7, .string ⟨#[65, 67, 75]⟩), (8, .string h.a7), (9, .string h.a8), (10, .string h.a9)] = some q.cells := by rw [hq]; exact built_ans h
    have HBU := Lib.hid hbu
    rw [← hq] at HQ0 HX1 HB1 HAS
    clear hq hbu
    go_wp2_with (first | (with_reducible refine wpList_buildH q [(0, h.d.v), (1, .string h.a2), (2, .string h.a3), (3, .string h.a0), (4, .string h.a1), (5, .string h.a4), (7, .string ⟨#[65, 67, 75]⟩), (8, .string h.a7), (9, .string h.a8), (10, .string h.a9)] (by kernel_rfl) HBU.out ?_; clear c0 c1 c2 c3 c4 c5 c6 c7 c8 c9 c10 c11 c12 c13 c14) | (with_reducible refine wpList_loadHG w1.heap.size q (by kernel_rfl) (by kernel_rfl) HQ0.out ?_))
    obtain ⟨G, hG⟩ : ∃ G, G = w1.heap.size := ⟨_, rfl⟩
    rw [← hG] at HQ0 ⊢
    clear hG HX0 HBU
    generalize w1.alloc (.cells #[u8 q.d.a, u8 q.d.b, u8 q.d.c, u8 q.d.d, u8 q.d.e, .string q.a0, .string q.a1, .string q.a2, .string q.a3, .string q.a4, .string q.a5, .string q.a6, .string q.a7, .string q.a8, .string q.a9] TH) = w2 at *
    refine (refWrite09 q w2 (by rw [← Hd.sum_eq]; have := HAS.out; have := HS.out; omega)).mono ?_
    rintro e w3 ⟨rfl, hb3⟩
    have HX3 := Lib.hid (HX1.out.below hb3)
    have HB3 := Lib.hid (HB1.out.trans (hb3.mono HB1.out.size))
    clear hb3 HX1 HB1 HQ0
    rw [HQE.out]
    rcases writeH_cases (ansH h) with hw | hw | ⟨hw, hg, hst⟩
    · as_aux_lemma =>
      have HE : Hid (buildD h code = ([], 11)) := Lib.hid (by unfold buildD; rw [if_pos hk, hw]; rfl)
      rw [hw]
      rw [show str (([], (11 : Int)) : List UInt8 × Int).1 = Value.string ⟨#[]⟩ from rfl]
      clear hw hk
      go_wp2_with (fail)
      go_ret2
      exact ⟨by rw [HE.out]; rfl, HB3.out⟩
    · as_aux_lemma =>
      have HE : Hid (buildD h code = ([], 10)) := Lib.hid (by unfold buildD; rw [if_pos hk, hw]; rfl)
      rw [hw]
      rw [show str (([], (10 : Int)) : List UInt8 × Int).1 = Value.string ⟨#[]⟩ from rfl]
      clear hw hk
      go_wp2_with (fail)
      go_ret2
      exact ⟨by rw [HE.out]; rfl, HB3.out⟩
    · as_aux_lemma =>
      have HE : Hid (buildD h code = (joinD [segH (ansH h), makeD msaB h.d.a [code.data.toList, h.a7.data.toList]], 0)) := Lib.hid (by unfold buildD; rw [if_pos hk, hw]; rfl)
      have HSL : Hid ((segH (ansH h)).length ≤ 300021) := Lib.hid (by have := segH_len (ansH h); have t := HAS.out; rw [HQE.out] at t; have := HS.out; omega)
      rw [hw]
      clear hw hk hg hst HAS
      obtain ⟨S, hS⟩ : ∃ S, S = segH (ansH h) := ⟨_, rfl⟩
      rw [← hS] at HE HSL ⊢
      clear hS
      obtain ⟨c0, c1, c2, c3, c4, c5, c6, c7, c8, c9, c10, c11, c12, c13, c14⟩ := HX3.out.cells
      clear c5 c6 c7 c8 c9 c10 c11 c13 c14
      go_wp2_with (fail)
      clear c0 c1 c2 c3 c4 c12
      have HO4 : Hid (OwnS (w3.alloc (.cells #[.string code, .string h.a7] 9)) w3.heap.size (.slice (some ⟨w3.heap.size, 0, none⟩) 2 2) [code.data.toList, h.a7.data.toList]) := Lib.hid (OwnS.twoH w3 code.data.toList h.a7.data.toList _ (Nat.le_refl _))
      have HB4 : Hid (Below w.heap.size w (w3.alloc (.cells #[.string code, .string h.a7] 9))) := Lib.hid (HB3.out.alloc HB3.out.size _)
      have HT : Hid (Lib.lens [code.data.toList, h.a7.data.toList] ≤ 302000) := Lib.hid (by rw [lens_two]; have := HC.out; have := HA7.out; have := HS.out; simp; omega)
      generalize w3.alloc (.cells #[.string code, .string h.a7] 9) = w4 at *
      refine (refMake h.d msaB _ 2 2 _ w4 HO4.out.ss' (by decide) (by have := HT.out; simp only [List.length_cons, List.length_nil]; omega)).mono ?_
      rintro e w5 ⟨rfl, hb5⟩
      have HB5 := Lib.hid (HB4.out.trans (hb5.mono HB4.out.size))
      have HML : Hid ((makeD msaB h.d.a [code.data.toList, h.a7.data.toList]).length ≤ 302005) := Lib.hid (by rw [msa_len, ← lens_two]; have := HT.out; omega)
      clear hb5 HO4 HB4 HT
      obtain ⟨M, hM⟩ : ∃ M, M = makeD msaB h.d.a [code.data.toList, h.a7.data.toList] := ⟨_, rfl⟩
      rw [← hM] at HE HML ⊢
      clear hM
      go_wp2_with (fail)
      have HO6 : Hid (OwnS (w5.alloc (.cells #[str S, str M] 9)) w5.heap.size (.slice (some ⟨w5.heap.size, 0, none⟩) 2 2) [S, M]) := Lib.hid (OwnS.twoH w5 S M _ (Nat.le_refl _))
      have HB6 : Hid (Below w.heap.size w (w5.alloc (.cells #[str S, str M] 9))) := Lib.hid (HB5.out.alloc HB5.out.size _)
      generalize w5.alloc (.cells #[str S, str M] 9) = w6 at *
      refine (refJoin _ 2 2 [S, M] w6 HO6.out.ss' (by rw [lens_two]; have := HSL.out; have := HML.out; simp only [List.length_cons, List.length_nil]; omega)).mono ?_
      rintro e w7 ⟨rfl, hb7⟩
      have HB7 := Lib.hid (HB6.out.trans (hb7.mono HB6.out.size))
      clear hb7 HO6
      go_wp2_with (fail)
      go_ret2
      exact ⟨by rw [HE.out]; rfl, HB7.out⟩

set_option maxHeartbeats 8000000 in
set_option maxRecDepth 100000 in
theorem ackBuilds_walk (h : Hd) (code : ByteArray) (w : World) (hv : Cds w) (_hr : code.size ≤ maxLen) (ht : Lib.lens (h.l.map (·.data.toList)) ≤ 1048576) (_hc : code.size ≤ 1048576) :
    Calls Tryd.prog 3 #[h.v, .string code] w (True_ w) := by
  have HS := Lib.hid (show h.sum ≤ 1048576 by rw [h.sum_eq]; exact ht)
  have HX0 := Lib.hid (BoxH.new h w)
  have HB0 := Lib.hid (boxHd_below h w)
  have HV := Lib.hid (fun W (hb : Below w.heap.size w W) => hv.below hb)
  clear hv ht _hr
  go_enter Tryd.func3, Tryd.ntmps3
  go_wp2_with (with_reducible refine wpList_loadHG w.heap.size h (by kernel_rfl) (by kernel_rfl) HX0.out ?_)
  generalize w.alloc (.cells #[u8 h.d.a, u8 h.d.b, u8 h.d.c, u8 h.d.d, u8 h.d.e, .string h.a0, .string h.a1, .string h.a2, .string h.a3, .string h.a4, .string h.a5, .string h.a6, .string h.a7, .string h.a8, .string h.a9] TH) = w0 at *
  refine (great10 h w0 HS.out rfl rfl).mono ?_
  rintro e w1 ⟨rfl, hb1⟩
  have HX1 := Lib.hid (HX0.out.below hb1)
  have HB1 := Lib.hid (HB0.out.trans (hb1.mono HB0.out.size))
  clear hb1 HX0 HB0
  cases hgr : decide (2000 < h.sum)
  · have HSM : Hid (h.sum ≤ 2000) := Lib.hid (by have := of_decide_eq_false hgr; omega)
    clear hgr
    by_cases hbig : 500 < code.size
    · as_aux_lemma =>
      have d1 : decide ((500 : Int) < (code.size : Int)) = true := by simp; omega
      clear HX1
      go_wp2_with (fail)
      refine (alive10 w1 (HV.out _ HB1.out)).mono ?_
      rintro e w2 ⟨rfl, hbA⟩
      have HBA := Lib.hid (HB1.out.trans (hbA.mono HB1.out.size))
      clear hbA
      go_wp2_with (fail)
      go_ret
      exact ⟨rfl, HBA.out⟩
    have d1 : decide ((500 : Int) < (code.size : Int)) = false := by simp; omega
    have HCS : Hid (code.size ≤ 500) := Lib.hid (by omega)
    clear hbig
    go_wp2_with (with_reducible refine wpList_loadHG w.heap.size h (by kernel_rfl) (by kernel_rfl) HX1.out ?_)
    clear d1
    refine (ackBuild h code w1 (HV.out _ HB1.out) (by have := HSM.out; omega) (by have := HCS.out; omega)).mono ?_
    rintro e w2 ⟨A2, cp2, rfl, hBs, hb2⟩
    have HX2 := Lib.hid (HX1.out.below hb2)
    have HB2 := Lib.hid (HB1.out.trans (hb2.mono HB1.out.size))
    have HBS2 := Lib.hid hBs
    clear hb2 HX1 HB1 hBs
    go_wp2_with (with_reducible refine wpList_loadHG w.heap.size h (by kernel_rfl) (by kernel_rfl) HX2.out ?_)
    refine (refBuild10 h code w2 (by have := HSM.out; omega) (by have := HCS.out; omega)).mono ?_
    rintro e w3 ⟨rfl, hb3⟩
    have HB3 := Lib.hid (HB2.out.trans (hb3.mono HB2.out.size))
    have HBS3 := Lib.hid (HBS2.out.below hb3)
    clear hb3 HX2 HB2 HBS2
    obtain ⟨X, hX⟩ : ∃ X, X = (buildD h code).1 := ⟨_, rfl⟩
    obtain ⟨z, hz⟩ : ∃ z, z = (buildD h code).2 := ⟨_, rfl⟩
    rw [← hX, ← hz]
    rw [← hX] at HBS3
    clear hX hz
    obtain ⟨N, hN⟩ : ∃ N, N = X.length := ⟨_, rfl⟩
    rw [← hN] at HBS3 ⊢
    clear hN
    go_wp2_with (fail)
    refine (ackCodes_ w3 (HV.out _ HB3.out)).mono ?_
    rintro e w4 ⟨A4, c4, rfl, hS4, hb4⟩
    have HB4 := Lib.hid (HB3.out.trans (hb4.mono HB3.out.size))
    have HBS4 := Lib.hid (HBS3.out.below hb4)
    have HS4 := Lib.hid hS4
    clear hb4 HB3 HBS3 hS4
    go_wp2_with (fail)
    refine (alive10 w4 (HV.out _ HB4.out)).mono ?_
    rintro e w5 ⟨rfl, hbA⟩
    have HB5 := Lib.hid (HB4.out.trans (hbA.mono HB4.out.size))
    have HBS5 := Lib.hid (HBS4.out.below hbA)
    have HS5 := Lib.hid (HS4.out.below hbA)
    clear hbA HB4 HBS4 HS4
    have hcv := HBS5.out.str (P := Tryd.prog) 28 5 9 Tryd.underlying28 Tryd.underlying5 Tryd.underlying9
    have q1 : ((txt X).toList == (txt X).toList) = true := by simp
    have q2 : ((z : Int) == z) = true := by simp
    go_wp2_with (fail)
    clear hcv q1 q2
    refine (ackKnown_ code w5 (HV.out _ HB5.out)).mono ?_
    rintro e w6 ⟨rfl, rfl⟩
    go_wp2_with (fail)
    refine (refKnown10 code w6).mono ?_
    rintro e w7 ⟨rfl, rfl⟩
    obtain ⟨b, o, rfl, _, k0⟩ := HS5.out.read (i := 0) (by omega)
    obtain ⟨b1, o1, e1, _, k1⟩ := HS5.out.read (i := 1) (by omega)
    obtain ⟨b2, o2, e2, _, k2⟩ := HS5.out.read (i := 2) (by omega)
    injection e1 with e1
    injection e1 with e1 e1'
    subst e1 e1'
    injection e2 with e2
    injection e2 with e2 e2'
    subst e2 e2'
    rw [codes_getD 0 (by omega)] at k0
    rw [codes_getD 1 (by omega)] at k1
    rw [codes_getD 2 (by omega)] at k2
    have m0 : w7.cell? ⟨b, o, none⟩ = some (.string ⟨#[65, 65]⟩) := k0
    have m1 : w7.cell? ⟨b, o + 1, none⟩ = some (.string ⟨#[65, 69]⟩) := k1
    have m2 : w7.cell? ⟨b, o + 2, none⟩ = some (.string ⟨#[65, 82]⟩) := k2
    clear k0 k1 k2
    have q3 : ∀ x : Bool, (x == x) = true := by decide
    cases hk : codeD code
    · as_aux_lemma =>
      clear hk
      go_wp2_with (fail)
      go_ret
      exact ⟨rfl, HB5.out⟩
    · as_aux_lemma =>
      clear hk
      go_wp2_with (fail)
      go_ret
      exact ⟨rfl, HB5.out⟩
  · as_aux_lemma =>
    clear hgr HX1
    go_wp2_with (fail)
    refine (alive10 w1 (HV.out _ HB1.out)).mono ?_
    rintro e w2 ⟨rfl, hbA⟩
    have HBA := Lib.hid (HB1.out.trans (hbA.mono HB1.out.size))
    clear hbA
    go_wp2_with (fail)
    go_ret
    exact ⟨rfl, HBA.out⟩
end Go.Proofs.YtbgjhpkjdcbclaaDoor
