/- TraceBack, walked. -/
import Derived.Test.YtnoppnnpennddaaDoorTrX
import Derived.Test.YtnoppnnpennddaaDoorTrY
namespace Go.Proofs.YtnoppnnpennddaaDoor
open Go.RowKit

def bigT (n : Int) : Bool := decide (576460752303423488 < n) || decide (n < -576460752303423488)
set_option maxHeartbeats 4000000 in
theorem big_ (n : Int) (w : World) : Calls Tryd.prog 25 #[.int .i64 n] w fun e w' => e = .returned (.bool (bigT n)) ∧ w' = w := by
  by_cases h1 : 576460752303423488 < n
  · have d1 : decide (576460752303423488 < n) = true := decide_eq_true h1
    have HE : Hid (bigT n = true) := Lib.hid (by unfold bigT; rw [d1]; rfl)
    clear h1
    go_enter Tryd.func25, Tryd.ntmps25
    go_wp2_with (fail)
    go_ret
    exact ⟨by rw [HE.out]; rfl, rfl⟩
  · have d1 : decide (576460752303423488 < n) = false := decide_eq_false h1
    have HE : Hid (bigT n = decide (n < -576460752303423488)) := Lib.hid (by unfold bigT; rw [d1]; rfl)
    clear h1
    go_enter Tryd.func25, Tryd.ntmps25
    go_wp2_with (fail)
    go_ret
    exact ⟨by rw [HE.out]; rfl, rfl⟩

set_option maxHeartbeats 16000000 in
set_option maxRecDepth 100000 in
theorem traceBack_walk (A : Option Addr) (n c : Nat) (L : List TStep) (s : ByteArray) (w : World) (hv : TRows w ∧ MaxLen w ∧ Pow w) (hS : Sts w A n c L) (_hR : s.size ≤ maxLen) (hf : ∀ x ∈ L, x.Fits) (hn : n ≤ 1048576) (_hs : s.size ≤ 1048576) :
    Calls Tryd.prog 6 #[.slice A n c, .string s] w fun e w' => e = .returned (.bool true) ∧ Below w.heap.size w w' := by
  have HR := Lib.hid (fun W (hb : Below w.heap.size w W) => hv.1.below hb)
  have HM := Lib.hid (fun W (hb : Below w.heap.size w W) => hv.2.1.below hb)
  have HP := Lib.hid (fun W (hb : Below w.heap.size w W) => hv.2.2.below hb)
  have HS := Lib.hid hS
  have HF := Lib.hid hf
  have HN := Lib.hid hn

  have HL : Hid (L.length = n) := Lib.hid hS.1
  clear hv hS hf hn _hR _hs
  go_enter Tryd.func6, Tryd.ntmps6
  go_wp2_with (fail)
  refine (alive19 w (HM.out _ (Below.refl _ _)) (HR.out _ (Below.refl _ _))).mono ?_
  rintro e w1 ⟨rfl, hb1⟩
  have HB1 := Lib.hid hb1
  clear hb1
  go_wp2_with (fail)
  refine (great_ A n c L w1 (HS.out.below HB1.out) HN.out HF.out).mono ?_
  rintro e w2 ⟨rfl, hb2⟩
  have HB2 := Lib.hid (HB1.out.trans (hb2.mono HB1.out.size))
  clear hb2 HB1
  by_cases hbig : 1500 < sumG L
  · as_aux_lemma =>
    have d1 : decide ((1500 : Int) < (sumG L : Int)) = true := by rw [decide_eq_true_iff]; omega
    rw [d1]
    clear d1
    go_wp2_with (fail)
    refine (alive19 w2 (HM.out _ HB2.out) (HR.out _ HB2.out)).mono ?_
    rintro e w3 ⟨rfl, hb3⟩
    have HB3 := Lib.hid (HB2.out.trans (hb3.mono HB2.out.size))
    clear hb3
    go_wp2_with (fail)
    go_ret
    exact ⟨rfl, HB3.out⟩
  have d1 : decide ((1500 : Int) < (sumG L : Int)) = false := by rw [decide_eq_false_iff_not]; omega
  rw [d1]
  have HG : Hid (sumG L ≤ 1500) := Lib.hid (by omega)
  clear d1 hbig
  by_cases hsz : 2000 < s.size
  · as_aux_lemma =>
    have d2 : decide ((2000 : Int) < (s.size : Int)) = true := by rw [decide_eq_true_iff]; omega
    clear hsz
    go_wp2_with (fail)
    refine (alive19 w2 (HM.out _ HB2.out) (HR.out _ HB2.out)).mono ?_
    rintro e w3 ⟨rfl, hb3⟩
    have HB3 := Lib.hid (HB2.out.trans (hb3.mono HB2.out.size))
    clear hb3
    go_wp2_with (fail)
    go_ret
    exact ⟨rfl, HB3.out⟩
  have d2 : decide ((2000 : Int) < (s.size : Int)) = false := by rw [decide_eq_false_iff_not]; omega
  have HSZ : Hid (s.size ≤ 2000) := Lib.hid (by omega)
  clear hsz
  go_wp2_with (fail)
  go_loopw [32, 7] (fun i _ wr => ∃ k : Nat, k ≤ n ∧ i = .int .i64 k ∧ (∀ x ∈ L.take k, bigT x.n = false ∧ bigT x.kp = false) ∧ Below w.heap.size w wr) (fun i _ _ => n - (intOf i).toNat)
  case atStart => exact ⟨0, by omega, rfl, by simp, HB2.out⟩
  case round =>
    obtain ⟨wo, rfl⟩ : ∃ wo : World, wo = wr := ⟨_, rfl⟩
    obtain ⟨k, hk, rfl, hsm, hb⟩ := hrel
    have HB := Lib.hid hb
    have HSX := Lib.hid hsm
    clear hsm
    by_cases hlt : k < n
    · have hkl : k < L.length := by have := HL.out; omega
      obtain ⟨x, hx⟩ : ∃ x, x = L[k] := ⟨_, rfl⟩
      have HT : Hid (L.take (k + 1) = L.take k ++ [x]) := Lib.hid (by rw [hx]; exact List.take_succ_eq_append_getElem hkl)
      obtain ⟨b, o, rfl, hc⟩ := HS.out.2.2.2 (by omega)
      obtain ⟨a0, a1, a2, ⟨A3, m3, c3, a3, hB3⟩, ⟨A4, m4, c4, a4, hB4⟩, a5⟩ := (hx ▸ hc k _ (List.getElem?_eq_getElem hkl) : StepAt w b o k x).below hb
      have hkc : (n : Int) ≤ (c : Int) := by have := HS.out.2.1; omega
      have hmx : c ≤ 9223372036854775807 := by have := HS.out.2.2.1; simpa only [maxLen] using this
      have p1 := box_cells wo [.int .i64 x.k, .int .i64 x.n, .int .i64 x.kp, .slice A3 m3 c3, .slice A4 m4 c4, .bool x.cr] TS 1 _ rfl
      have p2 := box_cells wo [.int .i64 x.k, .int .i64 x.n, .int .i64 x.kp, .slice A3 m3 c3, .slice A4 m4 c4, .bool x.cr] TS 2 _ rfl
      have hb1 : Below wo.heap.size wo (wo.alloc (.cells #[.int .i64 x.k, .int .i64 x.n, .int .i64 x.kp, .slice A3 m3 c3, .slice A4 m4 c4, .bool x.cr] TS)) := (Below.refl _ wo).alloc (Nat.le_refl _) _
      have HBE := Lib.hid (HB.out.trans (hb1.mono HB.out.size))
      have hw5 : IntKind.i64.wrap ((k : Int) + 1) = (k : Int) + 1 := IntWalk.i64_in _ (by have := HN.out; omega)
      have HQ1 : Hid (∃ q, q = bigT x.n) := Lib.hid ⟨_, rfl⟩
      have HQ2 : Hid (∃ q, q = bigT x.kp) := Lib.hid ⟨_, rfl⟩
      clear hx hkl hc hb hB3 hB4 hb1
      go_wp2_with (fail)
      refine (big_ x.n _).mono ?_
      rintro e w4 ⟨rfl, rfl⟩
      obtain ⟨q1, hq1⟩ := HQ1.out
      rw [← hq1]
      have HQ1 := Lib.hid hq1
      clear hq1
      cases q1
      · go_wp2_with (fail)
        refine (big_ x.kp _).mono ?_
        rintro e w4 ⟨rfl, rfl⟩
        obtain ⟨q2, hq2⟩ := HQ2.out
        rw [← hq2]
        have HQ2 := Lib.hid hq2
        clear hq2
        cases q2
        · as_aux_lemma =>
          go_wp2_with (fail)
          refine ⟨⟨k + 1, by omega, rfl, ?_, HBE.out⟩, by simp [intOf]; omega⟩
          rw [HT.out]
          intro y hy
          rcases List.mem_append.1 hy with h | h
          · exact HSX.out y h
          · rw [List.mem_singleton.1 h]
            exact ⟨HQ1.out.symm, HQ2.out.symm⟩
        · as_aux_lemma =>
          go_wp2_with (fail)
          go_ret
          exact ⟨rfl, HBE.out⟩
      · as_aux_lemma =>
        go_wp2_with (fail)
        go_ret
        exact ⟨rfl, HBE.out⟩
    · obtain rfl : k = n := by omega
      have HSA : Hid (∀ x ∈ L, bigT x.n = false ∧ bigT x.kp = false) := Lib.hid (by have := HSX.out; rwa [List.take_of_length_le (l := L) (by have := HL.out; omega)] at this)
      clear hb hlt HSX
      go_wp2_with (fail)
      refine (format_ A k c L wo (HS.out.below HB.out) HF.out (by have := HG.out; omega) (HR.out _ HB.out) (HP.out _ HB.out)).mono ?_
      have HTAIL : Hid True := Lib.hid trivial
      rcases fmtD_two L with ⟨er, he, hne⟩ | ⟨he, hco⟩
      · rw [he]
        rintro e w3 ⟨rfl, hb3⟩
        have HB3 := Lib.hid (HB.out.trans (hb3.mono HB.out.size))
        have n1 : (er == 0) = false := by rw [beq_eq_false_iff_ne]; exact hne
        clear hb3 he hne
        dsimp only
        rw [str_nil]
        go_wp2_with (fail)
        refine (parse_T s w3 (by have := HSZ.out; omega) (HM.out _ HB3.out) (HR.out _ HB3.out)).mono ?_
        rcases hpq : parseT [] 0 s.data.toList with ⟨M, kk, er2⟩
        have HPB := Lib.hid (parse_back _ _ _ _ _ _ hpq (by simp))
        rintro e w5 ⟨v5, rfl, hst5, hb5⟩
        have HB5 := Lib.hid (HB3.out.trans (hb5.mono HB3.out.size))
        obtain ⟨A5, c5, rfl, hs5⟩ := hst5.sts
        dsimp only at hs5
        have HS5 := Lib.hid hs5
        dsimp only
        clear hpq hst5 hb5 hs5
        rcases HPB.out with ⟨rfl, h1, h2⟩ | ⟨rfl, rfl⟩
        · have HSM5 := Lib.hid h2
          have HG5 : Hid (sumG M ≤ 2000) := Lib.hid (by have e := stepsT_long h2; rw [h1] at e; have e2 : s.data.toList.length = s.size := (by simp); have := HSZ.out; simp only [stepsT, List.flatMap_nil, List.nil_append] at e; omega)
          have HFM : Hid (fmtD M = (s.data.toList, 0)) := Lib.hid (by rw [fmt_ok (fun x hx => (h2 x hx).1), h1]; simp [stepsT])
          clear h1 h2 HPB
          go_wp2_with (fail)
          refine (format_ A5 _ c5 M w5 HS5.out (fits_of HSM5.out (by have := HG5.out; omega)) (by have := HG5.out; omega) (HR.out _ HB5.out) (HP.out _ HB5.out)).mono ?_
          rw [HFM.out]
          rintro e w6 ⟨rfl, hb6⟩
          have HB6 := Lib.hid (HB5.out.trans (hb6.mono HB5.out.size))
          clear hb6
          dsimp only
          rw [show str s.data.toList = .string (txt s.data.toList) from rfl, txt_data]
          have e1 : (s.toList == s.toList) = true := by simp
          go_wp2_with (fail)
          go_ret
          exact ⟨rfl, HB6.out⟩
        · clear HPB
          go_wp2_with (fail)
          go_ret
          exact ⟨rfl, HB5.out⟩
      · rw [he]
        rintro e w3 ⟨rfl, hb3⟩
        have HB3 := Lib.hid (HB.out.trans (hb3.mono HB.out.size))
        have HSL : Hid ((stepsT L).length ≤ 150000) := Lib.hid (by have := stepsT_len HF.out; have := HG.out; omega)
        have HPF := Lib.hid (parse_format (L := L) (fun x hx => by
          have h1 := HSA.out x hx
          unfold bigT at h1
          simp only [Bool.or_eq_false_iff, decide_eq_false_iff_not] at h1
          exact ⟨hco x hx, by omega, by omega⟩))
        clear hb3 he hco
        dsimp only
        obtain ⟨S, hS⟩ : ∃ S, S = stepsT L := ⟨_, rfl⟩
        rw [← hS] at HSL HPF ⊢
        clear hS
        rw [show str S = .string (txt S) from rfl]
        go_wp2_with (fail)
        refine (parse_T (txt S) w3 (by rw [size_txt]; have := HSL.out; omega) (HM.out _ HB3.out) (HR.out _ HB3.out)).mono ?_
        rw [show (txt S).data.toList = S from rfl, HPF.out]
        rintro e w4 ⟨v4, rfl, hst4, hb4⟩
        have HB4 := Lib.hid (HB3.out.trans (hb4.mono HB3.out.size))
        obtain ⟨A4, c4, rfl, hs4⟩ := hst4.sts
        dsimp only at hs4
        have HS4 := Lib.hid hs4
        dsimp only
        clear hst4 hb4 hs4
        go_wp2_with (fail)
        rw [HL.out]
        refine (sameL A A4 k c c4 L w4 (HS.out.below HB4.out) (HL.out ▸ HS4.out) (by have := HN.out; omega) (fun x hx => by have := (HF.out x hx).outs; omega)).mono ?_
        rintro e w6 ⟨rfl, hb6⟩
        have HB6 := Lib.hid (HB4.out.trans (hb6.mono HB4.out.size))
        clear hb6
        go_wp2_with (fail)
        refine (parse_T s w6 (by have := HSZ.out; omega) (HM.out _ HB6.out) (HR.out _ HB6.out)).mono ?_
        rcases hpq : parseT [] 0 s.data.toList with ⟨M, kk, er2⟩
        have HPB := Lib.hid (parse_back _ _ _ _ _ _ hpq (by simp))
        rintro e w5 ⟨v5, rfl, hst5, hb5⟩
        have HB5 := Lib.hid (HB6.out.trans (hb5.mono HB6.out.size))
        obtain ⟨A5, c5, rfl, hs5⟩ := hst5.sts
        dsimp only at hs5
        have HS5 := Lib.hid hs5
        dsimp only
        clear hpq hst5 hb5 hs5
        rcases HPB.out with ⟨rfl, h1, h2⟩ | ⟨rfl, rfl⟩
        · have HSM5 := Lib.hid h2
          have HG5 : Hid (sumG M ≤ 2000) := Lib.hid (by have e := stepsT_long h2; rw [h1] at e; have e2 : s.data.toList.length = s.size := (by simp); have := HSZ.out; simp only [stepsT, List.flatMap_nil, List.nil_append] at e; omega)
          have HFM : Hid (fmtD M = (s.data.toList, 0)) := Lib.hid (by rw [fmt_ok (fun x hx => (h2 x hx).1), h1]; simp [stepsT])
          clear h1 h2 HPB
          go_wp2_with (fail)
          refine (format_ A5 _ c5 M w5 HS5.out (fits_of HSM5.out (by have := HG5.out; omega)) (by have := HG5.out; omega) (HR.out _ HB5.out) (HP.out _ HB5.out)).mono ?_
          rw [HFM.out]
          rintro e w6 ⟨rfl, hb6⟩
          have HB6 := Lib.hid (HB5.out.trans (hb6.mono HB5.out.size))
          clear hb6
          dsimp only
          rw [show str s.data.toList = .string (txt s.data.toList) from rfl, txt_data]
          have e1 : (s.toList == s.toList) = true := by simp
          go_wp2_with (fail)
          go_ret
          exact ⟨rfl, HB6.out⟩
        · clear HPB
          go_wp2_with (fail)
          go_ret
          exact ⟨rfl, HB5.out⟩
end Go.Proofs.YtnoppnnpennddaaDoor
