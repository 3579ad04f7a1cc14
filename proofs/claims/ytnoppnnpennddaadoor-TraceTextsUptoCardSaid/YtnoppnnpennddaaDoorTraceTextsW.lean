/- TraceTexts, walked. -/
import Derived.Test.YtnoppnnpennddaaDoorTrX
import Derived.Test.YtnoppnnpennddaaDoorTrRf
import Derived.Test.YtnoppnnpennddaaDoorTrRp
namespace Go.Proofs.YtnoppnnpennddaaDoor
open Go.RowKit

set_option maxHeartbeats 16000000 in
set_option maxRecDepth 100000 in
theorem traceTexts_walk (A : Option Addr) (n c : Nat) (L : List TStep) (s : ByteArray) (w : World) (hv : TRows w ∧ MaxLen w ∧ Pow w) (hS : Sts w A n c L) (_hR : s.size ≤ maxLen) (hf : ∀ x ∈ L, x.Fits) (hn : n ≤ 1048576) (_hs : s.size ≤ 1048576) :
    Calls Tryd.prog 5 #[.slice A n c, .string s] w fun e w' => e = .returned (.bool true) ∧ Below w.heap.size w w' := by
  have HR := Lib.hid (fun W (hb : Below w.heap.size w W) => hv.1.below hb)
  have HM := Lib.hid (fun W (hb : Below w.heap.size w W) => hv.2.1.below hb)
  have HP := Lib.hid (fun W (hb : Below w.heap.size w W) => hv.2.2.below hb)
  have HS := Lib.hid hS
  have HF := Lib.hid hf
  have HN := Lib.hid hn
  have HL : Hid (L.length = n) := Lib.hid hS.1
  clear hv hS hf hn _hR _hs
  go_enter Tryd.func5, Tryd.ntmps5
  go_wp2_with (fail)
  refine (alive19 w (HM.out _ (Below.refl _ _)) (HR.out _ (Below.refl _ _))).mono ?_
  rintro e w1 ⟨rfl, hb1⟩
  have HB1 := Lib.hid hb1
  clear hb1
  go_wp2_with (fail)
  refine (great_ A n c L w1 (HS.out.below HB1.out) HN.out HF.out).mono ?_
  rintro e w2 ⟨rfl, hb2⟩
  have HB2 := Lib.hid (HB1.out.trans (hb2.mono HB1.out.size))
  clear hb2 HB1
  by_cases hbig : 1500 < sumG L
  · as_aux_lemma =>
    have d1 : decide ((1500 : Int) < (sumG L : Int)) = true := by rw [decide_eq_true_iff]; omega
    rw [d1]
    clear d1
    go_wp2_with (fail)
    refine (alive19 w2 (HM.out _ HB2.out) (HR.out _ HB2.out)).mono ?_
    rintro e w3 ⟨rfl, hb3⟩
    have HB3 := Lib.hid (HB2.out.trans (hb3.mono HB2.out.size))
    clear hb3
    go_wp2_with (fail)
    go_ret
    exact ⟨rfl, HB3.out⟩
  have d1 : decide ((1500 : Int) < (sumG L : Int)) = false := by rw [decide_eq_false_iff_not]; omega
  rw [d1]
  have HG : Hid (sumG L ≤ 1500) := Lib.hid (by omega)
  clear d1 hbig
  by_cases hsz : 2000 < s.size
  · as_aux_lemma =>
    have d2 : decide ((2000 : Int) < (s.size : Int)) = true := by rw [decide_eq_true_iff]; omega
    clear hsz
    go_wp2_with (fail)
    refine (alive19 w2 (HM.out _ HB2.out) (HR.out _ HB2.out)).mono ?_
    rintro e w3 ⟨rfl, hb3⟩
    have HB3 := Lib.hid (HB2.out.trans (hb3.mono HB2.out.size))
    clear hb3
    go_wp2_with (fail)
    go_ret
    exact ⟨rfl, HB3.out⟩
  have d2 : decide ((2000 : Int) < (s.size : Int)) = false := by rw [decide_eq_false_iff_not]; omega
  have HSZ : Hid (s.size ≤ 2000) := Lib.hid (by omega)
  clear hsz
  go_wp2_with (fail)
  refine (format_ A n c L w2 (HS.out.below HB2.out) HF.out (by have := HG.out; omega) (HR.out _ HB2.out) (HP.out _ HB2.out)).mono ?_
  rcases hFD : fmtD L with ⟨F, er⟩
  have HFD := Lib.hid hFD
  clear hFD
  rintro e w3 ⟨rfl, hb3⟩
  have HB3 := Lib.hid (HB2.out.trans (hb3.mono HB2.out.size))
  clear hb3 HB2
  dsimp only
  rw [show str F = .string (txt F) from rfl]
  obtain ⟨f, hf⟩ : ∃ f, f = txt F := ⟨_, rfl⟩
  have HFF := Lib.hid hf
  rw [← hf]
  clear hf
  go_wp2_with (fail)
  refine (refFormat A n c L w3 (HS.out.below HB3.out) HF.out (by have := HG.out; omega)).mono ?_
  rw [HFD.out]
  rintro e w4 ⟨rfl, hb4⟩
  have HB4 := Lib.hid (HB3.out.trans (hb4.mono HB3.out.size))
  clear hb4 HB3
  dsimp only
  rw [show str F = .string (txt F) from rfl, ← HFF.out]
  go_wp2_with (fail)
  refine (parse_T s w4 (by have := HSZ.out; omega) (HM.out _ HB4.out) (HR.out _ HB4.out)).mono ?_
  rcases hpq : parseT [] 0 s.data.toList with ⟨M, kk, e2⟩
  have HPB := Lib.hid (parse_back _ _ _ _ _ _ hpq (by simp))
  have HPQ := Lib.hid hpq
  clear hpq
  rintro e w5 ⟨v5, rfl, hst5, hb5⟩
  have HB5 := Lib.hid (HB4.out.trans (hb5.mono HB4.out.size))
  obtain ⟨A5, c5, rfl, hs5⟩ := hst5.sts
  dsimp only at hs5
  have HS5 := Lib.hid hs5
  dsimp only
  clear hst5 hb5 hs5
  go_wp2_with (fail)
  refine (refParse s w5 (by have := HSZ.out; omega)).mono ?_
  rw [HPQ.out]
  rintro e w6 ⟨v6, rfl, hst6, hb6⟩
  have HB6 := Lib.hid (HB5.out.trans (hb6.mono HB5.out.size))
  have HS5 := Lib.hid (HS5.out.below hb6)
  obtain ⟨A6, c6, rfl, hs6⟩ := hst6.sts
  dsimp only at hs6
  have HS6 := Lib.hid hs6
  dsimp only
  clear hst6 hb6 hs6
  have HMG : Hid (M.length ≤ 100000000 ∧ ∀ x ∈ M, x.outs.length ≤ 100000000) := Lib.hid (by
    rcases HPB.out with ⟨_, h1, h2⟩ | ⟨_, rfl⟩
    · have e := stepsT_long h2
      rw [h1] at e
      have e2 : s.data.toList.length = s.size := (by simp)
      simp only [stepsT, List.flatMap_nil, List.nil_append] at e
      have := HSZ.out
      refine ⟨by have := len_sumG M; omega, fun x hx => ?_⟩
      have h3 := sumG_mem hx
      have h4 := len_sumO x.outs
      omega
    · exact ⟨by simp, fun x hx => by cases hx⟩)
  have q1 : (f.toList == f.toList) = true := by simp
  go_wp2_with (fail)
  refine (sameL A5 A6 M.length c5 c6 M w6 HS5.out HS6.out HMG.out.1 HMG.out.2).mono ?_
  rintro e w7 ⟨rfl, hb7⟩
  have HB7 := Lib.hid (HB6.out.trans (hb7.mono HB6.out.size))
  clear hb7
  have q2 : ((kk : Int) == (kk : Int)) = true := by simp
  have q3 : (e2 == e2) = true := by simp
  go_wp2_with (fail)
  go_ret
  exact ⟨rfl, HB7.out⟩
end Go.Proofs.YtnoppnnpennddaaDoor
