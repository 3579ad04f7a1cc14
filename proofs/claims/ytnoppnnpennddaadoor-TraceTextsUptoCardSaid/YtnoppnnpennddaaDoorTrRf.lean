/- Layer 19's answers: the text of a step, and of steps, walked. -/
import Derived.Test.YtnoppnnpennddaaDoorTrF
import Derived.Test.YtnoppnnpennddaaDoorTrY
import Derived.Test.YtnoppnnpennddaaDoorTr12
namespace Go.Proofs.YtnoppnnpennddaaDoor
open Go.RowKit

def stT (x : TStep) : List UInt8 × Int := if codeT x = 0 then (stepT x, 0) else ([], codeT x)
abbrev stV (x : TStep) (dv ov : Value) : Value := .agg #[.int .i64 x.k, .int .i64 x.n, .int .i64 x.kp, dv, ov, .bool x.cr]
theorem txt_len (l : List UInt8) : (txt l).size = l.length := by simp [ByteArray.size]

set_option maxHeartbeats 16000000 in
set_option maxRecDepth 100000 in
theorem refStep (x : TStep) (A3 : Option Addr) (m3 c3 : Nat) (A4 : Option Addr) (m4 c4 : Nat) (w : World) (hB3 : Bs w A3 m3 c3 x.l) (hB4 : TOs w A4 m4 c4 x.outs) (hx : x.Fits) (hg : 1 + x.l.length + sumO x.outs ≤ 1000000) :
    Calls Tryd.prog 39 #[stV x (.slice A3 m3 c3) (.slice A4 m4 c4)] w (RetT (stT x) w) := by
  obtain ⟨w1, hw1⟩ : ∃ w1, w1 = w.alloc (.cells #[.int .i64 x.k, .int .i64 x.n, .int .i64 x.kp, .slice A3 m3 c3, .slice A4 m4 c4, .bool x.cr] TS) := ⟨_, rfl⟩
  have hZ := heap_alloc_new w (.cells #[.int .i64 x.k, .int .i64 x.n, .int .i64 x.kp, .slice A3 m3 c3, .slice A4 m4 c4, .bool x.cr] TS)
  have hb1 : Below w.heap.size w (w.alloc (.cells #[.int .i64 x.k, .int .i64 x.n, .int .i64 x.kp, .slice A3 m3 c3, .slice A4 m4 c4, .bool x.cr] TS)) := (Below.refl _ w).alloc (Nat.le_refl _) _
  have p0 := cell_of_row _ w.heap.size 0 _ _ _ hZ
  have p1 := cell_of_row _ w.heap.size 1 _ _ _ hZ
  have p2 := cell_of_row _ w.heap.size 2 _ _ _ hZ
  have p3 := cell_of_row _ w.heap.size 3 _ _ _ hZ
  simp only [List.getElem?_toArray, List.getElem?_cons_zero, List.getElem?_cons_succ] at p0 p1 p2 p3
  have HZ := Lib.hid hZ
  have HB1 := Lib.hid hb1
  have HBS := Lib.hid (hB3.below hb1)
  have HOS := Lib.hid (hB4.below hb1)
  have HM3 : Hid (m3 ≤ 1000000) := Lib.hid (by have := hB3.len; omega)
  have HX := Lib.hid hx
  have HG := Lib.hid hg
  have HM4 : Hid (x.outs.length = m4) := Lib.hid hB4.1
  clear hB3 hB4 hx hg hb1 hZ
  rw [← hw1] at HZ HB1 HBS HOS p0 p1 p2 p3
  have HW1 := Lib.hid hw1
  go_enter Tryd.func39, Tryd.ntmps39
  rw [hw1] at p0 p1 p2 p3
  clear hw1
  go_wp2_with (fail)
  rw [← HW1.out]
  clear p0 p1 p2 p3 HW1
  refine (refEvent x.k x.n x.kp A3 m3 c3 x.l w1 HBS.out (by have := HM3.out; omega) HX.out.n.1 HX.out.n.2 HX.out.kp.1 HX.out.kp.2).mono ?_
  rcases hE : evT x.k x.n x.kp x.l with ⟨T1, er⟩
  have HCD : Hid (codeT x = er) := Lib.hid (by unfold codeT; rw [hE])
  have HTX : Hid (stepT x = T1 ++ [10] ++ outsT x.outs ++ goneT x.cr) := Lib.hid (by unfold stepT; rw [hE])
  have HTL : Hid (T1.length ≤ 3000000) := Lib.hid (by have := evT_len x.k x.n x.kp x.l HX.out.n HX.out.kp; rw [hE] at this; dsimp only at this; have := HG.out; omega)
  clear hE
  rintro e w2 ⟨rfl, hb2⟩
  have HB2 := Lib.hid hb2
  clear hb2
  dsimp only
  by_cases her : er = 0
  · subst her
    have HS0 : Hid (stT x = (stepT x, 0)) := Lib.hid (if_pos HCD.out)
    have h0 : ¬ (9223372036854775807 < (txt T1).size + 1) := by rw [txt_len]; have := HTL.out; omega
    have HA0 : Hid (txt T1 ++ (⟨#[10]⟩ : ByteArray) = txt (T1 ++ [10])) := Lib.hid (txt_appT T1 [10])
    obtain ⟨u, hu⟩ : ∃ u, u = txt T1 := ⟨_, rfl⟩
    rw [show str T1 = .string (txt T1) from rfl]
    rw [← hu] at h0 HA0 ⊢
    clear hu
    obtain ⟨G, hG⟩ : ∃ G, G = w.heap.size := ⟨_, rfl⟩
    rw [← hG] at HZ ⊢
    have HGG := Lib.hid hG
    clear hG
    have HZ2 := Lib.hid ((HB2.out.block _ (Array.getElem?_eq_some_iff.1 HZ.out).1).trans HZ.out)
    go_wp2_with (fail)
    rw [HA0.out]
    obtain ⟨P, hP⟩ : ∃ P, P = T1 ++ [10] := ⟨_, rfl⟩
    have HPP := Lib.hid hP
    have HPL : Hid (P.length ≤ 4000000) := Lib.hid (by rw [hP]; have := HTL.out; simp; omega)
    rw [← hP]
    clear hP h0
    go_loopw [6, 4, 7] (fun i s _ wr => ∃ j : Nat, j ≤ m4 ∧ i = .int .i64 j ∧ s = .string (txt (P ++ outsT (x.outs.take j))) ∧ Below w1.heap.size w1 wr) (fun i _ _ _ => m4 - (intOf i).toNat)
    case atStart => exact ⟨0, by omega, rfl, by simp [outsT], HB2.out⟩
    case round =>
      obtain ⟨wi, rfl⟩ : ∃ wi : World, wi = wr := ⟨_, rfl⟩
      obtain ⟨j, hj, rfl, rfl, hbi⟩ := hrel
      have HBI := Lib.hid hbi
      have HZI := Lib.hid ((hbi.block _ (Array.getElem?_eq_some_iff.1 HZ.out).1).trans HZ.out)
      have p4 := cell_of_row _ G 4 _ _ _ HZI.out
      have p5 := cell_of_row _ G 5 _ _ _ HZI.out
      simp only [List.getElem?_toArray, List.getElem?_cons_zero, List.getElem?_cons_succ] at p4 p5
      have HOL : Hid (∀ j, (outsT (x.outs.take j)).length ≤ 10000000) := Lib.hid (fun j => by have := outsT_len (x.outs.take j); have := sumO_take_le x.outs j; have := HG.out; omega)
      by_cases hjt : j < m4
      · have hjl : j < x.outs.length := by have := HM4.out; omega
        obtain ⟨y, hy⟩ : ∃ y, y = x.outs[j] := ⟨_, rfl⟩
        have HTO : Hid (P ++ outsT (x.outs.take (j + 1)) = P ++ outsT (x.outs.take j) ++ (outT y ++ [10])) := Lib.hid (by rw [hy, outsT_take hjl, List.append_assoc])
        have HYL : Hid (y.l.length ≤ 1000000) := Lib.hid (by have := sumO_mem (L := x.outs) (o := y) (hy ▸ List.getElem_mem hjl); have := HG.out; omega)
        obtain ⟨b', o', rfl, hc'⟩ := HOS.out.2.2.2 (by omega)
        obtain ⟨y0, A5, m5, c5, y1, hB5⟩ := (hy ▸ hc' j _ (List.getElem?_eq_getElem hjl) : OutAt w1 b' o' j y).below hbi
        have hmc : (m4 : Int) ≤ (c4 : Int) := by have := HOS.out.2.1; omega
        have hmx : c4 ≤ 9223372036854775807 := by have := HOS.out.2.2.1; simpa only [maxLen] using this
        have hw5 : IntKind.i64.wrap ((j : Int) + 1) = (j : Int) + 1 := IntWalk.i64_in _ (by have := len_sumO x.outs; have := HG.out; have := HM4.out; omega)
        have HB5 := Lib.hid hB5
        have HXL : Hid ((hexD y.l).length ≤ 3000000) := Lib.hid (by have := hexD_len y.l; have := HYL.out; omega)
        obtain ⟨K, hK⟩ : ∃ K, K = P ++ outsT (x.outs.take j) := ⟨_, rfl⟩
        have HKL : Hid (K.length ≤ 20000000) := Lib.hid (by rw [hK]; have := HPL.out; have := HOL.out j; simp; omega)
        rw [← hK] at HTO ⊢
        clear hK hy hjl hc' hbi hB5
        cases hyb : y.back
        · rw [hyb] at y0
          have HQ1 : Hid (txt K ++ (⟨#[111, 110, 32]⟩ : ByteArray) = txt (K ++ [111, 110, 32])) := Lib.hid (txt_appT K [111, 110, 32])
          have h1 : ¬ (9223372036854775807 < (txt K).size + 3) := by rw [txt_len]; have := HKL.out; omega
          have HOT : Hid (outT y = [111, 110, 32] ++ hexD y.l) := Lib.hid (by unfold outT; rw [hyb]; rfl)
          have HS1 : Hid ((txt K).size ≤ 20000000) := Lib.hid (by rw [txt_len]; exact HKL.out)
          obtain ⟨u, hu⟩ : ∃ u, u = txt K := ⟨_, rfl⟩
          rw [← hu] at HQ1 h1 HS1 ⊢
          have HU := Lib.hid hu
          clear hu hyb
          go_wp2_with (fail)
          refine (refHex A5 m5 c5 y.l wi HB5.out (by have := HB5.out.len; have := HYL.out; omega)).mono ?_
          rintro e w4 ⟨rfl, hb4⟩
          have HB4 := Lib.hid (HBI.out.trans (hb4.mono HBI.out.size))
          rw [show str (hexD y.l) = .string (txt (hexD y.l)) from rfl]
          have HS2 : Hid ((txt (hexD y.l)).size ≤ 3000000) := Lib.hid (by rw [txt_len]; exact HXL.out)
          have HVV : Hid (u ++ (⟨#[111, 110, 32]⟩ : ByteArray) ++ txt (hexD y.l) ++ (⟨#[10]⟩ : ByteArray) = txt (K ++ (outT y ++ [10]))) := Lib.hid (by
            rw [HQ1.out, txt_appT (K ++ [111, 110, 32]) (hexD y.l), show (⟨#[10]⟩ : ByteArray) = txt [10] from rfl, txt_appT, HOT.out]
            simp)
          obtain ⟨v, hv⟩ : ∃ v, v = txt (hexD y.l) := ⟨_, rfl⟩
          rw [← hv] at HS2 HVV ⊢
          have h2 : ¬ (9223372036854775807 < u.size + 3 + v.size) := by have := HS1.out; have := HS2.out; omega
          have h3 : ¬ (9223372036854775807 < u.size + 3 + v.size + 1) := by have := HS1.out; have := HS2.out; omega
          clear hv hb4 h1
          go_wp2_with (fail)
          exact ⟨⟨j + 1, by omega, rfl, by rw [HTO.out, HVV.out], HB4.out⟩, by simp [intOf]; omega⟩
        · rw [hyb] at y0
          have HQ1 : Hid (txt K ++ (⟨#[98, 97, 99, 107, 32]⟩ : ByteArray) = txt (K ++ [98, 97, 99, 107, 32])) := Lib.hid (txt_appT K [98, 97, 99, 107, 32])
          have h1 : ¬ (9223372036854775807 < (txt K).size + 5) := by rw [txt_len]; have := HKL.out; omega
          have HOT : Hid (outT y = [98, 97, 99, 107, 32] ++ hexD y.l) := Lib.hid (by unfold outT; rw [hyb]; rfl)
          have HS1 : Hid ((txt K).size ≤ 20000000) := Lib.hid (by rw [txt_len]; exact HKL.out)
          obtain ⟨u, hu⟩ : ∃ u, u = txt K := ⟨_, rfl⟩
          rw [← hu] at HQ1 h1 HS1 ⊢
          have HU := Lib.hid hu
          clear hu hyb
          go_wp2_with (fail)
          refine (refHex A5 m5 c5 y.l wi HB5.out (by have := HB5.out.len; have := HYL.out; omega)).mono ?_
          rintro e w4 ⟨rfl, hb4⟩
          have HB4 := Lib.hid (HBI.out.trans (hb4.mono HBI.out.size))
          rw [show str (hexD y.l) = .string (txt (hexD y.l)) from rfl]
          have HS2 : Hid ((txt (hexD y.l)).size ≤ 3000000) := Lib.hid (by rw [txt_len]; exact HXL.out)
          have HVV : Hid (u ++ (⟨#[98, 97, 99, 107, 32]⟩ : ByteArray) ++ txt (hexD y.l) ++ (⟨#[10]⟩ : ByteArray) = txt (K ++ (outT y ++ [10]))) := Lib.hid (by
            rw [HQ1.out, txt_appT (K ++ [98, 97, 99, 107, 32]) (hexD y.l), show (⟨#[10]⟩ : ByteArray) = txt [10] from rfl, txt_appT, HOT.out]
            simp)
          obtain ⟨v, hv⟩ : ∃ v, v = txt (hexD y.l) := ⟨_, rfl⟩
          rw [← hv] at HS2 HVV ⊢
          have h2 : ¬ (9223372036854775807 < u.size + 5 + v.size) := by have := HS1.out; have := HS2.out; omega
          have h3 : ¬ (9223372036854775807 < u.size + 5 + v.size + 1) := by have := HS1.out; have := HS2.out; omega
          clear hv hb4 h1
          go_wp2_with (fail)
          exact ⟨⟨j + 1, by omega, rfl, by rw [HTO.out, HVV.out], HB4.out⟩, by simp [intOf]; omega⟩
      · have hje : j = m4 := by omega
        subst hje
        have HOE : Hid (outsT (x.outs.take j) = outsT x.outs) := Lib.hid (by rw [List.take_of_length_le (l := x.outs) (by have := HM4.out; omega)])
        have HO2 : Hid ((outsT x.outs).length ≤ 10000000) := Lib.hid (by have := HOL.out j; rwa [HOE.out] at this)
        have HBF := Lib.hid (HB1.out.trans (hbi.mono HB1.out.size))
        rw [HOE.out]
        clear hbi hjt HOE HOL
        cases hcr : x.cr
        · rw [hcr] at p5 HTX
          have HE : Hid (txt (P ++ outsT x.outs) = txt (stepT x)) := Lib.hid (by rw [HTX.out, HPP.out]; simp [goneT])
          rw [HE.out]
          go_wp2_with (fail)
          go_ret2
          rw [HS0.out]
          exact ⟨rfl, HGG.out ▸ HBF.out⟩
        · rw [hcr] at p5 HTX
          have HE : Hid (txt (P ++ outsT x.outs) ++ (⟨#[103, 111, 110, 101, 10]⟩ : ByteArray) = txt (stepT x)) := Lib.hid (by rw [show (⟨#[103, 111, 110, 101, 10]⟩ : ByteArray) = txt [103, 111, 110, 101, 10] from rfl, txt_appT, HTX.out, HPP.out]; simp [goneT])
          have h1 : ¬ (9223372036854775807 < (txt (P ++ outsT x.outs)).size + 5) := by rw [txt_len, List.length_append]; have := HPL.out; have := HO2.out; omega
          obtain ⟨u, hu⟩ : ∃ u, u = txt (P ++ outsT x.outs) := ⟨_, rfl⟩
          rw [← hu] at HE h1 ⊢
          clear hu
          go_wp2_with (fail)
          go_ret2
          rw [HS0.out, HE.out]
          exact ⟨rfl, HGG.out ▸ HBF.out⟩
  · have n1 : (er == 0) = false := by rw [beq_eq_false_iff_ne]; exact her
    have n2 : (er != 0) = true := by rw [bne, n1]; rfl
    have HS0 : Hid (stT x = ([], er)) := Lib.hid (by unfold stT; rw [if_neg (by rw [HCD.out]; exact her), HCD.out])
    have HBF := Lib.hid (HB1.out.trans (HB2.out.mono HB1.out.size))
    clear her
    go_wp2_with (fail)
    go_ret2
    rw [HS0.out]
    exact ⟨rfl, HBF.out⟩

set_option maxHeartbeats 8000000 in
set_option maxRecDepth 100000 in
theorem refFormat (A : Option Addr) (n c : Nat) (L : List TStep) (w : World) (hS : Sts w A n c L) (hf : ∀ x ∈ L, x.Fits) (hg : sumG L ≤ 1000000) :
    Calls Tryd.prog 22 #[.slice A n c] w (RetT (fmtD L) w) := by
  have HS := Lib.hid hS
  have HG := Lib.hid hg
  have HL : Hid (L.length = n) := Lib.hid hS.1
  have HN : Hid (n ≤ 1000000) := Lib.hid (by have := len_sumG L; have := hS.1; omega)
  have HF := Lib.hid hf
  have HLEN : Hid (∀ k, (stepsT (L.take k)).length ≤ 100000000) := Lib.hid (fun k => by
    have h1 := sumG_take_le L k
    have h2 := stepsT_len (L := L.take k) (fun x hx => hf x (List.mem_of_mem_take hx))
    omega)
  clear hS hf hg
  go_enter Tryd.func22, Tryd.ntmps22
  go_wp2_with (fail)
  go_loopw [5, 4, 6, 7] (fun i s _ _ wr => ∃ k : Nat, k ≤ n ∧ i = .int .i64 k ∧ s = .string (txt (stepsT (L.take k))) ∧ (∀ x ∈ L.take k, codeT x = 0) ∧ Below w.heap.size w wr) (fun i _ _ _ _ => n - (intOf i).toNat)
  case atStart => exact ⟨0, by omega, rfl, rfl, (fun x hx => by cases hx), Below.refl _ _⟩
  case round =>
    obtain ⟨wo, rfl⟩ : ∃ wo : World, wo = wr := ⟨_, rfl⟩
    obtain ⟨k, hk, rfl, rfl, hc0, hb⟩ := hrel
    have HB := Lib.hid hb
    have HC0 := Lib.hid hc0
    clear hc0
    by_cases hlt : k < n
    · have hkl : k < L.length := by have := HL.out; omega
      obtain ⟨x, hx⟩ : ∃ x, x = L[k] := ⟨_, rfl⟩
      have HTK : Hid (stepsT (L.take (k + 1)) = stepsT (L.take k) ++ stepT x) := Lib.hid (hx ▸ stepsT_take hkl)
      have HBAD : Hid (codeT x ≠ 0 → fmtD L = ([], codeT x)) := Lib.hid (fun h => by rw [hx] at h ⊢; exact fmt_bad hkl HC0.out h)
      have HGOOD : Hid (codeT x = 0 → ∀ y ∈ L.take (k + 1), codeT y = 0) := Lib.hid (fun h y hy => by
        rw [List.take_succ_eq_append_getElem hkl] at hy
        rcases List.mem_append.1 hy with e | e
        · exact HC0.out y e
        · rw [List.mem_singleton.1 e, ← hx]; exact h)
      have HFX : Hid x.Fits := Lib.hid (hx ▸ HF.out _ (List.getElem_mem hkl))
      have HXG : Hid (1 + x.l.length + sumO x.outs ≤ 1000000) := Lib.hid (by have := sumG_mem (L := L) (x := x) (hx ▸ List.getElem_mem hkl); have := HG.out; omega)
      obtain ⟨b, o, rfl, hc⟩ := HS.out.2.2.2 (by omega)
      obtain ⟨a0, a1, a2, ⟨A3, m3, c3, a3, hB3⟩, ⟨A4, m4, c4, a4, hB4⟩, a5⟩ := (hx ▸ hc k _ (List.getElem?_eq_getElem hkl) : StepAt w b o k x).below hb
      have HB3 := Lib.hid hB3
      have HB4 := Lib.hid hB4
      have hkc : (n : Int) ≤ (c : Int) := by have := HS.out.2.1; omega
      have hmx : c ≤ 9223372036854775807 := by have := HS.out.2.2.1; simpa only [maxLen] using this
      have hw5 : IntKind.i64.wrap ((k : Int) + 1) = (k : Int) + 1 := IntWalk.i64_in _ (by have := HN.out; omega)
      obtain ⟨K, hK⟩ : ∃ K, K = stepsT (L.take k) := ⟨_, rfl⟩
      have HKL : Hid (K.length ≤ 100000000) := Lib.hid (hK ▸ HLEN.out k)
      rw [← hK] at HTK ⊢
      clear hK hx hkl hc hb hB3 hB4
      go_wp2_with (fail)
      refine (refStep x A3 m3 c3 A4 m4 c4 wo HB3.out HB4.out HFX.out HXG.out).mono ?_
      rintro e w2 ⟨rfl, hb2⟩
      have HB2 := Lib.hid (HB.out.trans (hb2.mono HB.out.size))
      clear hb2
      unfold stT
      by_cases hcd : codeT x = 0
      · rw [if_pos hcd]
        have HCD := Lib.hid hcd
        have HSL : Hid ((stepT x).length ≤ 100000000) := Lib.hid (by have := stepT_len x HFX.out; have := HXG.out; omega)
        have HVV : Hid (txt K ++ txt (stepT x) = txt (stepsT (L.take (k + 1)))) := Lib.hid (by rw [txt_appT, HTK.out])
        have h1 : ¬ (9223372036854775807 < (txt K).size + (txt (stepT x)).size) := by rw [txt_len, txt_len]; have := HKL.out; have := HSL.out; omega
        dsimp only
        rw [show str (stepT x) = .string (txt (stepT x)) from rfl]
        obtain ⟨u, hu⟩ : ∃ u, u = txt K := ⟨_, rfl⟩
        obtain ⟨v, hv⟩ : ∃ v, v = txt (stepT x) := ⟨_, rfl⟩
        rw [← hu, ← hv] at HVV h1 ⊢
        clear hu hv hcd
        go_wp2_with (fail)
        exact ⟨⟨k + 1, by omega, rfl, by rw [HVV.out], HGOOD.out HCD.out, HB2.out⟩, by simp [intOf]; omega⟩
      · rw [if_neg hcd]
        have HE := Lib.hid (HBAD.out hcd)
        obtain ⟨er, her⟩ : ∃ er, er = codeT x := ⟨_, rfl⟩
        rw [← her] at HE hcd ⊢
        have n1 : (er == 0) = false := by rw [beq_eq_false_iff_ne]; exact hcd
        have n2 : (er != 0) = true := by rw [bne, n1]; rfl
        clear her hcd
        dsimp only
        go_wp2_with (fail)
        go_ret2
        rw [HE.out]
        exact ⟨rfl, HB2.out⟩
    · obtain rfl : k = n := by omega
      have HT : Hid (L.take k = L) := Lib.hid (List.take_of_length_le (by have := HL.out; omega))
      rw [HT.out] at HC0 ⊢
      have HFM : Hid (fmtD L = (stepsT L, 0)) := Lib.hid (fmt_ok HC0.out)
      clear hb hlt
      go_wp2_with (fail)
      go_ret2
      rw [HFM.out]
      exact ⟨rfl, HB.out⟩
end Go.Proofs.YtnoppnnpennddaaDoor
