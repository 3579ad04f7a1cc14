/- TraceLines, walked. -/
import Derived.Test.YtnoppnnpennddaaDoorTrF
namespace Go.Proofs.YtnoppnnpennddaaDoor
open Go.RowKit

theorem fmtD_cases (L : List TStep) : (∃ x, fmtD L = ([], x) ∧ x ≠ 0) ∨ fmtD L = (stepsT L, 0) := by
  unfold fmtD
  split
  · rename_i x h
    exact .inl ⟨_, rfl, by simpa using List.find?_some h⟩
  · exact .inr rfl
theorem lines_take {S : List UInt8} {j : Nat} (h : j < S.length) : lines (S.take (j + 1)) = lines (S.take j) + (if S[j] = 10 then 1 else 0) := by
  unfold lines
  rw [List.take_succ_eq_append_getElem h, List.count_append, List.count_singleton]
  simp
theorem strIxV (x : ByteArray) (j : Nat) (h : j < x.size) (z : Int) (hz : z = (j : Int)) (W : World) : (Instr.index 9 (.string x) (.int .i64 z)).run Tryd.prog W = .ok (.int .u8 (x[j].toNat : Int)) W := strIx x j h z hz W
theorem lines_le (S : List UInt8) : lines S ≤ S.length := List.count_le_length

set_option maxHeartbeats 16000000 in
set_option maxRecDepth 100000 in
theorem traceLines_walk (A : Option Addr) (n c : Nat) (L : List TStep) (w : World) (hv : TRows w ∧ MaxLen w ∧ Pow w) (hS : Sts w A n c L) (hf : ∀ x ∈ L, x.Fits) (hn : n ≤ 1048576) :
    Calls Tryd.prog 9 #[.slice A n c] w fun e w' => e = .returned (.bool true) ∧ Below w.heap.size w w' := by
  have HR := Lib.hid (fun W (hb : Below w.heap.size w W) => hv.1.below hb)
  have HM := Lib.hid (fun W (hb : Below w.heap.size w W) => hv.2.1.below hb)
  have HP := Lib.hid (fun W (hb : Below w.heap.size w W) => hv.2.2.below hb)
  have HS := Lib.hid hS
  have HF := Lib.hid hf
  have HN := Lib.hid hn
  have HL : Hid (L.length = n) := Lib.hid hS.1
  clear hv hS hf hn
  go_enter Tryd.func9, Tryd.ntmps9
  go_wp2_with (fail)
  refine (alive19 w (HM.out _ (Below.refl _ _)) (HR.out _ (Below.refl _ _))).mono ?_
  rintro e w1 ⟨rfl, hb1⟩
  have HB1 := Lib.hid hb1
  clear hb1
  go_wp2_with (fail)
  refine (great_ A n c L w1 (HS.out.below HB1.out) HN.out HF.out).mono ?_
  rintro e w2 ⟨rfl, hb2⟩
  have HB2 := Lib.hid (HB1.out.trans (hb2.mono HB1.out.size))
  clear hb2 HB1
  by_cases hbig : 1500 < sumG L
  · as_aux_lemma =>
    have d1 : decide ((1500 : Int) < (sumG L : Int)) = true := by rw [decide_eq_true_iff]; omega
    rw [d1]
    clear d1
    go_wp2_with (fail)
    refine (alive19 w2 (HM.out _ HB2.out) (HR.out _ HB2.out)).mono ?_
    rintro e w3 ⟨rfl, hb3⟩
    have HB3 := Lib.hid (HB2.out.trans (hb3.mono HB2.out.size))
    clear hb3
    go_wp2_with (fail)
    go_ret
    exact ⟨rfl, HB3.out⟩
  have d1 : decide ((1500 : Int) < (sumG L : Int)) = false := by rw [decide_eq_false_iff_not]; omega
  rw [d1]
  have HG : Hid (sumG L ≤ 1500) := Lib.hid (by omega)
  clear d1 hbig
  go_wp2_with (fail)
  refine (format_ A n c L w2 (HS.out.below HB2.out) HF.out (by have := HG.out; omega) (HR.out _ HB2.out) (HP.out _ HB2.out)).mono ?_
  rcases fmtD_cases L with ⟨er, he, hne⟩ | he
  · as_aux_lemma =>
    rw [he]
    rintro e w3 ⟨rfl, hb3⟩
    have HB3 := Lib.hid (HB2.out.trans (hb3.mono HB2.out.size))
    have n1 : (er == 0) = false := by rw [beq_eq_false_iff_ne]; exact hne
    have n2 : (er != 0) = true := by rw [bne, n1]; rfl
    clear hb3 he hne
    dsimp only
    rw [str_nil]
    go_wp2_with (fail)
    go_ret
    exact ⟨rfl, HB3.out⟩
  rw [he]
  rintro e w3 ⟨rfl, hb3⟩
  have HB3 := Lib.hid (HB2.out.trans (hb3.mono HB2.out.size))
  have HWN := Lib.hid (stepsT_lines L)
  have HLA := Lib.hid (stepsT_last L)
  have HSL : Hid ((stepsT L).length ≤ 150000) := Lib.hid (by have := stepsT_len HF.out; have := HG.out; omega)
  have HWL : Hid (∀ k, wantT (L.take k) ≤ 3000) := Lib.hid (fun k => by have h1 := wantT_le (L := L.take k); have h2 := sumG_take_le L k; have := HG.out; omega)
  obtain ⟨S, hS⟩ : ∃ S, S = stepsT L := ⟨_, rfl⟩
  dsimp only
  rw [← hS] at HWN HLA HSL ⊢
  clear hb3 he hS HB2
  obtain ⟨s, hs⟩ : ∃ s, s = txt S := ⟨_, rfl⟩
  have HSS : Hid (s.data.toList = S) := Lib.hid (by rw [hs])
  have HSZ : Hid (s.size = S.length) := Lib.hid (by rw [hs]; simp [ByteArray.size])
  rw [show str S = .string (txt S) from rfl, ← hs]
  clear hs
  go_wp2_with (fail)
  go_loopw [28, 5, 8] (fun i z _ wr => ∃ k : Nat, k ≤ n ∧ i = .int .i64 k ∧ z = .int .i64 (wantT (L.take k) : Nat) ∧ Below w.heap.size w wr) (fun i _ _ _ => n - (intOf i).toNat)
  case atStart => exact ⟨0, by omega, rfl, rfl, HB3.out⟩
  case round =>
    obtain ⟨wo, rfl⟩ : ∃ wo : World, wo = wr := ⟨_, rfl⟩
    obtain ⟨k, hk, rfl, rfl, hb⟩ := hrel
    have HB := Lib.hid hb
    by_cases hlt : k < n
    · as_aux_lemma =>
      have hkl : k < L.length := by have := HL.out; omega
      obtain ⟨x, hx⟩ : ∃ x, x = L[k] := ⟨_, rfl⟩
      have HT : Hid (wantT (L.take (k + 1)) = wantT (L.take k) + (1 + x.outs.length + (if x.cr then 1 else 0))) := Lib.hid (hx ▸ wantT_take hkl)
      have HFX : Hid x.Fits := Lib.hid (hx ▸ HF.out _ (List.getElem_mem hkl))
      obtain ⟨b, o, rfl, hc⟩ := HS.out.2.2.2 (by omega)
      obtain ⟨a0, a1, a2, ⟨A3, m3, c3, a3, hB3⟩, ⟨A4, m4, c4, a4, hB4⟩, a5⟩ := (hx ▸ hc k _ (List.getElem?_eq_getElem hkl) : StepAt w b o k x).below hb
      have hm4 : m4 = x.outs.length := hB4.1.symm
      have HM4 := Lib.hid hm4
      have HWK := Lib.hid (HWL.out k)
      have hkc : (n : Int) ≤ (c : Int) := by have := HS.out.2.1; omega
      have hmx : c ≤ 9223372036854775807 := by have := HS.out.2.2.1; simpa only [maxLen] using this
      have p4 := box_cells wo [.int .i64 x.k, .int .i64 x.n, .int .i64 x.kp, .slice A3 m3 c3, .slice A4 m4 c4, .bool x.cr] TS 4 _ rfl
      have p5 := box_cells wo [.int .i64 x.k, .int .i64 x.n, .int .i64 x.kp, .slice A3 m3 c3, .slice A4 m4 c4, .bool x.cr] TS 5 _ rfl
      have hb1 : Below wo.heap.size wo (wo.alloc (.cells #[.int .i64 x.k, .int .i64 x.n, .int .i64 x.kp, .slice A3 m3 c3, .slice A4 m4 c4, .bool x.cr] TS)) := (Below.refl _ wo).alloc (Nat.le_refl _) _
      have HBE := Lib.hid (HB.out.trans (hb1.mono HB.out.size))
      have hw3 : IntKind.i64.wrap (1 + (m4 : Int)) = 1 + (m4 : Int) := IntWalk.i64_in _ (by have := HFX.out.outs; omega)
      have hw4 : IntKind.i64.wrap ((wantT (L.take k) : Int) + (1 + (m4 : Int))) = (wantT (L.take k) : Int) + (1 + (m4 : Int)) := IntWalk.i64_in _ (by have := HFX.out.outs; have := HWK.out; omega)
      have hw5 : IntKind.i64.wrap ((k : Int) + 1) = (k : Int) + 1 := IntWalk.i64_in _ (by have := HN.out; omega)
      have hw6 : IntKind.i64.wrap ((wantT (L.take k) : Int) + (1 + (m4 : Int)) + 1) = (wantT (L.take k) : Int) + (1 + (m4 : Int)) + 1 := IntWalk.i64_in _ (by have := HFX.out.outs; have := HWK.out; omega)
      obtain ⟨q, hq⟩ : ∃ q, q = wantT (L.take k) := ⟨_, rfl⟩
      rw [← hq] at HT hw4 hw6 ⊢
      clear hx hkl hc hb hB3 hB4 hb1 hm4 hq HWK
      cases hcr : x.cr
      · as_aux_lemma =>
        rw [hcr] at a5 p4 p5 HT HBE
        go_wp2_with (fail)
        exact ⟨⟨k + 1, by omega, rfl, by rw [HT.out, ← HM4.out]; first | (simp; done) | (simp; omega), HBE.out⟩, by simp [intOf]; omega⟩
      · as_aux_lemma =>
        rw [hcr] at a5 p4 p5 HT HBE
        go_wp2_with (fail)
        exact ⟨⟨k + 1, by omega, rfl, by rw [HT.out, ← HM4.out]; first | (simp; done) | (simp; omega), HBE.out⟩, by simp [intOf]; omega⟩
    · obtain rfl : k = n := by omega
      have HT : Hid (wantT (L.take k) = lines S) := Lib.hid (by rw [List.take_of_length_le (l := L) (by have := HL.out; omega), HWN.out])
      rw [HT.out]
      clear hb hlt
      go_wp2_with (fail)
      go_loopw [45, 6, 9] (fun i z _ wr => ∃ j : Nat, j ≤ S.length ∧ i = .int .i64 j ∧ z = .int .i64 (lines (S.take j) : Nat) ∧ wr = wo) (fun i _ _ _ => S.length - (intOf i).toNat)
      case atStart => exact ⟨0, by omega, rfl, rfl, rfl⟩
      case round =>
        obtain ⟨j, hj, rfl, rfl, hwr⟩ := hrel
        obtain rfl := hwr
        have HLJ : Hid (lines (S.take j) ≤ 150000) := Lib.hid (by have := lines_le (S.take j); have h := List.length_take_le' j S; have := HSL.out; omega)
        by_cases hjt : j < S.length
        · have hjs : j < s.size := by rw [HSZ.out]; exact hjt
          have HTO := Lib.hid (lines_take hjt)
          have e1 : s[j] = S[j] := by
            rw [← getD_ix s j hjs, HSS.out, List.getD_eq_getElem?_getD, List.getElem?_eq_getElem hjt]
            rfl
          have ix : ∀ W, (Instr.index 9 (.string s) (.int .i64 (j : Int))).run Tryd.prog W = .ok (.int .u8 (s[j].toNat : Int)) W := fun W => strIxV s j hjs _ rfl W
          rw [e1] at ix
          obtain ⟨y, hy⟩ : ∃ y, y = S[j] := ⟨_, rfl⟩
          rw [← hy] at ix HTO
          have hjl : (j : Int) < (s.size : Int) := by omega
          have hw5 : IntKind.i64.wrap ((j : Int) + 1) = (j : Int) + 1 := IntWalk.i64_in _ (by have := HSL.out; omega)
          have hw6 : IntKind.i64.wrap ((lines (S.take j) : Int) + 1) = (lines (S.take j) : Int) + 1 := IntWalk.i64_in _ (by have := HLJ.out; omega)
          clear hy e1
          by_cases h10 : y = 10
          · as_aux_lemma =>
            subst h10
            go_wp2_with (fail)
            exact ⟨⟨j + 1, by omega, rfl, by rw [HTO.out]; simp, trivial⟩, by simp [intOf]; omega⟩
          · as_aux_lemma =>
            have n1 : ((y.toNat : Int) == 10) = false := by
              rw [beq_eq_false_iff_ne]
              intro e
              exact h10 (UInt8.toNat_inj.1 (by have : y.toNat = 10 := by omega
                                               rw [this]; rfl))
            go_wp2_with (fail)
            exact ⟨⟨j + 1, by omega, rfl, by rw [HTO.out, if_neg h10]; rfl, trivial⟩, by simp [intOf]; omega⟩
        · have hje : j = S.length := by omega
          subst hje
          have hnj : ¬ ((S.length : Int) < (s.size : Int)) := by rw [HSZ.out]; omega
          rw [List.take_length]
          clear HLJ
          rcases HLA.out with h0 | h1
          · as_aux_lemma =>
            have e2 : s.toList.isEmpty = true := by rw [Go.ByteArray.toList_eq, HSS.out, h0]; rfl
            clear hjt hj h0
            go_wp2_with (fail)
            go_ret
            exact ⟨rfl, HB.out⟩
          · as_aux_lemma =>
            have hpos : 0 < S.length := by cases S with | nil => cases h1 | cons a r => simp
            have e2 : s.toList.isEmpty = false := by rw [Go.ByteArray.toList_eq, HSS.out]; cases S with | nil => cases h1 | cons a r => rfl
            have hjs : S.length - 1 < s.size := by rw [HSZ.out]; omega
            have e1 : s[S.length - 1] = 10 := by
              rw [← getD_ix s _ hjs, HSS.out, List.getD_eq_getElem?_getD, ← List.getLast?_eq_getElem?, h1]
              rfl
            have ix : ∀ W, (Instr.index 9 (.string s) (.int .i64 ((s.size : Int) - 1))).run Tryd.prog W = .ok (.int .u8 (s[S.length - 1].toNat : Int)) W := fun W => strIxV s (S.length - 1) hjs _ (by rw [HSZ.out]; omega) W
            rw [e1] at ix
            have hw7 : IntKind.i64.wrap ((s.size : Int) - 1) = (s.size : Int) - 1 := IntWalk.i64_in _ (by have := HSL.out; have := HSZ.out; omega)
            clear hjt hj h1 hjs e1
            go_wp2_with (fail)
            go_ret
            exact ⟨rfl, HB.out⟩
end Go.Proofs.YtnoppnnpennddaaDoor
