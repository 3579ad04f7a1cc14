/- DiskArms, walked. -/
import Derived.Test.YtecmadodpkfnnabDk10
import Derived.Test.YtecmadodpkfnnabDkAlive
import Derived.OpenShut
namespace Go.Proofs.Ytecmadodpkfnnab
open Go.RowKit Go.MapKept

/-- where the disk stands ahead of round i -/
def dArm (u i k : Nat) (keep : Int) : Dk := ⟨1073741824, (u : Int), (i : Int) + 1, 0, if i < k then (k : Int) - (i : Int) else 0, keep⟩
theorem dArm_ok (u i k : Nat) (keep : Int) (hu : u ≤ 100) (hi : i ≤ 100) (hk : k ≤ 100) (hkp : -9223372036854775808 ≤ keep ∧ keep ≤ 9223372036854775807) : (dArm u i k keep).Ok := by
  refine ⟨show (0 : Int) ≤ 1073741824 ∧ (1073741824 : Int) ≤ 1073741824 by decide, show 0 ≤ (u : Int) ∧ (u : Int) ≤ 1073741824 by omega, show 0 ≤ (i : Int) + 1 ∧ (i : Int) + 1 ≤ 1152921504606846976 by omega, show (0 : Int) ≤ 0 ∧ (0 : Int) ≤ 9223372036854775807 by decide, ?_, hkp⟩
  unfold dArm
  simp only
  split <;> omega
theorem dArm_next (u i k u' : Nat) (keep : Int) (z : Int) (hz : (dArm u i k keep).used + z = (u' : Int)) : ({ (dArm u i k keep).begin with used := (dArm u i k keep).used + z } : Dk) = dArm u' (i + 1) k keep := by
  rw [hz]
  unfold dArm Dk.begin
  simp only [Dk.mk.injEq, true_and, and_true]
  refine ⟨by omega, ?_⟩
  by_cases h : i < k
  · have h0 : ¬ ((k : Int) - (i : Int) = 0) := by omega
    simp only [if_pos h, if_neg h0]
    by_cases h2 : i + 1 < k
    · simp only [if_pos h2]; omega
    · simp only [if_neg h2]; omega
  · have h2 : ¬ i + 1 < k := by omega
    simp only [if_neg h, if_neg h2, if_true]

set_option maxHeartbeats 4000000 in
set_option maxRecDepth 100000 in
theorem diskArms_walk (cn cm : Int) (keep : Int) (w : World) (hn : (Lit.int .u8 cn).wf = true) (hm : (Lit.int .u8 cm).wf = true) (hkp : (Lit.int .i64 keep).wf = true) : Calls Try.prog 8 #[.int .u8 cn, .int .u8 cm, .int .i64 keep] w (True_ w) := by
  have hn1 := bounds_u8 hn
  have hm1 := bounds_u8 hm
  have hkb := bounds_i64 hkp
  obtain ⟨k, hk⟩ : ∃ k : Nat, (k : Int) = 1 + cn % 50 := ⟨(1 + cn % 50).toNat, by omega⟩
  obtain ⟨T, hT⟩ : ∃ T : Nat, (T : Int) = (k : Int) + cm % 20 := ⟨((k : Int) + cm % 20).toNat, by omega⟩
  have e1 : 1 + cn % 50 = (k : Int) := hk.symm
  have e2 : (k : Int) + cm % 20 = (T : Int) := hT.symm
  have HK : Hid (1 ≤ k ∧ k ≤ 50 ∧ k ≤ T ∧ T ≤ 70) := Lib.hid (by omega)
  have HKP := Lib.hid hkb
  clear hn hm hkp hk hT
  go_enter Try.func8, Try.ntmps8
  go_wp2_with (fail)
  refine (dkNew 1073741824 (by decide) w).mono ?_
  rintro e w1 ⟨D, M, rfl, h1, hb1⟩
  have H1 := Lib.hid h1
  have HB1 := Lib.hid hb1
  clear h1 hb1
  go_wp2_with (fail)
  refine (dkAlive w1).mono ?_
  rintro e w2 ⟨rfl, hb2⟩
  have hb3 : Below w2.heap.size w2 (w2.alloc (.cells #[.int .u8 1] 5)) := (Below.refl _ _).alloc (Nat.le_refl _) _
  have HB2 : Hid (Below w.heap.size w w2) := Lib.hid (HB1.out.trans (hb2.mono HB1.out.size))
  have H3 := Lib.hid ((H1.out.below hb2).below hb3)
  have HB3 : Hid (Below w.heap.size w (w2.alloc (.cells #[.int .u8 1] 5))) := Lib.hid (HB2.out.trans (hb3.mono HB2.out.size))
  have HL3 : Hid (Bs (w2.alloc (.cells #[.int .u8 1] 5)) (some ⟨w2.heap.size, 0, none⟩) 1 1 [1]) := Lib.hid (Bs.lit w2 [1] 5 _ _ rfl rfl rfl (by simp [maxLen]))
  clear hb2 hb3 H1 HB1
  go_wp2_with (fail)
  refine (dkAppend_ok H3.out ⟨by decide, by decide, by decide, by decide, by decide, by decide⟩ lensNil nmA nameA (by decide) _ 1 1 [1] HL3.out HB3.out.size (by decide)).mono ?_
  rintro e w4 ⟨rfl, F4, h4, hc4, hf4⟩
  obtain ⟨g, v, rfl⟩ := fsOf_one (n := nmA) (f := ⟨[1], 0⟩) (by rw [hf4]; kernel_rfl)
  rw [show (appN (⟨1073741824, 0, 0, 0, 0, 0⟩ : Dk) 1 : Nat) = 1 from by kernel_rfl]
  have H4 : Hid (DkAt w4 w.heap.size D M ⟨1073741824, 1, 1, 0, 0, 0⟩ [⟨nmA, g, v, ⟨[1], 0⟩⟩]) := Lib.hid h4
  have HB4 : Hid (Below w.heap.size w w4) := Lib.hid (HB3.out.trans (DkCh.below H3.out hc4 HB3.out.size))
  clear h4 hc4 hf4 H3 HL3
  go_wp2_with (fail)
  refine (dkArm H4.out (k : Int) keep (by have := HK.out; omega)).mono ?_
  rintro e w5 ⟨rfl, h5, hc5⟩
  have H5 : Hid (DkAt w5 w.heap.size D M (dArm 1 0 k keep) [⟨nmA, g, v, ⟨[1], 0⟩⟩]) := Lib.hid (by
    have e : dArm 1 0 k keep = ⟨1073741824, 1, 1, 0, (k : Int), keep⟩ := by unfold dArm; rw [if_pos (by have := HK.out; omega)]; simp
    rw [e]; exact h5)
  have HB5 : Hid (Below w.heap.size w w5) := Lib.hid (HB4.out.trans (DkCh.below H4.out (DkCh.of1 hc5) HB4.out.size))
  clear h5 hc5 H4
  go_wp2_with (fail)
  go_loopw [47, 10, 11, 12, 13, 14] (fun i _ _ _ _ _ wr => ∃ (q : Nat) (bs : List UInt8) (g : Nat) (v : Value), q ≤ T ∧ i = .int .i64 q ∧ bs.length ≤ q + 1 ∧ DkAt wr w.heap.size D M (dArm bs.length q k keep) [⟨nmA, g, v, ⟨bs, 0⟩⟩] ∧ Below w.heap.size w wr) (fun i _ _ _ _ _ _ => T - (intOf i).toNat)
  case atStart => exact ⟨0, [1], g, v, Nat.zero_le _, rfl, by decide, H5.out, HB5.out⟩
  case round =>
    clear H5 HB5
    obtain ⟨q, bs, g, v, hq, rfl, hbl, hd, hb⟩ := hrel
    have HD := Lib.hid hd
    have HB := Lib.hid hb
    have HBL := Lib.hid hbl
    clear hd hb hbl
    by_cases hlt : q < T
    · have e3 : (q : Int) < (T : Int) := by omega
      have hb6 : Below wr.heap.size wr (wr.alloc (.cells #[.int .u8 2] 5)) := (Below.refl _ _).alloc (Nat.le_refl _) _
      have H6 := Lib.hid (HD.out.below hb6)
      have HB6 : Hid (Below w.heap.size w (wr.alloc (.cells #[.int .u8 2] 5))) := Lib.hid (HB.out.trans (hb6.mono HB.out.size))
      have HL6 : Hid (Bs (wr.alloc (.cells #[.int .u8 2] 5)) (some ⟨wr.heap.size, 0, none⟩) 1 1 [2]) := Lib.hid (Bs.lit wr [2] 5 _ _ rfl rfl rfl (by simp [maxLen]))
      have HOK := Lib.hid (dArm_ok bs.length q k keep (by have := HBL.out; have := HK.out; omega) (by have := HK.out; omega) (by have := HK.out; omega) HKP.out)
      have HLN : Hid (FileLens [⟨nmA, g, v, ⟨bs, 0⟩⟩]) := Lib.hid (fun e he => by obtain rfl := List.mem_singleton.1 he; have := HBL.out; have := HK.out; simp only; omega)
      have HAN : Hid (appN (dArm bs.length q k keep) 1 = 1) := Lib.hid (by unfold appN dArm; have := HBL.out; have := HK.out; simp only; omega)
      have hkb := HK.out
      clear hb6
      by_cases hqk : q + 1 = k
      · have HAM : Hid ((dArm bs.length q k keep).armedIn = 1) := Lib.hid (by unfold dArm; simp only; rw [if_pos (by omega)]; omega)
        have hkk : (k : Int) - 1 = (q : Int) := by omega
        have HQK := Lib.hid hqk
        clear hqk
        go_wp2_with (fail)
        refine (callApp_lost H6.out HOK.out HLN.out 0 0 nmA ⟨#[]⟩ nameA (by decide) _ 1 1 [2] HL6.out HB6.out.size HAM.out).mono ?_
        rintro e w7 ⟨rfl, F7, h7, hc7, hf7⟩
        generalize hz : appK (dArm bs.length q k keep) 1 = z at *
        have hz1 : z ≤ 1 := by rw [← hz]; unfold appK; have := HAN.out; omega
        obtain ⟨g7, v7, rfl⟩ := fsOf_one (n := nmA) (f := ⟨bs ++ [2].take z, 0⟩) (by rw [hf7]; rfl)
        have HLZ : Hid ((bs ++ ([2] : List UInt8).take z).length = bs.length + z) := Lib.hid (by simp; omega)
        have e7 := dArm_next bs.length q k (bs.length + z) keep (z : Int) (by unfold dArm; simp only; omega)
        rw [e7] at h7
        have H7 : Hid (DkAt w7 w.heap.size D M (dArm (bs ++ ([2] : List UInt8).take z).length (q + 1) k keep) [⟨nmA, g7, v7, ⟨bs ++ ([2] : List UInt8).take z, 0⟩⟩]) := Lib.hid (by rw [HLZ.out]; exact h7)
        have HB7 : Hid (Below w.heap.size w w7) := Lib.hid (HB6.out.trans (DkCh.below H6.out hc7 HB6.out.size))
        have HOP : Hid ((dArm bs.length q k keep).ops + 1 = (k : Int) + 1) := Lib.hid (by have := HQK.out; unfold dArm; simp only; omega)
        rw [HOP.out]
        have HBL7 : Hid ((bs ++ ([2] : List UInt8).take z).length ≤ q + 1 + 1) := Lib.hid (by rw [HLZ.out]; have := HBL.out; omega)
        generalize (bs ++ ([2] : List UInt8).take z) = bs7 at *
        obtain ⟨A7, c7, hv7⟩ := own_form (show w7.ownsRow w.heap.size 5 1 v7 bs7.length (u8s bs7) from (H7.out.files ⟨nmA, g7, v7, ⟨bs7, 0⟩⟩ (by simp)).own)
        subst hv7
        clear h7 hc7 hf7 hz hz1 HLZ e7
        go_wp2_with (fail)
        have HA7 := Lib.hid (show DkAt w7 w.heap.size D M (dArm bs7.length (q + 1) k keep) ([] ++ ⟨nmA, g7, .slice A7 bs7.length c7, ⟨bs7, 0⟩⟩ :: []) from H7.out)
        refine (dkTruncate_neg (P := []) (Q := []) (nm := nmA) (g := g7) (A0 := A7) (c0 := c7) (f := ⟨bs7, 0⟩) HA7.out (fun x hx => by cases hx) (-1) (by decide)).mono ?_
        rintro e w8 ⟨rfl, hb8⟩
        have H8 := Lib.hid (H7.out.below hb8)
        have HB8 : Hid (Below w.heap.size w w8) := Lib.hid (HB7.out.trans (hb8.mono HB7.out.size))
        clear hb8
        go_wp2_with (fail)
        refine (dkOps H8.out).mono ?_
        rintro e w9 ⟨rfl, rfl⟩
        rw [show (dArm bs7.length (q + 1) k keep).ops = (q : Int) + 2 from by unfold dArm; simp only; omega]
        go_wp2_with (fail)
        exact ⟨⟨q + 1, bs7, g7, _, by omega, by go_num, HBL7.out, H8.out, HB8.out⟩, by simp [intOf]; omega⟩
      · have HAM : Hid ((dArm bs.length q k keep).armedIn ≠ 1) := Lib.hid (by unfold dArm; simp only; split <;> omega)
        have hkk : ((q : Int) == (k : Int) - 1) = false := by rw [beq_eq_false_iff_ne]; omega
        clear hqk
        go_wp2_with (fail)
        refine (callApp_ok H6.out HOK.out HLN.out 0 0 nmA ⟨#[]⟩ nameA (by decide) _ 1 1 [2] HL6.out HB6.out.size HAM.out).mono ?_
        rintro e w7 ⟨rfl, F7, h7, hc7, hf7⟩
        rw [show appE (dArm bs.length q k keep) 1 = 0 from by unfold appE; rw [HAN.out]; rfl]
        rw [HAN.out] at h7 hf7 ⊢
        obtain ⟨g7, v7, rfl⟩ := fsOf_one (n := nmA) (f := ⟨bs ++ [2], 0⟩) (by rw [hf7]; rfl)
        have e7 := dArm_next bs.length q k (bs.length + 1) keep ((1 : Nat) : Int) (by unfold dArm; simp only; omega)
        rw [e7] at h7
        have H7 : Hid (DkAt w7 w.heap.size D M (dArm (bs ++ ([2] : List UInt8)).length (q + 1) k keep) [⟨nmA, g7, v7, ⟨bs ++ ([2] : List UInt8), 0⟩⟩]) := Lib.hid (by rw [List.length_append]; exact h7)
        have HB7 : Hid (Below w.heap.size w w7) := Lib.hid (HB6.out.trans (DkCh.below H6.out hc7 HB6.out.size))
        have HBL7 : Hid ((bs ++ ([2] : List UInt8)).length ≤ q + 1 + 1) := Lib.hid (by rw [List.length_append]; have := HBL.out; simp only [List.length_cons, List.length_nil]; omega)
        generalize (bs ++ ([2] : List UInt8)) = bs7 at *
        obtain ⟨A7, c7, hv7⟩ := own_form (show w7.ownsRow w.heap.size 5 1 v7 bs7.length (u8s bs7) from (H7.out.files ⟨nmA, g7, v7, ⟨bs7, 0⟩⟩ (by simp)).own)
        subst hv7
        clear h7 hc7 hf7 e7
        go_wp2_with (fail)
        have HA7 := Lib.hid (show DkAt w7 w.heap.size D M (dArm bs7.length (q + 1) k keep) ([] ++ ⟨nmA, g7, .slice A7 bs7.length c7, ⟨bs7, 0⟩⟩ :: []) from H7.out)
        refine (dkTruncate_neg (P := []) (Q := []) (nm := nmA) (g := g7) (A0 := A7) (c0 := c7) (f := ⟨bs7, 0⟩) HA7.out (fun x hx => by cases hx) (-1) (by decide)).mono ?_
        rintro e w8 ⟨rfl, hb8⟩
        have H8 := Lib.hid (H7.out.below hb8)
        have HB8 : Hid (Below w.heap.size w w8) := Lib.hid (HB7.out.trans (hb8.mono HB7.out.size))
        clear hb8
        go_wp2_with (fail)
        refine (dkOps H8.out).mono ?_
        rintro e w9 ⟨rfl, rfl⟩
        rw [show (dArm bs7.length (q + 1) k keep).ops = (q : Int) + 2 from by unfold dArm; simp only; omega]
        go_wp2_with (fail)
        exact ⟨⟨q + 1, bs7, g7, _, by omega, by go_num, HBL7.out, H8.out, HB8.out⟩, by simp [intOf]; omega⟩
    · obtain rfl : q = T := by omega
      clear hlt
      go_wp2_with (fail)
      go_ret
      exact ⟨rfl, HB.out⟩
end Go.Proofs.Ytecmadodpkfnnab
