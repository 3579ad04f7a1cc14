/- AcceptDrops, walked. -/
import Derived.Test.YtgffamdlnacamaaDoorAccP
namespace Go.Proofs.YtgffamdlnacamaaDoor
open Go.RowKit

/-- bytes that are no message -/
def NoMsg (l : List UInt8) : Prop := l.length < 9 ∨ l.take 3 ≠ [77, 83, 72]
theorem drop_verdict {l : List UInt8} (kept : Bool) (h : NoMsg l) : ∃ z : Int, (z = 7 ∨ z = 11) ∧ verdictD l = (Hd.zero, ⟨#[]⟩, z) ∧ replyD l kept = ([], false) := by
  have hr : ∃ z : Int, (z = 7 ∨ z = 11) ∧ (readD l).2 = z := by
    unfold readD
    rcases Nat.lt_or_ge l.length 9 with h9 | h9
    · rw [if_pos h9]; exact ⟨7, .inl rfl, rfl⟩
    · rw [if_neg (by omega), if_pos (.inl (h.resolve_left (by omega)))]
      exact ⟨11, .inr rfl, rfl⟩
  obtain ⟨z, hz, hr⟩ := hr
  have hne : z ≠ 0 := by rcases hz with rfl | rfl <;> decide
  have hh : readH l = (Hd.zero, z) := by unfold readH; rw [hr, if_neg hne]
  have hv : verdictD l = (Hd.zero, ⟨#[]⟩, z) := by unfold verdictD; rw [hh, if_neg hne]
  refine ⟨z, hz, hv, ?_⟩
  unfold replyD
  rw [hv, if_pos (.inl rfl)]
theorem msh_t {x : List UInt8} (h : x = [77, 83, 72]) : ((txt x).toList == [77, 83, 72]) = true := by rw [Go.ByteArray.toList_eq, h]; decide
theorem msh_f {x : List UInt8} (h : x ≠ [77, 83, 72]) : ((txt x).toList == [77, 83, 72]) = false := by rw [Go.ByteArray.toList_eq, beq_eq_false_iff_ne]; exact h

theorem slice_lo1 (b o n c : Nat) (h1 : 1 ≤ n) (hc : 1 < c) (W : World) : (Instr.sliceAt 22 (.slice (some ⟨b, o, none⟩) n c) (some (.int .i64 1)) none none).run Tryd.prog W = .ok (.slice (some ⟨b, o + 1, none⟩) (n - 1) (c - 1)) W := by
  have he : Tryd.prog.elem 22 = 5 := by kernel_rfl
  have hu : Tryd.prog.underlying 22 = some (.slice (Tryd.prog.elem 22)) := by rw [he]; exact Tryd.underlying22
  rw [run_sliceAt_slice (h := hu), run_slice_l (ht := hu) (h0 := by omega) (h1 := by omega), he]
  simp [go_sem, sliced, Result.andThen, Addr.add]
  try omega
set_option maxHeartbeats 8000000 in
set_option maxRecDepth 100000 in
theorem acceptDrops_walk (A : Option Addr) (n c : Nat) (l : List UInt8) (kept : Bool) (w : World) (hv : Vers w ∧ Signs w ∧ Cds w) (hB : Bs w A n c l) (_hcp : c ≤ 140737488351232) :
    Calls Tryd.prog 6 #[.slice A n c, .bool kept] w (True_ w) := by
  have HV := Lib.hid (fun W (hb : Below w.heap.size w W) => hv.1.below hb)
  have HS := Lib.hid (fun W (hb : Below w.heap.size w W) => hv.2.1.below hb)
  have HC := Lib.hid (fun W (hb : Below w.heap.size w W) => hv.2.2.below hb)
  have hnm := hB.nmax
  have hle := hB.le
  have HLN := Lib.hid hB.len
  have HBS := Lib.hid hB
  have HB0 : Hid (Below w.heap.size w w) := Lib.hid (Below.refl _ _)
  clear hv hB
  go_enter Tryd.func6, Tryd.ntmps6
  by_cases hbig : 2000 < n
  · as_aux_lemma =>
    have d1 : decide ((2000 : Int) < (n : Int)) = true := by simp; omega
    go_wp2_with (fail)
    refine (alive11 w (HV.out _ HB0.out) (HS.out _ HB0.out) (HC.out _ HB0.out)).mono ?_
    rintro e w2 ⟨rfl, hbA⟩
    have HBA := Lib.hid (HB0.out.trans (hbA.mono HB0.out.size))
    clear hbA
    go_wp2_with (fail)
    go_ret
    exact ⟨rfl, HBA.out⟩
  have d1 : decide ((2000 : Int) < (n : Int)) = false := by simp; omega
  have HN : Hid (n ≤ 2000) := Lib.hid (by omega)
  clear hbig
  by_cases h9 : 9 ≤ n
  · have d2 : decide ((9 : Int) ≤ (n : Int)) = true := by simp; omega
    have e1 : (3 : Int) ≤ (n : Int) := by omega
    have e2 : (n : Int) ≤ (c : Int) := by omega
    have e3 : (3 : Int) ≤ (c : Int) := by omega
    obtain ⟨S, hS⟩ : ∃ S, S = txt (l.take 3) := ⟨_, rfl⟩
    have hcv : (convert 22 9 (.slice A 3 c)).run Tryd.prog w = .ok (.string S) w := by
      rw [hS]
      exact (HBS.out.take (j := 3) (by omega)).str (P := Tryd.prog) 22 5 9 Tryd.underlying22 Tryd.underlying5 Tryd.underlying9
    by_cases hm : l.take 3 = [77, 83, 72]
    · have dm : (S.toList == [77, 83, 72]) = true := by rw [hS]; exact msh_t hm
      obtain ⟨b, o, rfl, _, _⟩ := HBS.out.at_ (by omega)
      have hdr : l.drop 1 = 83 :: (l.drop 2) := by
        have t : l = (l.take 3) ++ l.drop 3 := (List.take_append_drop 3 l).symm
        rw [hm] at t
        rw [t]
        rfl
      have HDR : Hid (NoMsg (l.drop 1)) := Lib.hid (.inr (by rw [hdr, List.take_succ_cons]; intro e; injection e with e; exact absurd e (by decide)))
      have hM2 : (l.drop 1).take 3 ≠ [77, 83, 72] := by rw [hdr, List.take_succ_cons]; intro e; injection e with e; exact absurd e (by decide)
      obtain ⟨S2, hS2⟩ : ∃ S, S = txt ((l.drop 1).take 3) := ⟨_, rfl⟩
      have dm2 : (S2.toList == [77, 83, 72]) = false := by rw [hS2]; exact msh_f hM2
      have HBD : Hid (Bs w (some ⟨b, o + 1, none⟩) (n - 1) (c - 1) (l.drop 1)) := Lib.hid (by
        have t := HBS.out.drop (i := 1) (by omega)
        rw [if_neg (by omega)] at t
        simpa [Addr.add] using t)
      obtain ⟨n1, hn1⟩ : ∃ n1, n1 = n - 1 := ⟨_, rfl⟩
      obtain ⟨c1, hc1⟩ : ∃ c1, c1 = c - 1 := ⟨_, rfl⟩
      rw [← hn1, ← hc1] at HBD
      have hcv2 : (convert 22 9 (.slice (some ⟨b, o + 1, none⟩) 3 c1)).run Tryd.prog w = .ok (.string S2) w := by
        rw [hS2]
        exact (HBD.out.take (j := 3) (by omega)).str (P := Tryd.prog) 22 5 9 Tryd.underlying22 Tryd.underlying5 Tryd.underlying9
      have hsl : ∀ W : World, (Instr.sliceAt 22 (.slice (some ⟨b, o, none⟩) n c) (some (.int .i64 1)) none none).run Tryd.prog W = .ok (.slice (some ⟨b, o + 1, none⟩) n1 c1) W := fun W => by
        have t := slice_lo1 b o n c (by omega) (by omega) W
        rw [← hn1, ← hc1] at t
        exact t
      have e4 : (1 : Int) ≤ (n : Int) := by omega
      have e5 : (3 : Int) ≤ (n1 : Int) := by omega
      have e6 : (3 : Int) ≤ (c1 : Int) := by omega
      have e7 : (n1 : Int) ≤ (c1 : Int) := by omega
      have HN1 : Hid (n1 ≤ 2000) := Lib.hid (by have := HN.out; omega)
      clear hm h9 hle hnm hdr hn1 hc1 HBS hM2 hS hS2
      have HN := HN1
      clear HN1
      go_wp2_with (fail)
      clear d1 d2 e1 e2 e3 e4 e5 e6 e7 hcv hcv2 dm dm2 hsl
      generalize l.drop 1 = l at *
      obtain ⟨z, hz, hvd, hrp⟩ := drop_verdict kept HDR.out
      have HVD := Lib.hid hvd
      have HRP := Lib.hid hrp
      have HST : Hid (decide ((verdictD l).2.1 = cB 0) = false) := Lib.hid (by rw [hvd]; show decide ((⟨#[]⟩ : ByteArray) = cB 0) = false; decide +kernel)
      have HZ := Lib.hid hz
      clear hz hvd hrp HDR
      refine (verdict_ (some ⟨b, o + 1, none⟩) n1 c1 l w (HV.out _ HB0.out) HBD.out (by have := HN.out; omega)).mono ?_
      rintro e w1 ⟨rfl, hb1⟩
      rw [HVD.out]
      have HB1 := Lib.hid (HB0.out.trans (hb1.mono HB0.out.size))
      have HBS1 := Lib.hid (HBD.out.below hb1)
      have HX2 : Hid (BoxH Hd.zero w1.heap.size (w1.alloc (.cells Hd.zero.cells TH))) := Lib.hid (BoxH.new Hd.zero w1)
      have HB2 : Hid (Below w.heap.size w (w1.alloc (.cells Hd.zero.cells TH))) := Lib.hid (HB1.out.alloc HB1.out.size _)
      have HBS2 : Hid (Bs (w1.alloc (.cells Hd.zero.cells TH)) (some ⟨b, o + 1, none⟩) n1 c1 (l)) := Lib.hid (HBS1.out.alloc _)
      clear hb1 HB1 HBS1 HVD
      go_wp2_with (fail)
      obtain ⟨G, hG⟩ : ∃ G, G = w1.heap.size := ⟨_, rfl⟩
      rw [← hG] at HX2 ⊢
      clear hG
      generalize hw2 : w1.alloc (.cells Hd.zero.cells TH) = w2 at HX2 HB2 HBS2
      skip
      clear hw2
      refine (reply_ (some ⟨b, o + 1, none⟩) n1 c1 l kept w2 (HV.out _ HB2.out) (HS.out _ HB2.out) (HC.out _ HB2.out) HBS2.out (by have := HN.out; omega)).mono ?_
      rintro e w3 ⟨A3, m3, c3, rfl, hB3, hb3⟩
      rw [HRP.out] at hB3 ⊢
      obtain rfl : 0 = m3 := hB3.len
      have HB3 := Lib.hid (HB2.out.trans (hb3.mono HB2.out.size))
      have HBS3 := Lib.hid (HBS2.out.below hb3)
      have HX3 := Lib.hid (HX2.out.below hb3)
      clear hb3 hB3 HX2 HB2 HBS2 HRP
      go_wp2_with (fail)
      refine (alive11 w3 (HV.out _ HB3.out) (HS.out _ HB3.out) (HC.out _ HB3.out)).mono ?_
      rintro e w4 ⟨rfl, hbA⟩
      have HB4 := Lib.hid (HB3.out.trans (hbA.mono HB3.out.size))
      have HBS4 := Lib.hid (HBS3.out.below hbA)
      have HX4 := Lib.hid (HX3.out.below hbA)
      clear hbA HX3 HB3 HBS3
      rcases HZ.out with hz | hz
      · as_aux_lemma =>
        have hz' := hz
        rw [hz']
        clear hz' HZ
        go_wp2_with (first | (with_reducible refine wpList_loadHG G Hd.zero (by kernel_rfl) (by kernel_rfl) HX4.out ?_) | (with_reducible refine wpList_eqH Hd.zero (by kernel_rfl) (by kernel_rfl) (by kernel_rfl) ?_))
        refine (stored_ (some ⟨b, o + 1, none⟩) n1 c1 (l) w4 (HV.out _ HB4.out) HBS4.out (by have := HN.out; omega)).mono ?_
        rintro e w5 ⟨rfl, hb5⟩
        rw [HST.out]
        have HB5 := Lib.hid (HB4.out.trans (hb5.mono HB4.out.size))
        clear hb5
        go_wp2_with (fail)
        go_ret
        exact ⟨rfl, HB5.out⟩
      · as_aux_lemma =>
        have hz' := hz
        rw [hz']
        clear hz' HZ
        go_wp2_with (first | (with_reducible refine wpList_loadHG G Hd.zero (by kernel_rfl) (by kernel_rfl) HX4.out ?_) | (with_reducible refine wpList_eqH Hd.zero (by kernel_rfl) (by kernel_rfl) (by kernel_rfl) ?_))
        refine (stored_ (some ⟨b, o + 1, none⟩) n1 c1 (l) w4 (HV.out _ HB4.out) HBS4.out (by have := HN.out; omega)).mono ?_
        rintro e w5 ⟨rfl, hb5⟩
        rw [HST.out]
        have HB5 := Lib.hid (HB4.out.trans (hb5.mono HB4.out.size))
        clear hb5
        go_wp2_with (fail)
        go_ret
        exact ⟨rfl, HB5.out⟩
    · have dm : (S.toList == [77, 83, 72]) = false := by rw [hS]; exact msh_f hm
      have HDR : Hid (NoMsg l) := Lib.hid (.inr hm)
      clear hm hS hnm h9 hle
      go_wp2_with (fail)
      clear d1 d2 e1 e2 e3 hcv dm
      obtain ⟨z, hz, hvd, hrp⟩ := drop_verdict kept HDR.out
      have HVD := Lib.hid hvd
      have HRP := Lib.hid hrp
      have HST : Hid (decide ((verdictD l).2.1 = cB 0) = false) := Lib.hid (by rw [hvd]; show decide ((⟨#[]⟩ : ByteArray) = cB 0) = false; decide +kernel)
      have HZ := Lib.hid hz
      clear hz hvd hrp HDR
      refine (verdict_ A n c l w (HV.out _ HB0.out) HBS.out (by have := HN.out; omega)).mono ?_
      rintro e w1 ⟨rfl, hb1⟩
      rw [HVD.out]
      have HB1 := Lib.hid (HB0.out.trans (hb1.mono HB0.out.size))
      have HBS1 := Lib.hid (HBS.out.below hb1)
      have HX2 : Hid (BoxH Hd.zero w1.heap.size (w1.alloc (.cells Hd.zero.cells TH))) := Lib.hid (BoxH.new Hd.zero w1)
      have HB2 : Hid (Below w.heap.size w (w1.alloc (.cells Hd.zero.cells TH))) := Lib.hid (HB1.out.alloc HB1.out.size _)
      have HBS2 : Hid (Bs (w1.alloc (.cells Hd.zero.cells TH)) A n c (l)) := Lib.hid (HBS1.out.alloc _)
      clear hb1 HB1 HBS1 HVD
      go_wp2_with (fail)
      obtain ⟨G, hG⟩ : ∃ G, G = w1.heap.size := ⟨_, rfl⟩
      rw [← hG] at HX2 ⊢
      clear hG
      generalize hw2 : w1.alloc (.cells Hd.zero.cells TH) = w2 at HX2 HB2 HBS2
      skip
      clear hw2
      refine (reply_ A n c l kept w2 (HV.out _ HB2.out) (HS.out _ HB2.out) (HC.out _ HB2.out) HBS2.out (by have := HN.out; omega)).mono ?_
      rintro e w3 ⟨A3, m3, c3, rfl, hB3, hb3⟩
      rw [HRP.out] at hB3 ⊢
      obtain rfl : 0 = m3 := hB3.len
      have HB3 := Lib.hid (HB2.out.trans (hb3.mono HB2.out.size))
      have HBS3 := Lib.hid (HBS2.out.below hb3)
      have HX3 := Lib.hid (HX2.out.below hb3)
      clear hb3 hB3 HX2 HB2 HBS2 HRP
      go_wp2_with (fail)
      refine (alive11 w3 (HV.out _ HB3.out) (HS.out _ HB3.out) (HC.out _ HB3.out)).mono ?_
      rintro e w4 ⟨rfl, hbA⟩
      have HB4 := Lib.hid (HB3.out.trans (hbA.mono HB3.out.size))
      have HBS4 := Lib.hid (HBS3.out.below hbA)
      have HX4 := Lib.hid (HX3.out.below hbA)
      clear hbA HX3 HB3 HBS3
      rcases HZ.out with hz | hz
      · as_aux_lemma =>
        have hz' := hz
        rw [hz']
        clear hz' HZ
        go_wp2_with (first | (with_reducible refine wpList_loadHG G Hd.zero (by kernel_rfl) (by kernel_rfl) HX4.out ?_) | (with_reducible refine wpList_eqH Hd.zero (by kernel_rfl) (by kernel_rfl) (by kernel_rfl) ?_))
        refine (stored_ A n c (l) w4 (HV.out _ HB4.out) HBS4.out (by have := HN.out; omega)).mono ?_
        rintro e w5 ⟨rfl, hb5⟩
        rw [HST.out]
        have HB5 := Lib.hid (HB4.out.trans (hb5.mono HB4.out.size))
        clear hb5
        go_wp2_with (fail)
        go_ret
        exact ⟨rfl, HB5.out⟩
      · as_aux_lemma =>
        have hz' := hz
        rw [hz']
        clear hz' HZ
        go_wp2_with (first | (with_reducible refine wpList_loadHG G Hd.zero (by kernel_rfl) (by kernel_rfl) HX4.out ?_) | (with_reducible refine wpList_eqH Hd.zero (by kernel_rfl) (by kernel_rfl) (by kernel_rfl) ?_))
        refine (stored_ A n c (l) w4 (HV.out _ HB4.out) HBS4.out (by have := HN.out; omega)).mono ?_
        rintro e w5 ⟨rfl, hb5⟩
        rw [HST.out]
        have HB5 := Lib.hid (HB4.out.trans (hb5.mono HB4.out.size))
        clear hb5
        go_wp2_with (fail)
        go_ret
        exact ⟨rfl, HB5.out⟩
  · have d2 : decide ((9 : Int) ≤ (n : Int)) = false := by simp; omega
    have HDR : Hid (NoMsg l) := Lib.hid (.inl (by rw [HLN.out]; omega))
    clear h9 hle hnm
    go_wp2_with (fail)
    clear d1 d2
    obtain ⟨z, hz, hvd, hrp⟩ := drop_verdict kept HDR.out
    have HVD := Lib.hid hvd
    have HRP := Lib.hid hrp
    have HST : Hid (decide ((verdictD l).2.1 = cB 0) = false) := Lib.hid (by rw [hvd]; show decide ((⟨#[]⟩ : ByteArray) = cB 0) = false; decide +kernel)
    have HZ := Lib.hid hz
    clear hz hvd hrp HDR
    refine (verdict_ A n c l w (HV.out _ HB0.out) HBS.out (by have := HN.out; omega)).mono ?_
    rintro e w1 ⟨rfl, hb1⟩
    rw [HVD.out]
    have HB1 := Lib.hid (HB0.out.trans (hb1.mono HB0.out.size))
    have HBS1 := Lib.hid (HBS.out.below hb1)
    have HX2 : Hid (BoxH Hd.zero w1.heap.size (w1.alloc (.cells Hd.zero.cells TH))) := Lib.hid (BoxH.new Hd.zero w1)
    have HB2 : Hid (Below w.heap.size w (w1.alloc (.cells Hd.zero.cells TH))) := Lib.hid (HB1.out.alloc HB1.out.size _)
    have HBS2 : Hid (Bs (w1.alloc (.cells Hd.zero.cells TH)) A n c (l)) := Lib.hid (HBS1.out.alloc _)
    clear hb1 HB1 HBS1 HVD
    go_wp2_with (fail)
    obtain ⟨G, hG⟩ : ∃ G, G = w1.heap.size := ⟨_, rfl⟩
    rw [← hG] at HX2 ⊢
    clear hG
    generalize hw2 : w1.alloc (.cells Hd.zero.cells TH) = w2 at HX2 HB2 HBS2
    skip
    clear hw2
    refine (reply_ A n c l kept w2 (HV.out _ HB2.out) (HS.out _ HB2.out) (HC.out _ HB2.out) HBS2.out (by have := HN.out; omega)).mono ?_
    rintro e w3 ⟨A3, m3, c3, rfl, hB3, hb3⟩
    rw [HRP.out] at hB3 ⊢
    obtain rfl : 0 = m3 := hB3.len
    have HB3 := Lib.hid (HB2.out.trans (hb3.mono HB2.out.size))
    have HBS3 := Lib.hid (HBS2.out.below hb3)
    have HX3 := Lib.hid (HX2.out.below hb3)
    clear hb3 hB3 HX2 HB2 HBS2 HRP
    go_wp2_with (fail)
    refine (alive11 w3 (HV.out _ HB3.out) (HS.out _ HB3.out) (HC.out _ HB3.out)).mono ?_
    rintro e w4 ⟨rfl, hbA⟩
    have HB4 := Lib.hid (HB3.out.trans (hbA.mono HB3.out.size))
    have HBS4 := Lib.hid (HBS3.out.below hbA)
    have HX4 := Lib.hid (HX3.out.below hbA)
    clear hbA HX3 HB3 HBS3
    rcases HZ.out with hz | hz
    · as_aux_lemma =>
      have hz' := hz
      rw [hz']
      clear hz' HZ
      go_wp2_with (first | (with_reducible refine wpList_loadHG G Hd.zero (by kernel_rfl) (by kernel_rfl) HX4.out ?_) | (with_reducible refine wpList_eqH Hd.zero (by kernel_rfl) (by kernel_rfl) (by kernel_rfl) ?_))
      refine (stored_ A n c (l) w4 (HV.out _ HB4.out) HBS4.out (by have := HN.out; omega)).mono ?_
      rintro e w5 ⟨rfl, hb5⟩
      rw [HST.out]
      have HB5 := Lib.hid (HB4.out.trans (hb5.mono HB4.out.size))
      clear hb5
      go_wp2_with (fail)
      go_ret
      exact ⟨rfl, HB5.out⟩
    · as_aux_lemma =>
      have hz' := hz
      rw [hz']
      clear hz' HZ
      go_wp2_with (first | (with_reducible refine wpList_loadHG G Hd.zero (by kernel_rfl) (by kernel_rfl) HX4.out ?_) | (with_reducible refine wpList_eqH Hd.zero (by kernel_rfl) (by kernel_rfl) (by kernel_rfl) ?_))
      refine (stored_ A n c (l) w4 (HV.out _ HB4.out) HBS4.out (by have := HN.out; omega)).mono ?_
      rintro e w5 ⟨rfl, hb5⟩
      rw [HST.out]
      have HB5 := Lib.hid (HB4.out.trans (hb5.mono HB4.out.size))
      clear hb5
      go_wp2_with (fail)
      go_ret
      exact ⟨rfl, HB5.out⟩
end Go.Proofs.YtgffamdlnacamaaDoor
