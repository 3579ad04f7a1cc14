/- MshChecks, walked. -/
import Derived.Test.YtodgcmjdnfbegaaDoorRef09w
import Derived.BigQuiet
import Derived.Test.YtodgcmjdnfbegaaDoorMsh5
import Derived.Test.YtodgcmjdnfbegaaDoorMshEG
namespace Go.Proofs.YtodgcmjdnfbegaaDoor
open Go.RowKit

set_option maxHeartbeats 1000000 in
theorem refVersions09 (w : World) : Calls Tryd.prog 17 #[] w (fun e w' => ∃ g c, e = .returned (.slice (some ⟨g, 0, none⟩) 10 c) ∧ Ss w' (some ⟨g, 0, none⟩) 10 c (versL.map (·.data.toList)) ∧ Below w.heap.size w w') := by
  go_enter Tryd.func17, Tryd.ntmps17
  go_wp2_with (fail)
  go_ret
  refine ⟨w.heap.size, 10, rfl, ?_, (Below.refl _ w).alloc (Nat.le_refl _) _⟩
  refine Ss.of_block (heap_alloc_new w _) (fun i x hx => ?_) rfl (by omega) (by simp [maxLen])
  rw [List.getElem?_map] at hx
  match i with
  | 0 => (simp [versL] at hx; subst hx; rfl)
  | 1 => (simp [versL] at hx; subst hx; rfl)
  | 2 => (simp [versL] at hx; subst hx; rfl)
  | 3 => (simp [versL] at hx; subst hx; rfl)
  | 4 => (simp [versL] at hx; subst hx; rfl)
  | 5 => (simp [versL] at hx; subst hx; rfl)
  | 6 => (simp [versL] at hx; subst hx; rfl)
  | 7 => (simp [versL] at hx; subst hx; rfl)
  | 8 => (simp [versL] at hx; subst hx; rfl)
  | 9 => (simp [versL] at hx; subst hx; rfl)
  | i + 10 => simp [versL] at hx
theorem vers_at (k : Nat) (hk : k < 10) : str ((versL.map (·.data.toList)).getD k []) = .string (vB k) := by
  match k, hk with
  | 0, _ => rfl
  | 1, _ => rfl
  | 2, _ => rfl
  | 3, _ => rfl
  | 4, _ => rfl
  | 5, _ => rfl
  | 6, _ => rfl
  | 7, _ => rfl
  | 8, _ => rfl
  | 9, _ => rfl
theorem knownD_any (s : ByteArray) : knownD s = (List.range 10).any fun k => decide (vB k = s) := rfl
/-- known by the first k of them -/
def knownK (s : ByteArray) (k : Nat) : Bool := (List.range k).any fun j => decide (vB j = s)
theorem knownK_succ (s : ByteArray) (k : Nat) : knownK s (k + 1) = (knownK s k || decide (vB k = s)) := by
  unfold knownK
  rw [List.range_succ, List.any_append]
  simp
theorem proc_t (p : ByteArray) : procD p = true → (p.toList == [80]) = true ∨ ((p.toList == [80]) = false ∧ (p.toList == [68]) = true) ∨ ((p.toList == [80]) = false ∧ (p.toList == [68]) = false ∧ (p.toList == [84]) = true) := by
  unfold procD
  cases (p.toList == [80]) <;> cases (p.toList == [68]) <;> cases (p.toList == [84]) <;> simp

set_option maxHeartbeats 8000000 in
set_option maxRecDepth 100000 in
theorem refCheck09 (h : Hd) (w : World) (h8 : h.a8.size ≤ 1000000000) (h9 : h.a9.size ≤ 1000000000) : Calls Tryd.prog 19 #[h.v] w fun e w' => e = .returned (.int .i64 (checkD h)) ∧ Below w.heap.size w w' := by
  have HX0 := Lib.hid (BoxH.new h w)
  have HB0 := Lib.hid (boxHd_below h w)
  have H8 := Lib.hid h8
  have H9 := Lib.hid h9
  have HC : Hid (checkD h = if h.a6.toList.isEmpty || h.a7.toList.isEmpty || decide (50 < h.a7.size) then 14 else if !knownD (txt (firstD h.a9 h.d)) then 12 else if !procD (txt (firstD h.a8 h.d)) then 13 else 0) := Lib.hid rfl
  clear h8 h9
  go_enter Tryd.func19, Tryd.ntmps19
  obtain ⟨c0, c1, c2, c3, c4, _, _, _, _, _, _, c11, c12, c13, c14⟩ := HX0.out.cells
  cases d6 : h.a6.toList.isEmpty
  · cases d7 : h.a7.toList.isEmpty
    · by_cases h50 : 50 < h.a7.size
      · as_aux_lemma =>
        have d50 : decide ((50 : Int) < (h.a7.size : Int)) = true := by simp; omega
        have d51 : decide (50 < h.a7.size) = true := by simpa using h50
        have HE : Hid (checkD h = 14) := Lib.hid (by rw [HC.out, d6, d7, d51]; rfl)
        go_wp2_with (fail)
        go_ret
        rw [HE.out]; exact ⟨rfl, HB0.out⟩
      · have d50 : decide ((50 : Int) < (h.a7.size : Int)) = false := by simp; omega
        have d51 : decide (50 < h.a7.size) = false := by simpa using h50
        have HE : Hid (checkD h = if !knownD (txt (firstD h.a9 h.d)) then 12 else if !procD (txt (firstD h.a8 h.d)) then 13 else 0) := Lib.hid (by rw [HC.out, d6, d7, d51]; rfl)
        go_wp2_with (fail)
        generalize (w.alloc (.cells #[u8 h.d.a, u8 h.d.b, u8 h.d.c, u8 h.d.d, u8 h.d.e, .string h.a0, .string h.a1, .string h.a2, .string h.a3, .string h.a4, .string h.a5, .string h.a6, .string h.a7, .string h.a8, .string h.a9] TH)) = w0 at *
        refine (first_ h.a9 h.d w0 (by have := H9.out; omega)).mono ?_
        rintro e w1 ⟨rfl, hb1⟩
        have HB1 := Lib.hid (HB0.out.trans (hb1.mono HB0.out.size))
        have HX1 := Lib.hid (HX0.out.below hb1)
        clear hb1 HX0 HB0 c0 c1 c2 c3 c4 c11 c12 c13 c14 d6 d7 d50 d51 h50
        obtain ⟨s, hs⟩ : ∃ s, s = txt (firstD h.a9 h.d) := ⟨_, rfl⟩
        rw [← hs] at HE
        rw [show str (firstD h.a9 h.d) = .string s from congrArg Value.string hs.symm]
        clear hs
        go_wp2_with (fail)
        refine (refVersions09 w1).mono ?_
        rintro e w2 ⟨g, cg, rfl, hS, hb2⟩
        have HB2 := Lib.hid (HB1.out.trans (hb2.mono HB1.out.size))
        have HX2 := Lib.hid (HX1.out.below hb2)
        have HS2 := Lib.hid hS
        clear hb2 HX1 HB1 hS
        go_wp2_with (fail)
        go_loopw [4, 6] (fun v i wr => ∃ k : Nat, k ≤ 10 ∧ v = .bool (knownK s k) ∧ i = .int .i64 k ∧ wr = w2) (fun _ i _ => 10 - (intOf i).toNat)
        case atStart => exact ⟨0, by omega, rfl, rfl, rfl⟩
        case round =>
          obtain ⟨k, hk, rfl, rfl, rfl⟩ := hrel
          by_cases hlt : k < 10
          · as_aux_lemma =>
            obtain ⟨b, o, hbo, _, hc⟩ := HS2.out.read hlt
            rw [vers_at k hlt] at hc
            injection hbo with hbo
            injection hbo with e1 e2
            subst e1 e2
            rw [Nat.zero_add] at hc
            have d5 : decide ((k : Int) < 10) = true := by simp; omega
            have d6 : (k : Int) < 10 := by omega
            have w1' : wrap64 ((k : Int) + 1) = (k : Int) + 1 := IntWalk.wrap64_in _ (by omega)
            have HK := Lib.hid hlt
            have HSU := Lib.hid (knownK_succ s k)
            cases he : decide (vB k = s)
            · have d := strEq_f (of_decide_eq_false he)
              rw [he, Bool.or_false] at HSU
              clear he hlt hk
              generalize vB k = v at *
              go_wp2_with (fail)
              try rw [w1']
              exact ⟨⟨k + 1, HK.out, by rw [HSU.out], by go_num, (by trivial)⟩, by have := HK.out; simp [intOf]; omega⟩
            · have d := strEq_t (of_decide_eq_true he)
              rw [he, Bool.or_true] at HSU
              clear he hlt hk
              generalize vB k = v at *
              go_wp2_with (fail)
              try rw [w1']
              exact ⟨⟨k + 1, HK.out, by rw [HSU.out], by go_num, (by trivial)⟩, by have := HK.out; simp [intOf]; omega⟩
          · obtain rfl : k = 10 := by omega
            have d5 : decide (((10 : Nat) : Int) < 10) = false := by simp
            rw [show knownK s 10 = knownD s from (knownD_any s).symm]
            clear hlt hk
            cases dk : knownD s
            · as_aux_lemma =>
              have HE2 : Hid (checkD h = 12) := Lib.hid (by rw [HE.out, dk]; rfl)
              go_wp2_with (fail)
              go_ret
              rw [HE2.out]; exact ⟨rfl, HB2.out⟩
            · have HE2 : Hid (checkD h = if !procD (txt (firstD h.a8 h.d)) then 13 else 0) := Lib.hid (by rw [HE.out, dk]; rfl)
              obtain ⟨c0, c1, c2, c3, c4, _, _, _, _, _, _, c11, c12, c13, c14⟩ := HX2.out.cells
              clear HE dk HS2
              go_wp2_with (fail)
              refine (first_ h.a8 h.d _ (by have := H8.out; omega)).mono ?_
              rintro e w3 ⟨rfl, hb3⟩
              have HB3 := Lib.hid (HB2.out.trans (hb3.mono HB2.out.size))
              clear hb3 c0 c1 c2 c3 c4 c11 c12 c13 c14
              obtain ⟨p, hp⟩ : ∃ p, p = txt (firstD h.a8 h.d) := ⟨_, rfl⟩
              rw [← hp] at HE2
              rw [show str (firstD h.a8 h.d) = .string p from congrArg Value.string hp.symm]
              clear hp
              have HP : Hid (procD p = (p.toList == [80] || p.toList == [68] || p.toList == [84])) := Lib.hid rfl
              cases p1 : (p.toList == [80])
              · have q1 : (p.toList != [80]) = true := by rw [bne, p1]; rfl
                cases p2 : (p.toList == [68])
                · have q2 : (p.toList != [68]) = true := by rw [bne, p2]; rfl
                  cases p3 : (p.toList == [84])
                  · as_aux_lemma =>
                    have q3 : (p.toList != [84]) = true := by rw [bne, p3]; rfl
                    have HE3 : Hid (checkD h = 13) := Lib.hid (by rw [HE2.out, HP.out, p1, p2, p3]; rfl)
                    go_wp2_with (fail)
                    go_ret
                    rw [HE3.out]; exact ⟨rfl, HB3.out⟩
                  · as_aux_lemma =>
                    have q3 : (p.toList != [84]) = false := by rw [bne, p3]; rfl
                    have HE3 : Hid (checkD h = 0) := Lib.hid (by rw [HE2.out, HP.out, p1, p2, p3]; rfl)
                    go_wp2_with (fail)
                    go_ret
                    rw [HE3.out]; exact ⟨rfl, HB3.out⟩
                · as_aux_lemma =>
                  have q2 : (p.toList != [68]) = false := by rw [bne, p2]; rfl
                  have HE3 : Hid (checkD h = 0) := Lib.hid (by rw [HE2.out, HP.out, p1, p2]; rfl)
                  go_wp2_with (fail)
                  go_ret
                  rw [HE3.out]; exact ⟨rfl, HB3.out⟩
              · as_aux_lemma =>
                have q1 : (p.toList != [80]) = false := by rw [bne, p1]; rfl
                have HE3 : Hid (checkD h = 0) := Lib.hid (by rw [HE2.out, HP.out, p1]; rfl)
                go_wp2_with (fail)
                go_ret
                rw [HE3.out]; exact ⟨rfl, HB3.out⟩
    · as_aux_lemma =>
      have HE : Hid (checkD h = 14) := Lib.hid (by rw [HC.out, d6, d7]; rfl)
      go_wp2_with (fail)
      go_ret
      rw [HE.out]; exact ⟨rfl, HB0.out⟩
  · as_aux_lemma =>
    have HE : Hid (checkD h = 14) := Lib.hid (by rw [HC.out, d6]; rfl)
    go_wp2_with (fail)
    go_ret
    rw [HE.out]; exact ⟨rfl, HB0.out⟩

theorem str_self (x : List UInt8) : ((txt x).toList == (txt x).toList) = true := by simp
set_option maxHeartbeats 16000000 in
set_option maxRecDepth 100000 in
theorem mshChecks_walk (h : Hd) (w : World) (hv : Vers w) (ht : Lib.lens (h.l.map (·.data.toList)) ≤ 1048576) :
    Calls Tryd.prog 4 #[h.v] w (True_ w) := by
  have hs : h.sum ≤ 1048576 := by rw [h.sum_eq]; exact ht
  have HS := Lib.hid hs
  have HSE := Lib.hid h.sum_eq
  have HV := Lib.hid (fun W (hb : Below w.heap.size w W) => hv.below hb)
  have HX0 := Lib.hid (BoxH.new h w)
  have HB0 := Lib.hid (boxHd_below h w)
  clear hv ht hs
  go_enter Tryd.func4, Tryd.ntmps4
  go_wp2_with (with_reducible refine wpList_loadHG w.heap.size h (by kernel_rfl) (by kernel_rfl) HX0.out ?_)
  generalize w.alloc (.cells #[u8 h.d.a, u8 h.d.b, u8 h.d.c, u8 h.d.d, u8 h.d.e, .string h.a0, .string h.a1, .string h.a2, .string h.a3, .string h.a4, .string h.a5, .string h.a6, .string h.a7, .string h.a8, .string h.a9] TH) = w0 at *
  refine (great_head h w0 HS.out rfl rfl).mono ?_
  rintro e w1 ⟨rfl, hb1⟩
  have HX1 := Lib.hid (HX0.out.below hb1)
  have HB1 := Lib.hid (HB0.out.trans (hb1.mono HB0.out.size))
  clear hb1 HX0 HB0
  cases hgr : decide (3000 < h.sum)
  · have HSM : Hid (h.sum ≤ 3000) := Lib.hid (by have := of_decide_eq_false hgr; omega)
    clear hgr
    go_wp2_with (with_reducible refine wpList_loadHG w.heap.size h (by kernel_rfl) (by kernel_rfl) HX1.out ?_)
    refine (write_ h w1 (by have := HSE.out; have := HSM.out; omega)).mono ?_
    rintro e w2 ⟨rfl, hb2⟩
    have HX2 := Lib.hid (HX1.out.below hb2)
    have HB2 := Lib.hid (HB1.out.trans (hb2.mono HB1.out.size))
    clear hb2 HX1 HB1
    go_wp2_with (with_reducible refine wpList_loadHG w.heap.size h (by kernel_rfl) (by kernel_rfl) HX2.out ?_)
    refine (refWrite09 h w2 (by have := HSE.out; have := HSM.out; omega)).mono ?_
    rintro e w3 ⟨rfl, hb3⟩
    have HX3 := Lib.hid (HX2.out.below hb3)
    have HB3 := Lib.hid (HB2.out.trans (hb3.mono HB2.out.size))
    clear hb3 HX2 HB2
    obtain ⟨x, hx⟩ : ∃ x, x = (writeH h).1 := ⟨_, rfl⟩
    obtain ⟨z, hz⟩ : ∃ z, z = (writeH h).2 := ⟨_, rfl⟩
    rw [← hx, ← hz]
    clear hx hz
    go_wp2_with (fail)
    refine (versions_ w3 (HV.out _ HB3.out)).mono ?_
    rintro e w4 ⟨A4, c4, rfl, hS4, hb4⟩
    have HX4 := Lib.hid (HX3.out.below hb4)
    have HB4 := Lib.hid (HB3.out.trans (hb4.mono HB3.out.size))
    have HS4 := Lib.hid hS4
    clear hb4 hS4 HX3 HB3
    go_wp2_with (fail)
    refine (refVersions09 w4).mono ?_
    rintro e w5 ⟨g5, c5, rfl, hS5, hb5⟩
    have HX5 := Lib.hid (HX4.out.below hb5)
    have HB5 := Lib.hid (HB4.out.trans (hb5.mono HB4.out.size))
    have HS5 := Lib.hid hS5
    have HS4' := Lib.hid (HS4.out.below hb5)
    clear hb5 hS5 HX4 HB4 HS4
    go_wp2_with (fail)
    refine (alive09 w5 (HV.out _ HB5.out)).mono ?_
    rintro e w6 ⟨rfl, hb6⟩
    have HX6 := Lib.hid (HX5.out.below hb6)
    have HB6 := Lib.hid (HB5.out.trans (hb6.mono HB5.out.size))
    have HS6 := Lib.hid (HS5.out.below hb6)
    have HT6 := Lib.hid (HS4'.out.below hb6)
    clear hb6 HX5 HB5 HS5 HS4'
    go_wp2_with (fail)
    go_loopw [36, 9] (fun i _ wr => ∃ k : Nat, k ≤ 10 ∧ i = .int .i64 k ∧ Below w6.heap.size w6 wr) (fun i _ _ => 10 - (intOf i).toNat)
    case atStart => exact ⟨0, by omega, rfl, Below.refl _ _⟩
    case round =>
      obtain ⟨wo, rfl⟩ : ∃ wo : World, wo = wr := ⟨_, rfl⟩
      obtain ⟨k, hk, rfl, hbo⟩ := hrel
      have HBO := Lib.hid hbo
      have HBW := Lib.hid (HB6.out.trans (hbo.mono HB6.out.size))
      have HXO := Lib.hid (HX6.out.below hbo)
      have HSO := Lib.hid (HS6.out.below hbo)
      have HTO := Lib.hid (HT6.out.below hbo)
      clear hbo HX6 HS6 HT6 HB6
      by_cases hlt : k < 10
      · as_aux_lemma =>
        obtain ⟨b, o, rfl, _, hc⟩ := HTO.out.read hlt
        obtain ⟨b2, o2, hbo, _, hc2⟩ := HSO.out.read hlt
        rw [vers_at k hlt] at hc hc2
        injection hbo with hbo
        injection hbo with e1 e2
        subst e1 e2
        rw [Nat.zero_add] at hc2
        have d5 : decide ((k : Int) < 10) = true := by simp; omega
        have d6 : (k : Int) < 10 := by omega
        have d7 : (0 : Int) ≤ (k : Int) := by omega
        have w1' : wrap64 ((k : Int) + 1) = (k : Int) + 1 := IntWalk.wrap64_in _ (by omega)
        have HK := Lib.hid hlt
        clear hlt hk
        generalize vB k = v at *
        have q1 : (v.toList == v.toList) = true := by simp
        have q2 : (v.toList != v.toList) = false := by simp
        go_wp2_with (fail)
        go_quiet (fail)
        have HBN := Lib.hid (drawN_below HBO.out nq)
        go_wp2_with (fail)
        try rw [w1']
        exact ⟨⟨k + 1, HK.out, by go_num, HBN.out⟩, by have := HK.out; simp [intOf]; omega⟩
      · as_aux_lemma =>
        obtain rfl : k = 10 := by omega
        have d5 : decide (((10 : Nat) : Int) < 10) = false := by simp
        clear hlt hk HTO HSO
        have HK1 : Hid (h.a8.size ≤ 1000000000) := Lib.hid (by have t := HSM.out; unfold Hd.sum at t; omega)
        have HK2 : Hid (h.a9.size ≤ 1000000000) := Lib.hid (by have t := HSM.out; unfold Hd.sum at t; omega)
        clear HS HSE HSM HBO
        have HVL := Lib.hid (fun (q : Later wo) => HV.out q.u (HBW.out.trans (q.h.mono HBW.out.size)))
        have HC1 := Lib.hid (fun (q : Later wo) => check_ h q.u (HVL.out q) HK1.out HK2.out)
        have HC2 := Lib.hid (fun (q : Later wo) => refCheck09 h q.u HK1.out HK2.out)
        have KX : Hid (∀ W, (∃ n : Later wo, W = n.u) → BoxH h w.heap.size W) := Lib.hid (fun W ⟨n, e⟩ => e ▸ HXO.out.below n.h)
        obtain ⟨K, hK⟩ : ∃ K, K = checkD h := ⟨_, rfl⟩
        rw [← hK] at HC1 HC2
        clear hK HK1 HK2 HXO HV
        have q1 := str_self x
        have q2 : ((K : Int) == K) = true := by simp
        have q3 : ((z : Int) == z) = true := by simp
        go_wp2_with (fail)
        refine region_later (by kernel_rfl) (by kernel_rfl) ?_
        repeat (first
          | (with_reducible refine wpQuiet_loadH w.heap.size h (by kernel_rfl) (by kernel_rfl) KX.out ?_; simp only [Act.put, List.setIfInBounds_toArray, List.set_cons_zero, List.set_cons_succ])
          | go_big_quiet_step ((first
            | (go_at_call 18; exact Calls.later (HC1.out _))
            | (go_at_call 19; exact Calls.later (HC2.out _)))))
        refine wpQuiet_nil ?_
        intro nq
        have hbq := Lib.hid (HBW.out.trans (nq.h.mono HBW.out.size))
        go_wp2
        go_ret
        exact ⟨rfl, hbq.out⟩
  · as_aux_lemma =>
    clear hgr HX1
    go_wp2_with (fail)
    refine (alive09 w1 (HV.out w1 HB1.out)).mono ?_
    rintro e w2 ⟨rfl, hb2⟩
    have HB2 := Lib.hid (HB1.out.trans (hb2.mono HB1.out.size))
    clear hb2
    go_wp2_with (fail)
    go_ret
    exact ⟨rfl, HB2.out⟩
end Go.Proofs.YtodgcmjdnfbegaaDoor
