/- EntryCuts, walked. -/
import Derived.Test.YtamjcihhilmppaaScan
import Derived.Test.YtamjcihhilmppaaCutsMath
import Derived.Test.YtamjcihhilmppaaWants
import Derived.Test.YtamjcihhilmppaaSame13
import Derived.Test.YtamjcihhilmppaaEntryAlive
namespace Go.Proofs.Ytamjcihhilmppaa
open Go.RowKit

theorem min100 (n : Nat) : ∃ m : Nat, m ≤ n ∧ m ≤ 100 ∧ min (n : Int) 100 = (m : Int) := ⟨min n 100, by omega, by omega, by omega⟩
theorem getD_lt {L : List (List UInt8)} {k : Nat} (h : k < L.length) : L.getD k [] ∈ L := by
  rw [List.getD_eq_getElem?_getD, List.getElem?_eq_getElem h]
  exact List.getElem_mem _
theorem recs_len (own : List (List UInt8)) (h : ∀ x ∈ own, okLen x.length = true ∧ x.length ≤ 100) : (recs own).length ≤ 108 * own.length := by
  induction own with
  | nil => simp [recs]
  | cons b r ih =>
    have h1 := ih (fun x hx => h x (List.mem_cons_of_mem _ hx))
    have h2 := (h b (by simp)).2
    rw [recs_cons, List.length_append, record_length, List.length_cons]
    omega
theorem Rd.take {w : World} {A : Option Addr} {n c : Nat} {L : List (List UInt8)} (h : Rd w A n c L) {q : Nat} (hq : q ≤ n) : Rd w A q c (L.take q) := by
  obtain ⟨h1, h2, h3, h4⟩ := h
  refine ⟨by rw [List.length_take, h1]; omega, by omega, h3, fun hn => ?_⟩
  obtain ⟨b, o, rfl, hlt, hc⟩ := h4 (by omega)
  refine ⟨b, o, rfl, hlt, fun i x hx => ?_⟩
  rw [List.getElem?_take] at hx
  split at hx
  · exact hc i x hx
  · cases hx

set_option maxHeartbeats 4000000 in
set_option maxRecDepth 100000 in
theorem entryCuts_walk (A : Option Addr) (n0 c : Nat) (L : List (List UInt8)) (cut : Int) (w : World) (hS : Rd w A n0 c L) (_hR : ∀ x ∈ L, x.length ≤ 140737488351232) (_wf : (Lit.int .i64 cut).wf = true) :
    Calls Try.prog 10 #[.slice A n0 c, .int .i64 cut] w (True_ w) := by
  have hmax := hS.nmax
  have HS := Lib.hid hS
  have HLN := Lib.hid hS.1
  clear hS _hR _wf
  by_cases hlong : 50 < n0
  · go_enter Try.func10, Try.ntmps10
    go_wp2_with (fail)
    refine (entryAlive w).mono ?_
    rintro e w1 ⟨rfl, hb1⟩
    have HB1 := Lib.hid hb1
    clear hb1
    go_wp2_with (fail)
    go_ret
    exact ⟨rfl, HB1.out⟩
  have HN := Lib.hid hlong
  go_enter Try.func10, Try.ntmps10
  go_wp2_with (fail)
  go_loopw [5, 6, 24, 8, 9, 10] (fun va vo i _ _ _ wr => ∃ (k : Nat) (ol : List (List UInt8)), k ≤ n0 ∧ i = .int .i64 k ∧ Coll w.heap.size w (recs ol) ol va vo wr ∧ (∀ x ∈ ol, okLen x.length = true ∧ x.length ≤ 100) ∧ ol.length ≤ k) (fun _ _ i _ _ _ _ => n0 - (intOf i).toNat)
  case atStart => exact ⟨0, [], Nat.zero_le _, rfl, ⟨Own.nil _ _ _, Wants.nil _ _, Below.refl _ _, Nat.le_refl _, Nat.le_refl _⟩, (fun x hx => by cases hx), Nat.le_refl _⟩
  case round =>
    obtain ⟨wo, rfl⟩ : ∃ wo : World, wo = wr := ⟨_, rfl⟩
    obtain ⟨k, ol, hk, rfl, hc, ho, hl⟩ := hrel
    obtain ⟨va, hva⟩ : ∃ va, va = u5 := ⟨_, rfl⟩
    obtain ⟨vo, hvo⟩ : ∃ vo, vo = u6 := ⟨_, rfl⟩
    subst hva hvo
    have HC := Lib.hid hc
    have HO := Lib.hid ho
    have HOL := Lib.hid hl
    clear hc ho hl
    by_cases hlt : k < n0
    · obtain ⟨b, o, Ai, ci, rfl, hbl, hcl, hB⟩ := HS.out.read hlt
      have hcc := (HC.out.low.cell (p := ⟨b, o + k, none⟩) hbl).trans hcl
      have e1 : (k : Int) < (n0 : Int) := by omega
      have HLT := Lib.hid hlt
      have HBY := Lib.hid hB
      have hN := HN.out
      have hol := HOL.out
      obtain ⟨m, m1, m2, hm⟩ := min100 (L.getD k []).length
      have hy1 := hB.nmax
      have hy2 := hB.le
      have hmc : m ≤ ci := by omega
      have hmci : (m : Int) ≤ (ci : Int) := by omega
      have HX := Lib.hid ((hB.take m1).below HC.out.low)
      have HXW := Lib.hid (hB.take m1)
      clear hbl hcl hB hlt
      have hci := HBY.out.max
      generalize (L.getD k []) = y at *
      clear HBY
      generalize y.take m = X at *
      have HXL := Lib.hid HX.out.len
      go_wp2_with (fail)
      by_cases hok : okLen m = true
      case neg =>
        have hok' : okLen m = false := by cases h : okLen m with
          | true => exact absurd h hok
          | false => rfl
        refine (entryPut_no Ai m ci wo hok').mono ?_
        rintro e w1 ⟨A1, c1, rfl, hB1, hb1⟩
        have HC1 := Lib.hid (HC.out.below hb1)
        clear hB1 hb1 hok hok'
        go_wp2_with (fail)
        exact ⟨⟨k + 1, ol, HLT.out, by go_num, HC1.out, HO.out, by have := HOL.out; omega⟩, by have := HLT.out; simp [intOf]; omega⟩
      have HOK := Lib.hid hok
      clear hok
      refine (entryPut_yes Ai m ci X wo HX.out HOK.out).mono ?_
      rintro e w1 ⟨A1, c1, rfl, hB1, hb1⟩
      have HC1 := Lib.hid (HC.out.below hb1)
      have HF1 := Lib.hid hB1
      have HRL : Hid ((record X).length = m + 8) := Lib.hid (by rw [record_length, HXL.out]; omega)
      rw [HRL.out] at HF1 ⊢
      have HAL : Hid ((recs ol).length ≤ 108 * ol.length) := Lib.hid (recs_len ol HO.out)
      have HBAi : Hid (0 < X.length → ∀ b, Ai = some b → b.block < w.heap.size) := Lib.hid (fun h0 b hb => by
        obtain ⟨b', o', e, hlt, _⟩ := HXW.out.at_ (by rw [← HXL.out]; exact h0)
        rw [e] at hb
        injection hb with hb
        subst hb
        exact hlt)
      have HRS : Hid (recs ol ++ record X = recs (ol ++ [X])) := Lib.hid (recs_snoc ol X).symm
      have HOX : Hid (∀ x ∈ ol ++ [X], okLen x.length = true ∧ x.length ≤ 100) := Lib.hid (fun x hx => by
        rcases List.mem_append.1 hx with hx | hx
        · exact HO.out x hx
        · simp at hx; rw [hx, HXL.out]; exact ⟨HOK.out, m2⟩)
      have HOZ : Hid ((ol ++ [X]).length ≤ k + 1) := Lib.hid (by rw [List.length_append, List.length_singleton]; have := HOL.out; omega)
      clear hB1 hb1
      obtain ⟨Z, hZ⟩ : ∃ Z, ol ++ [X] = Z := ⟨_, rfl⟩
      rw [hZ] at HRS HOX HOZ
      have HZ := Lib.hid hZ
      obtain ⟨R, hR⟩ : ∃ R, recs Z = R := ⟨_, rfl⟩
      have HR := Lib.hid hR
      rw [hR] at HRS
      clear hZ hR
      generalize record X = rec at *
      have tok1 : Hid True := Lib.hid trivial
      have tok2 : Hid True := Lib.hid trivial
      go_wp2_with (first
        | (at_builtin; have _t := tok1; go_loud ((refine wpList_app rfl (.tmp 40) (.tmp 41) 22 rfl w.heap.size 5 Try.underlying22 byteInfo va (recs ol) rfl HC1.out.own A1 (m + 8) c1 rec rfl HF1.out (by have := HAL.out; omega) HC1.out.sz ?_; intro v6 w6 hown6 hb6 hgr6; rw [HRS.out] at hown6; have HC6 := Lib.hid (HC1.out.app hown6 hgr6); obtain ⟨A6, c6, rfl, _, _⟩ := Own.bs hown6; have HCA := Lib.hid (HC6.out.below ((Below.refl w6.heap.size w6).alloc (Nat.le_refl _) (.cells #[.slice Ai m ci] 22))); have HROW := Lib.hid (heap_alloc_new w6 (.cells #[.slice Ai m ci] 22)); have HXA : Hid (Bs (w6.alloc (.cells #[.slice Ai m ci] 22)) Ai m ci X) := Lib.hid (HXW.out.below HCA.out.low); clear tok1 hown6 hb6 hgr6 _t)))
        | (at_builtin; have _t := tok2; go_loud ((refine wpList_want1 rfl (.tmp 43) (.tmp 45) rfl w.heap.size vo ol X Ai ci rfl HCA.out.want (by rw [HXL.out]; exact HXA.out) HBAi.out w6.heap.size rfl (by rw [HXL.out]; exact HROW.out) (by omega) HCA.out.sz ?_; intro v8 w8 hw8 hgr8 hfr8; rw [HZ.out] at hw8; have HC8 := Lib.hid (HCA.out.wanted hw8 hgr8); obtain ⟨A8, c8, rfl, _⟩ := hw8.rd; clear tok2 hw8 hgr8 hfr8 _t))))
      exact ⟨⟨k + 1, Z, HLT.out, by go_num, by rw [HR.out]; exact HC8.out, HOX.out, HOZ.out⟩, by have := HLT.out; simp [intOf]; omega⟩
    · obtain rfl : k = n0 := by omega
      have HAL : Hid ((recs ol).length ≤ 108 * ol.length) := Lib.hid (recs_len ol HO.out)
      have hol := HOL.out
      have hN := HN.out
      have har : (recs ol).length ≤ 5400 := by have := HAL.out; omega
      obtain ⟨j, hj, hje⟩ := bits_index cut ((recs ol).length + 1) (by omega) (by omega)
      have HOKL : Hid (∀ x ∈ ol, okLen x.length = true) := Lib.hid (fun x hx => (HO.out x hx).1)
      have hjl : j ≤ (recs ol).length := by omega
      have HCS := Lib.hid (cut_scan ol j HOKL.out hjl)
      obtain ⟨Aa, ca, hva, hba, hlo⟩ := Own.bs HC.out.own
      obtain ⟨Aw, cw, hvw, hrw⟩ := HC.out.want.rd
      subst hva hvw
      have HBT := Lib.hid (hba.take hjl)
      have hba1 := hba.le
      have hba2 := hba.max
      have HRW := Lib.hid hrw
      clear hba hlo hrw hlt
      have hji : (j : Int) ≤ (ca : Int) := by omega
      rw [show (((recs ol).length + 1 : Nat) : Int) = ((recs ol).length : Int) + 1 from by omega] at hje
      have HTL : Hid (((recs ol).take j).length = j) := Lib.hid (by rw [List.length_take]; omega)
      generalize (recs ol).take j = tk at *
      generalize (recs ol).length = rl at *
      go_wp2_with (fail)
      rw [hje]
      refine (entryScan Aa j ca tk wo HBT.out (by omega)).mono ?_
      rintro e w5 ⟨A5, c5, rfl, hr5, hb5⟩
      rw [HCS.out] at hr5 ⊢
      simp only at hr5 ⊢
      have HR5 := Lib.hid hr5
      have HRW5 := Lib.hid (HRW.out.below hb5)
      have HB5 : Hid (Below w.heap.size w w5) := Lib.hid (HC.out.low.trans (hb5.mono HC.out.low.size))
      have hcu : ∃ cu, cutI ol j = cu := ⟨_, rfl⟩
      obtain ⟨⟨q1, a1⟩, hcu⟩ := hcu
      rw [hcu] at HR5 ⊢
      simp only at HR5 ⊢
      have HCU := Lib.hid hcu
      obtain ⟨L1, hL1⟩ : ∃ L1, ol.take q1 = L1 := ⟨_, rfl⟩
      rw [hL1] at HR5 ⊢
      have HL1' := Lib.hid hL1
      obtain ⟨f1, hf1⟩ : ∃ f1 : Int, (if a1 = j then (0 : Int) else 7) = f1 := ⟨_, rfl⟩
      rw [hf1]
      have HF1 := Lib.hid hf1
      clear hr5 hb5 hcu hL1 hf1 hje
      go_wp2_with (fail)
      go_loopw [66, 15, 6, 16, 17] (fun i at_ own _ _ wr => ∃ (q a : Nat), q ≤ ol.length ∧ i = .int .i64 q ∧ at_ = .int .i64 a ∧ own = .slice Aw ol.length cw ∧ CutAt ol j q a ∧ w5 = wr) (fun i _ _ _ _ _ => ol.length - (intOf i).toNat)
      case atStart => exact ⟨0, 0, Nat.zero_le _, rfl, rfl, rfl, CutAt.start ol j, rfl⟩
      case round =>
        obtain ⟨q, a, hq, rfl, rfl, rfl, hca, rfl⟩ := hrel
        have HCA := Lib.hid hca
        have haj : a ≤ j := hca.2.1
        clear hca
        by_cases hlt : q < ol.length
        · obtain ⟨b2, o2, Ai, ci, rfl, _, hcl, hBi⟩ := HRW5.out.read hlt
          have e1 : (q : Int) < (ol.length : Int) := by omega
          have hbl : (ol.getD q []).length ≤ 100 := (HO.out _ (getD_lt hlt)).2
          have HBO : Hid (okLen (ol.getD q []).length = true) := Lib.hid (HO.out _ (getD_lt hlt)).1
          have HLT := Lib.hid hlt
          have HMO : Hid (¬ j < a + (8 + (ol.getD q []).length) → CutAt ol j (q + 1) (a + (8 + (ol.getD q []).length))) := Lib.hid (fun h => HCA.out.more hlt h)
          have HST : Hid (j < a + (8 + (ol.getD q []).length) → cutI ol j = (q, a)) := Lib.hid (fun h => HCA.out.stop hlt h)
          have hqc : q ≤ cw := by have := HRW5.out.2.1; omega
          have hcm : cw ≤ 9223372036854775807 := by have := HRW5.out.2.2.1; simp only [maxLen] at this; omega
          clear hBi hlt
          generalize (ol.getD q []).length = z at *
          have hs1 : ((a + (8 + z) : Nat) : Int) = (a : Int) + (8 + (z : Int)) := by omega
          have HS1 := Lib.hid hs1
          clear hs1
          by_cases hj : j < a + (8 + z)
          · have HCQ := Lib.hid (HST.out hj)
            have hjg : (j : Int) < (a : Int) + (8 + (z : Int)) := by omega
            have hba : (a : Int) + (8 + (z : Int)) - (8 + (z : Int)) = (a : Int) := by omega
            clear HST HMO hj
            go_wp2_with (go_at_call 27; refine (entrySize_yes z w5 HBO.out).mono ?_; rintro e w' ⟨rfl, rfl⟩)
            have HQ : Hid (q ≤ ol.length) := Lib.hid (by have := HLT.out; omega)
            have hq12 := HCU.out.symm.trans HCQ.out
            injection hq12 with hqa hqb
            subst hqa hqb
            have hLq : L1.length = q1 := by rw [← HL1'.out, List.length_take]; have := HQ.out; omega
            rw [hLq] at HR5 ⊢
            have HL2 : Hid (L1 = ol.take q1) := Lib.hid HL1'.out.symm
            clear hLq HCQ HCU HCS
            by_cases haj2 : a1 = j
            · have hf : f1 = 0 := by rw [← HF1.out, if_pos haj2]
              subst hf haj2
              refine (entryAlive w5).mono ?_
              rintro e w6 ⟨rfl, hb6⟩
              have HR6 := Lib.hid (HR5.out.below hb6)
              have HO6 : Hid (Rd w6 (some ⟨b2, o2, none⟩) q1 cw (ol.take q1)) := Lib.hid ((HRW5.out.take HQ.out).below hb6)
              have HB6 : Hid (Below w.heap.size w w6) := Lib.hid (HB5.out.trans (hb6.mono HB5.out.size))
              clear hb6
              go_wp2_with (fail)
              refine (same13 A5 (some ⟨b2, o2, none⟩) q1 c5 cw (ol.take q1) w6 (by have := HR6.out; rwa [HL2.out] at this) HO6.out).mono ?_
              rintro e w7 ⟨rfl, hb7⟩
              have HB7 : Hid (Below w.heap.size w w7) := Lib.hid (HB6.out.trans (hb7.mono HB6.out.size))
              clear hb7
              go_wp2_with (fail)
              go_ret
              exact ⟨rfl, HB7.out⟩
            · have hf : f1 = 7 := by rw [← HF1.out, if_neg haj2]
              subst hf
              have hne1 : ((a1 : Int) == (j : Int)) = false := by rw [beq_eq_false_iff_ne]; omega
              have hne2 : decide ((a1 : Int) = (j : Int)) = false := by rw [decide_eq_false_iff_not]; omega
              clear haj2
              refine (entryAlive w5).mono ?_
              rintro e w6 ⟨rfl, hb6⟩
              have HR6 := Lib.hid (HR5.out.below hb6)
              have HO6 : Hid (Rd w6 (some ⟨b2, o2, none⟩) q1 cw (ol.take q1)) := Lib.hid ((HRW5.out.take HQ.out).below hb6)
              have HB6 : Hid (Below w.heap.size w w6) := Lib.hid (HB5.out.trans (hb6.mono HB5.out.size))
              clear hb6
              go_wp2_with (fail)
              refine (same13 A5 (some ⟨b2, o2, none⟩) q1 c5 cw (ol.take q1) w6 (by have := HR6.out; rwa [HL2.out] at this) HO6.out).mono ?_
              rintro e w7 ⟨rfl, hb7⟩
              have HB7 : Hid (Below w.heap.size w w7) := Lib.hid (HB6.out.trans (hb7.mono HB6.out.size))
              clear hb7
              go_wp2_with (fail)
              go_ret
              exact ⟨rfl, HB7.out⟩
          · have HCM := Lib.hid (HMO.out hj)
            have hjg : ¬ (j : Int) < (a : Int) + (8 + (z : Int)) := by omega
            clear HST HMO hj
            go_wp2_with (go_at_call 27; refine (entrySize_yes z w5 HBO.out).mono ?_; rintro e w' ⟨rfl, rfl⟩)
            exact ⟨⟨q + 1, a + (8 + z), HLT.out, by go_num, by rw [HS1.out], rfl, HCM.out, trivial⟩, by have := HLT.out; simp [intOf]; omega⟩
        · have hql : q = ol.length := by omega
          have HCQ := Lib.hid (HCA.out.all hql)
          have HQ : Hid (q ≤ ol.length) := Lib.hid hq
          clear hlt
          subst hql
          go_wp2_with (fail)
          have hq12 := HCU.out.symm.trans HCQ.out
          injection hq12 with hqa hqb
          subst hqa hqb
          have hLq : L1.length = ol.length := by rw [← HL1'.out, List.length_take]; have := HQ.out; omega
          rw [hLq] at HR5 ⊢
          have HL2 : Hid (L1 = ol.take ol.length) := Lib.hid HL1'.out.symm
          clear hLq HCQ HCU HCS
          by_cases haj2 : a1 = j
          · have hf : f1 = 0 := by rw [← HF1.out, if_pos haj2]
            subst hf haj2
            refine (entryAlive w5).mono ?_
            rintro e w6 ⟨rfl, hb6⟩
            have HR6 := Lib.hid (HR5.out.below hb6)
            have HO6 : Hid (Rd w6 Aw ol.length cw (ol.take ol.length)) := Lib.hid ((HRW5.out.take HQ.out).below hb6)
            have HB6 : Hid (Below w.heap.size w w6) := Lib.hid (HB5.out.trans (hb6.mono HB5.out.size))
            clear hb6
            go_wp2_with (fail)
            refine (same13 A5 Aw ol.length c5 cw (ol.take ol.length) w6 (by have := HR6.out; rwa [HL2.out] at this) HO6.out).mono ?_
            rintro e w7 ⟨rfl, hb7⟩
            have HB7 : Hid (Below w.heap.size w w7) := Lib.hid (HB6.out.trans (hb7.mono HB6.out.size))
            clear hb7
            go_wp2_with (fail)
            go_ret
            exact ⟨rfl, HB7.out⟩
          · have hf : f1 = 7 := by rw [← HF1.out, if_neg haj2]
            subst hf
            have hne1 : ((a1 : Int) == (j : Int)) = false := by rw [beq_eq_false_iff_ne]; omega
            have hne2 : decide ((a1 : Int) = (j : Int)) = false := by rw [decide_eq_false_iff_not]; omega
            clear haj2
            refine (entryAlive w5).mono ?_
            rintro e w6 ⟨rfl, hb6⟩
            have HR6 := Lib.hid (HR5.out.below hb6)
            have HO6 : Hid (Rd w6 Aw ol.length cw (ol.take ol.length)) := Lib.hid ((HRW5.out.take HQ.out).below hb6)
            have HB6 : Hid (Below w.heap.size w w6) := Lib.hid (HB5.out.trans (hb6.mono HB5.out.size))
            clear hb6
            go_wp2_with (fail)
            refine (same13 A5 Aw ol.length c5 cw (ol.take ol.length) w6 (by have := HR6.out; rwa [HL2.out] at this) HO6.out).mono ?_
            rintro e w7 ⟨rfl, hb7⟩
            have HB7 : Hid (Below w.heap.size w w7) := Lib.hid (HB6.out.trans (hb7.mono HB6.out.size))
            clear hb7
            go_wp2_with (fail)
            go_ret
            exact ⟨rfl, HB7.out⟩
end Go.Proofs.Ytamjcihhilmppaa
