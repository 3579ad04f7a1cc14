/- WalRoom, walked. -/
import Derived.Test.YthblbmbefhlbjaaWalA
namespace Go.Proofs.Ythblbmbefhlbjaa
open Go.RowKit Go.MapKept

theorem min200 (n : Nat) : ∃ m : Nat, m ≤ n ∧ m ≤ 200 ∧ (m = 0 → n = 0) ∧ min (n : Int) 200 = (m : Int) := ⟨min n 200, by omega, by omega, by omega, by omega⟩
theorem okLen_le {n : Nat} (h1 : 1 ≤ n) (h2 : n ≤ 65536) : okLen n = true := by unfold okLen; simp; omega
theorem addX_ok {r : Int} {rs : List (List UInt8)} {l : List UInt8} (h : okLen l.length = true) : addX r rs l = if ((recs rs).length : Int) + 8 + (l.length : Int) ≤ r then (0, rs ++ [l]) else (4, rs) := by
  unfold addX
  rw [if_neg (by rw [h]; decide), record_length]
  by_cases hle : ((recs rs).length : Int) + 8 + (l.length : Int) ≤ r
  · rw [if_pos hle, if_pos (by omega)]
  · rw [if_neg hle, if_neg (by omega)]
theorem addX_zero {r : Int} {rs : List (List UInt8)} {l : List UInt8} (h : l.length = 0) : addX r rs l = (9, rs) := by
  unfold addX
  rw [if_pos (by rw [h]; decide)]
theorem recs_len_snoc (rs : List (List UInt8)) (l : List UInt8) : (recs (rs ++ [l])).length = (recs rs).length + 8 + l.length := by
  rw [recs_snoc, List.length_append, record_length]; omega
/-- a log on a disk that does as it is told, so far -/
def RoomSt (B L D M : Nat) (r : Int) (k : Nat) (wr : World) : Prop := ∃ F v d rs, DkAt wr B D M d F ∧ LgAt wr B L D M F nmL rs (recs rs).length v ∧ FsOk d (fsOf F) ∧ WPlain d (fsOf F) nmL rs ∧ d.ops ≤ 3 * (k : Int) ∧ d.room = r ∧ rs.length ≤ k
set_option maxHeartbeats 16000000 in
set_option maxRecDepth 100000 in
theorem walRoom_walk (x : Int) (A : Option Addr) (n c : Nat) (L0 : List (List UInt8)) (w : World) (wf : (Lit.int .u16 x).wf = true) (hS : Rd w A n c L0) (_hR : ∀ x ∈ L0, x.length ≤ 140737488351232) :
    Calls Try.prog 8 #[.int .u16 x, .slice A n c] w (True_ w) := by
  have hx : 0 ≤ x ∧ x ≤ 65535 := by
    have h : IntKind.u16.min ≤ x ∧ x ≤ IntKind.u16.max := by simpa [Lit.wf] using wf
    simpa [IntKind.min, IntKind.max, IntKind.signed, IntKind.bits] using h
  obtain ⟨r, hr⟩ : ∃ r : Nat, x.tmod 600 = (r : Int) := ⟨(x % 600).toNat, by rw [Int.tmod_eq_emod_of_nonneg hx.1]; omega⟩
  have hr6 : r < 600 := by rw [Int.tmod_eq_emod_of_nonneg hx.1] at hr; omega
  have w16 : IntKind.u16.wrap (r : Int) = (r : Int) := by simp [IntKind.wrap, IntKind.bits, IntKind.signed]; omega
  have w64 : IntKind.i64.wrap (r : Int) = (r : Int) := IntWalk.i64_in _ (by omega)
  have HR6 := Lib.hid hr6
  have HS := Lib.hid hS
  have hnm := hS.nmax
  clear wf hS _hR
  go_enter Try.func8, Try.ntmps8
  go_wp2_with (fail)
  refine (dkNew (r : Int) (by have := HR6.out; omega) w).mono ?_
  rintro e w1 ⟨D, M, rfl, h1, hb1⟩
  have H1 := Lib.hid h1
  have HB1 := Lib.hid hb1
  clear h1 hb1 hr w16 w64 hx
  go_wp2_with (fail)
  refine (alive14 w1).mono ?_
  rintro e w2 ⟨rfl, hb2⟩
  have H2 := Lib.hid (H1.out.below hb2)
  have HB2 : Hid (Below w.heap.size w w2) := Lib.hid (HB1.out.trans (hb2.mono HB1.out.size))
  clear hb2 H1 HB1
  by_cases hbig : 40 < n
  · as_aux_lemma =>
    have d1 : decide ((40 : Int) < (n : Int)) = true := by simp; omega
    go_wp2_with (fail)
    refine (alive14 w2).mono ?_
    rintro e w3 ⟨rfl, hb3⟩
    have HB3 : Hid (Below w.heap.size w w3) := Lib.hid (HB2.out.trans (hb3.mono HB2.out.size))
    clear hb3
    go_wp2_with (fail)
    go_ret
    exact ⟨rfl, HB3.out⟩
  have d1 : decide ((40 : Int) < (n : Int)) = false := by simp; omega
  have HN : Hid (n ≤ 40) := Lib.hid (by omega)
  clear hbig
  go_wp2_with (fail)
  refine (walOpen_new (by have := HR6.out; omega) H2.out nmL (by decide) nameL HB2.out.size).mono ?_
  rintro e w3 ⟨L, v, rfl, hl3, h3, hc3, _, _⟩
  have HB3 := Lib.hid (HB2.out.trans (hc3.below H2.out HB2.out.size))
  have HST : Hid (RoomSt w.heap.size L D M (r : Int) 0 w3) := Lib.hid ⟨[], v, _, [], h3, hl3, newW_ok (r : Int) (by have := HR6.out; omega), newW_plain (r : Int) nmL, by show (0 : Int) ≤ _; omega, rfl, Nat.le_refl _⟩
  clear hl3 h3 hc3 H2 HB2 d1
  go_wp2_with (fail)
  go_loopw [49, 9, 10, 11, 12, 84, 96] (fun i _ _ _ _ _ _ wr => ∃ k : Nat, k ≤ n ∧ i = .int .i64 k ∧ RoomSt w.heap.size L D M (r : Int) k wr ∧ Below w.heap.size w wr) (fun i _ _ _ _ _ _ _ => n - (intOf i).toNat)
  case atStart => exact ⟨0, Nat.zero_le _, rfl, HST.out, HB3.out⟩
  case round =>
    obtain ⟨wo, rfl⟩ : ∃ wo : World, wo = wr := ⟨_, rfl⟩
    obtain ⟨k, hk, rfl, ⟨F, v, d, rs, hd, hl, hok, hp, hop, hrm, hrs⟩, hb⟩ := hrel
    have HD := Lib.hid hd
    have HL := Lib.hid hl
    have HOK := Lib.hid hok
    have HP := Lib.hid hp
    have HOP := Lib.hid hop
    have HRM := Lib.hid hrm
    have HRS := Lib.hid hrs
    have HB := Lib.hid hb
    clear hd hl hok hp hop hrm hrs hb HST HB3
    by_cases hlt : k < n
    · as_aux_lemma =>
      obtain ⟨b, o, Ai, ci, rfl, hbl, hcl, hB⟩ := HS.out.read hlt
      have hcc := (HB.out.cell (p := ⟨b, o + k, none⟩) hbl).trans hcl
      have e1 : (k : Int) < (n : Int) := by omega
      have e2 : (0 : Int) ≤ (k : Int) := by omega
      have HLT := Lib.hid hlt
      obtain ⟨m, m1, m2, m3, hm⟩ := min200 (L0.getD k []).length
      have hy1 := hB.nmax
      have hy2 := hB.le
      have hmc : m ≤ ci := by omega
      have hmci : (m : Int) ≤ (ci : Int) := by omega
      have hm0 : (0 : Int) ≤ (m : Int) := by omega
      have HX := Lib.hid ((hB.take m1).below HB.out)
      have HLO : Hid (0 < m → ∀ a, Ai = some a → ¬ DFoot D M F a.block) := Lib.hid (fun h0 a ha hf => by
        obtain ⟨g', o', e', hlt', _⟩ := (hB.take m1).at_ h0
        rw [ha] at e'; injection e' with e'; subst e'
        have h6 := (HD.out.foot_lt hf).1
        simp only at h6
        omega)
      have HM : Hid (m ≤ 200) := Lib.hid m2
      have HW1 : Hid (wrap64 ((k : Int) + 1) = (k : Int) + 1) := Lib.hid (IntWalk.wrap64_in _ (by omega))
      have hci := hB.max
      clear hB hbl hcl hlt hk
      generalize (L0.getD k []) = y at *
      generalize y.take m = X at *
      have HXL : Hid (X.length = m) := Lib.hid HX.out.len
      go_wp2_with (fail)
      clear hcc
      refine (walLen HL.out).mono ?_
      rintro e w4 ⟨rfl, rfl⟩
      go_wp2_with (fail)
      refine (walGood HL.out).mono ?_
      rintro e w5 ⟨rfl, rfl⟩
      go_wp2_with (fail)
      refine (walAddP HL.out HD.out HOK.out HP.out (by have := HOP.out; have := HN.out; have := HLT.out; omega) (by decide) nameL Ai m ci X HX.out HLO.out (by have := HRS.out; have := HN.out; have := HLT.out; omega) HB.out.size).mono ?_
      rintro e w6 ⟨F6, v6, d6, rfl, h6, hl6, hc6, hok6, hp6, hop6, hr6⟩
      have HB6 := Lib.hid (HB.out.trans (hc6.below HL.out HD.out HB.out.size))
      have HGB : Hid ((recs rs).length ≤ 1073741824) := Lib.hid (by have h1 := HP.out.hu; have h2 := HOK.out.ok.used; omega)
      by_cases hz : m = 0
      · as_aux_lemma =>
        subst hz
        have ea : addX d.room rs X = (9, rs) := addX_zero HXL.out
        rw [ea] at hl6 hp6 ⊢
        have HNX : Hid (RoomSt w.heap.size L D M (r : Int) (k + 1) w6) := Lib.hid ⟨F6, v6, d6, rs, h6, hl6, hok6, hp6, by have := HOP.out; omega, by rw [hr6]; exact HRM.out, by have := HRS.out; omega⟩
        have HL6 := Lib.hid hl6
        clear ea h6 hl6 hc6 hok6 hp6 hop6 hr6 m1 m3 hm hmc hmci hm0
        go_wp2_with (fail)
        refine (walLen HL6.out).mono ?_
        rintro e w7 ⟨rfl, rfl⟩
        have w1' := HW1.out
        go_wp2_with (fail)
        exact ⟨⟨k + 1, HLT.out, by go_num, HNX.out, HB6.out⟩, by have := HLT.out; clear w1'; simp [intOf]; omega⟩
      have z1 : ((m : Int) == 0) = false := by rw [beq_eq_false_iff_ne]; omega
      have z2 : decide (m = 0) = false := by simpa using hz
      have ea := addX_ok (r := d.room) (rs := rs) (l := X) (by rw [HXL.out]; exact okLen_le (by omega) (by omega))
      rw [HXL.out, HRM.out] at ea
      obtain ⟨T1, hT1⟩ : ∃ T1, T1 = (recs rs).length + 8 := ⟨_, rfl⟩
      obtain ⟨T, hT⟩ : ∃ T, T = T1 + m := ⟨_, rfl⟩
      have HG1 : Hid (wrap64 (((recs rs).length : Int) + 8) = (T1 : Int)) := Lib.hid (by rw [IntWalk.wrap64_in _ (by have := HGB.out; omega)]; omega)
      have HG2 : Hid (wrap64 ((T1 : Int) + (m : Int)) = (T : Int)) := Lib.hid (by rw [IntWalk.wrap64_in _ (by have := HGB.out; have := HM.out; omega)]; omega)
      have HTT : Hid (((recs rs).length : Int) + 8 + (m : Int) = (T : Int)) := Lib.hid (by omega)
      rw [HTT.out] at ea
      clear hT1 hT
      have HZ : Hid (1 ≤ m) := Lib.hid (by omega)
      have HDR : Hid (d6.room = (r : Int)) := Lib.hid (by rw [hr6]; exact HRM.out)
      by_cases hfit : (T : Int) ≤ (r : Int)
      · as_aux_lemma =>
        rw [if_pos hfit] at ea
        rw [HRM.out, ea] at hl6 hp6
        rw [HRM.out, ea]
        have HU6 : Hid (d6.used = (T : Int)) := Lib.hid (by rw [hp6.hu, recs_len_snoc, HXL.out, ← HTT.out]; omega)
        have HNX : Hid (RoomSt w.heap.size L D M (r : Int) (k + 1) w6) := Lib.hid ⟨F6, v6, d6, rs ++ [X], h6, hl6, hok6, hp6, by have := HOP.out; omega, HDR.out, by rw [List.length_append]; have := HRS.out; simp; omega⟩
        have HL6 := Lib.hid hl6
        have H6 := Lib.hid h6
        have q1 : decide (r < T) = false := by simp; omega
        have q2 : ¬ (r < T) := by omega
        have HLN : Hid ((rs ++ [X]).length = rs.length + 1) := Lib.hid (by simp)
        have HL1 : Hid (wrap64 ((rs.length : Int) + 1) = (rs.length : Int) + 1) := Lib.hid (IntWalk.wrap64_in _ (by have := HRS.out; have := HN.out; have := HLT.out; omega))
        clear ea h6 hl6 hc6 hok6 hp6 hop6 hr6 m1 m3 hm hmc hmci hm0 hz hfit
        have g1 := HG1.out
        have g2 := HG2.out
        go_wp2_with (fail)
        refine (dkRoom H6.out).mono ?_
        rintro e w7 ⟨rfl, rfl⟩
        rw [HDR.out]
        go_wp2_with (fail)
        clear g1 g2
        refine (walLen HL6.out).mono ?_
        rintro e w7 ⟨rfl, rfl⟩
        rw [HLN.out]
        have l1 := HL1.out
        go_wp2_with (fail)
        clear l1
        refine (dkUsed H6.out).mono ?_
        rintro e w8 ⟨rfl, rfl⟩
        rw [HU6.out]
        have w1' := HW1.out
        have g1 := HG1.out
        have g2 := HG2.out
        go_wp2_with (fail)
        exact ⟨⟨k + 1, HLT.out, by go_num, HNX.out, HB6.out⟩, by have := HLT.out; clear w1' g1 g2; simp [intOf]; omega⟩
      · as_aux_lemma =>
        rw [if_neg hfit] at ea
        rw [HRM.out, ea] at hl6 hp6
        rw [HRM.out, ea]
        have HU6 : Hid (d6.used = ((recs rs).length : Int)) := Lib.hid (by rw [hp6.hu])
        have HNX : Hid (RoomSt w.heap.size L D M (r : Int) (k + 1) w6) := Lib.hid ⟨F6, v6, d6, rs, h6, hl6, hok6, hp6, by have := HOP.out; omega, HDR.out, by have := HRS.out; omega⟩
        have HL6 := Lib.hid hl6
        have H6 := Lib.hid h6
        have q1 : decide (r < T) = true := by simp; omega
        have q2 : r < T := by omega
        clear ea h6 hl6 hc6 hok6 hp6 hop6 hr6 m1 m3 hm hmc hmci hm0 hz hfit
        have g1 := HG1.out
        have g2 := HG2.out
        go_wp2_with (fail)
        refine (dkRoom H6.out).mono ?_
        rintro e w7 ⟨rfl, rfl⟩
        rw [HDR.out]
        go_wp2_with (fail)
        clear g1 g2
        refine (walLen HL6.out).mono ?_
        rintro e w7 ⟨rfl, rfl⟩
        go_wp2_with (fail)
        refine (walGood HL6.out).mono ?_
        rintro e w8 ⟨rfl, rfl⟩
        go_wp2_with (fail)
        refine (dkUsed H6.out).mono ?_
        rintro e w7 ⟨rfl, rfl⟩
        rw [HU6.out]
        have w1' := HW1.out
        have g1 := HG1.out
        have g2 := HG2.out
        go_wp2_with (fail)
        exact ⟨⟨k + 1, HLT.out, by go_num, HNX.out, HB6.out⟩, by have := HLT.out; clear w1' g1 g2; simp [intOf]; omega⟩
    · as_aux_lemma =>
      obtain rfl : k = n := by omega
      clear hlt
      go_wp2_with (fail)
      go_ret
      exact ⟨rfl, HB.out⟩
end Go.Proofs.Ythblbmbefhlbjaa
