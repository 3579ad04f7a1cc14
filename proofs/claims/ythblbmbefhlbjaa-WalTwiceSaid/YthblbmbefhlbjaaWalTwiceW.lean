/- WalTwice, walked. -/
import Derived.Test.YthblbmbefhlbjaaWalA
namespace Go.Proofs.Ythblbmbefhlbjaa
open Go.RowKit Go.MapKept

theorem get_take {l : List UInt8} {k : Nat} (h : getErr l = 0) (hk : getLen l ≤ k) : getErr (l.take k) = 0 ∧ getGet (l.take k) = getGet l ∧ getLen (l.take k) = getLen l := by
  obtain ⟨q1, q2, _, _⟩ := getErr_len h
  have hn : getLen l = 8 + beNum (l.take 4) := by unfold getLen; rw [if_pos h]
  have h1 : (l.take k).length = min k l.length := List.length_take
  have h2 : (l.take k).take 4 = l.take 4 := by rw [List.take_take, show min 4 k = 4 from by omega]
  have h3 : ((l.take k).drop 8).take (beNum (l.take 4)) = (l.drop 8).take (beNum (l.take 4)) := by rw [List.drop_take, List.take_take, show min (beNum (l.take 4)) (k - 8) = beNum (l.take 4) from by omega]
  have h4 : ((l.take k).drop 4).take 4 = (l.drop 4).take 4 := by rw [List.drop_take, List.take_take, show min 4 (k - 4) = 4 from by omega]
  have he : getErr (l.take k) = 0 := by
    have h' := h
    unfold getErr at h' ⊢
    rw [h1, h2, h3, h4]
    rw [if_neg (by omega)] at h' ⊢
    by_cases ho : okLen (beNum (l.take 4)) = false
    · rw [if_pos ho] at h'; cases h'
    rw [if_neg ho] at h' ⊢
    rw [if_neg (by omega)] at h' ⊢
    exact h'
  refine ⟨he, ?_, ?_⟩
  · unfold getGet; rw [if_pos he, if_pos h, h2, h3]
  · unfold getLen; rw [if_pos he, if_pos h, h2]
/-- the bytes that are scanned are scanned by themselves -/
theorem scan_take (l : List UInt8) : scan (l.take (scan l).2.1) = ((scan l).1, (scan l).2.1, 0) := by
  refine scan_ind (P := fun l => scan (l.take (scan l).2.1) = ((scan l).1, (scan l).2.1, 0)) ?_ ?_ ?_ l
  · rfl
  · intro l h0 he
    rw [scan_err h0 he]
    rfl
  · intro l he ih
    have hs := scan_ok he
    obtain ⟨g1, g2, g3⟩ := get_take (k := getLen l + (scan (l.drop (getLen l))).2.1) he (by omega)
    have hs2 := scan_ok g1
    rw [hs]
    simp only
    rw [hs2, g2, g3, List.drop_take, show getLen l + (scan (l.drop (getLen l))).2.1 - getLen l = (scan (l.drop (getLen l))).2.1 from by omega, ih]
theorem openD_any {d : Dk} {fs : Fs} {nm : ByteArray} {c : List UInt8} {s : Nat} (ha : d.armedIn = 0) (hf : d.failIn = 0) (hg : fget fs nm = some ⟨c, s⟩) :
    (openD d fs nm).1 = .inl 0 ∧ bsOf (openD d fs nm).2.2 nm = c.take (scan c).2.1 := by
  have hb : bsOf fs nm = c := by unfold bsOf; rw [hg]
  have hle := scan_len c
  unfold openD
  rw [hb]
  by_cases h : (scan c).2.1 = c.length
  · rw [if_pos h]
    exact ⟨rfl, by rw [show bsOf ((.inl 0, d, fs) : Out).2.2 nm = c from hb, h, List.take_of_length_le (Nat.le_refl _)]⟩
  · rw [if_neg h]
    rw [trunc_plain hg hle ha]
    obtain ⟨d1, hd1⟩ : ∃ d1 : Dk, d1 = { d.begin with used := d.used - ((c.length : Int) - ((scan c).2.1 : Int)) } := ⟨_, rfl⟩
    have a1 : d1.armedIn = 0 := by rw [hd1]; exact begin_rest ha
    have f1 : d1.failIn = 0 := by rw [hd1]; exact hf
    show (opSync { d.begin with used := d.used - ((c.length : Int) - ((scan c).2.1 : Int)) } (fput fs nm (trFl (scan c).2.1 ⟨c, s⟩)) nm).1 = .inl 0 ∧ bsOf (opSync { d.begin with used := d.used - ((c.length : Int) - ((scan c).2.1 : Int)) } (fput fs nm (trFl (scan c).2.1 ⟨c, s⟩)) nm).2.2 nm = _
    rw [← hd1, sync_plain (fget_put_same _ _ _) a1 f1]
    refine ⟨rfl, ?_⟩
    show bsOf (fput _ nm _) nm = _
    unfold bsOf
    rw [fget_put_same]
    rfl
theorem openD_again (d : Dk) {fs : Fs} {nm : ByteArray} (h : (scan (bsOf fs nm)).2.1 = (bsOf fs nm).length) : openD d fs nm = (.inl 0, d, fs) := if_pos h

set_option maxHeartbeats 16000000 in
set_option maxRecDepth 100000 in
theorem walTwice_walk (A : Option Addr) (n c : Nat) (l : List UInt8) (kp : Int) (w : World) (hB : Bs w A n c l) (_hc : c ≤ 140737488351232) (_wf : (Lit.int .i64 kp).wf = true) : Calls Try.prog 6 #[.slice A n c, .int .i64 kp] w (True_ w) := by
  have HBL := Lib.hid hB
  clear hB _wf
  go_enter Try.func6, Try.ntmps6
  go_wp2_with (fail)
  refine (dkNew 1073741824 (by decide) w).mono ?_
  rintro e w1 ⟨D, M, rfl, h1, hb1⟩
  have H1 := Lib.hid h1
  have HB1 := Lib.hid hb1
  clear h1 hb1
  go_wp2_with (fail)
  refine (alive14 w1).mono ?_
  rintro e w2 ⟨rfl, hb2⟩
  have H2 := Lib.hid (H1.out.below hb2)
  have HB2 : Hid (Below w.heap.size w w2) := Lib.hid (HB1.out.trans (hb2.mono HB1.out.size))
  clear hb2 H1 HB1
  by_cases hbig : 2000 < n
  · as_aux_lemma =>
    have d1 : decide ((2000 : Int) < (n : Int)) = true := by simp; omega
    go_wp2_with (fail)
    refine (alive14 w2).mono ?_
    rintro e w3 ⟨rfl, hb3⟩
    have HB3 : Hid (Below w.heap.size w w3) := Lib.hid (HB2.out.trans (hb3.mono HB2.out.size))
    clear hb3
    go_wp2_with (fail)
    go_ret
    exact ⟨rfl, HB3.out⟩
  have d1 : decide ((2000 : Int) < (n : Int)) = false := by simp; omega
  clear hbig
  go_wp2_with (fail)
  clear d1
  refine (mAppendW H2.out (newW_ok 1073741824 (by decide)) nmL (by decide) A n c l (HBL.out.below HB2.out) HB2.out.size).mono ?_
  rintro e w3 ⟨F3, he, h3, hc3, hf3⟩
  have hok3 := app_okW (newW_ok 1073741824 (by decide)) (by show (0 : Int) + 1 ≤ _; decide) nmL l
  obtain ⟨q, hq, hg3, _⟩ := app_get (d := ⟨1073741824, 0, 0, 0, 0, 0⟩) (fs := fsOf []) (l := l) nameL (c := []) (s := 0) (.inl ⟨rfl, rfl, rfl⟩)
  have happ := app_plain (d := ⟨1073741824, 0, 0, 0, 0, 0⟩) (fs := fsOf []) l nameL rfl
  rw [happ] at he
  have hop3 := app_opsW ⟨1073741824, 0, 0, 0, 0, 0⟩ (fsOf []) nmL l
  have hop3 : (appO ⟨1073741824, 0, 0, 0, 0, 0⟩ (fsOf []) nmL l).2.1.ops ≤ 1 := hop3
  clear happ
  generalize appO ⟨1073741824, 0, 0, 0, 0, 0⟩ (fsOf []) nmL l = r at *
  obtain ⟨r1, d3, fs3⟩ := r
  obtain rfl : fsOf F3 = fs3 := hf3
  have H3 := Lib.hid (show DkAt w3 w.heap.size D M d3 F3 from h3)
  have OK3 := Lib.hid (show FsOk d3 (fsOf F3) from hok3)
  have HG3 := Lib.hid (show fget (fsOf F3) nmL = some ⟨[] ++ l.take q, 0⟩ from hg3)
  have HP3 : Hid (d3.ops ≤ 1) := Lib.hid hop3
  have HB3 := Lib.hid (HB2.out.trans (hc3.below H2.out HB2.out.size))
  obtain ⟨z1, hz1⟩ : ∃ z, z = (appN ⟨1073741824, 0, 0, 0, 0, 0⟩ l.length : Int) := ⟨_, rfl⟩
  obtain ⟨z2, hz2⟩ : ∃ z, z = appE ⟨1073741824, 0, 0, 0, 0, 0⟩ l.length := ⟨_, rfl⟩
  rw [← hz1, ← hz2] at he
  obtain rfl : e = .returned (.tuple #[.int .i64 z1, .int .i64 z2]) := he
  clear h3 hok3 hg3 hop3 hc3 hz1 hz2 H2 HB2 hq
  go_wp2_with (fail)
  refine (mPower H3.out OK3.out kp).mono ?_
  rintro e w4 ⟨F4, rfl, h4, hc4, hf4⟩
  have hok4 := power_ok OK3.out kp
  have hg4 : fget (fsOf F4) nmL = some (powFl kp ⟨[] ++ l.take q, 0⟩) := by rw [hf4]; show fget (powFs kp (fsOf F3)) nmL = _; rw [fget_powFs, HG3.out]; rfl
  obtain ⟨⟨cc, s4⟩, hfl⟩ : ∃ f, f = powFl kp ⟨[] ++ l.take q, 0⟩ := ⟨_, rfl⟩
  rw [← hfl] at hg4
  rw [← hf4] at hok4
  obtain ⟨d4, hd4⟩ : ∃ d4, d4 = (opPower d3 (fsOf F3) kp).2.1 := ⟨_, rfl⟩
  have HA4 : Hid (d4.armedIn = 0 ∧ d4.failIn = 0 ∧ d4.ops ≤ 1) := Lib.hid (by rw [hd4]; exact ⟨rfl, rfl, HP3.out⟩)
  rw [← hd4] at h4 hok4
  have H4 := Lib.hid h4
  have OK4 := Lib.hid hok4
  have HG4 := Lib.hid hg4
  have HB4 := Lib.hid (HB3.out.trans (hc4.below H3.out HB3.out.size))
  clear h4 hok4 hg4 hfl hd4 hc4 hf4 H3 OK3 HG3 HB3 HP3
  dsimp only [endM, opPower]
  go_wp2_with (fail)
  refine (walOpen H4.out OK4.out (by have := HA4.out.2.2; omega) nmL (by decide) nameL HB4.out.size).mono ?_
  rintro e w5 ⟨F5, h5, hf5, hc5, hm5⟩
  obtain ⟨ho5, hb5⟩ := openD_any (d := d4) HA4.out.1 HA4.out.2.1 HG4.out
  obtain ⟨hok5, hop5⟩ := openD_ok OK4.out (by have := HA4.out.2.2; omega) nmL
  rw [show bsOf (fsOf F4) nmL = cc from by unfold bsOf; rw [HG4.out]] at hm5
  rw [ho5] at hm5
  rw [← hf5] at hb5 hok5
  obtain ⟨d5, hd5⟩ : ∃ d5, d5 = (openD d4 (fsOf F4) nmL).2.1 := ⟨_, rfl⟩
  rw [← hd5] at h5 hok5 hop5
  obtain ⟨L, v, rfl, hl5, _, _⟩ := hm5
  have hst := scan_take cc
  have hgl : (cc.take (scan cc).2.1).length = (scan cc).2.1 := by rw [List.length_take]; have := scan_len cc; omega
  obtain ⟨rs, hrs⟩ : ∃ rs, rs = (scan cc).1 := ⟨_, rfl⟩
  obtain ⟨g, hg⟩ : ∃ g, g = (scan cc).2.1 := ⟨_, rfl⟩
  rw [← hrs, ← hg] at hst hl5
  rw [← hg] at hb5 hgl
  obtain ⟨X, hX⟩ : ∃ X, X = cc.take g := ⟨_, rfl⟩
  rw [← hX] at hst hb5 hgl
  have H5 := Lib.hid h5
  have OK5 := Lib.hid hok5
  have HL5 := Lib.hid hl5
  have HBF := Lib.hid hb5
  have HSC := Lib.hid hst
  have HXL := Lib.hid hgl
  have HP5 : Hid (d5.ops ≤ 3) := Lib.hid (by have := HA4.out.2.2; omega)
  have HB5 := Lib.hid (HB4.out.trans (hc5.below H4.out HB4.out.size))
  have HGB : Hid (g ≤ 1073741824) := Lib.hid (by rw [← hgl, ← hb5]; exact bsOf_len hok5 nmL)
  clear hst hb5 hgl hl5 hrs hg hX h5 hok5 hop5 hc5 hf5 hd5 ho5 H4 OK4 HG4 HB4 HA4
  go_wp2_with (fail)
  refine (dkOps H5.out).mono ?_
  rintro e w5' ⟨rfl, rfl⟩
  go_wp2_with (fail)
  refine (mReadW H5.out OK5.out.dk.lens nmL).mono ?_
  rw [HBF.out, HXL.out]
  rintro e w6 ⟨A6, c6, x6, rfl, hB6, hfr6, hb6⟩
  have HX6 := Lib.hid hB6
  have HFR6 : Hid (∀ b, A6 = some b → ¬ DFoot D M F5 b.block) := Lib.hid (fun b hb hk => by have h1 := (H5.out.foot_lt hk).2; have h2 := hfr6 b hb; omega)
  have H6 := Lib.hid (H5.out.below hb6)
  have HL6 := Lib.hid (HL5.out.below hb6)
  have HB6 := Lib.hid (HB5.out.trans (hb6.mono HB5.out.size))
  clear hB6 hfr6 hb6 H5 HL5 HB5
  go_wp2_with (fail)
  refine (walOpen H6.out OK5.out (by have := HP5.out; omega) nmL (by decide) nameL HB6.out.size).mono ?_
  rintro e w7 ⟨F7, h7, hf7, hc7, hm7⟩
  rw [openD_again d5 (by rw [HBF.out, HSC.out, HXL.out])] at h7 hf7 hm7
  rw [HBF.out, HSC.out] at hm7
  obtain ⟨L7, v7, rfl, hl7, _, _⟩ := hm7
  have H7 := Lib.hid (show DkAt w7 w.heap.size D M d5 F7 from h7)
  have HF7 : Hid (fsOf F7 = fsOf F5) := Lib.hid hf7
  have HL7 := Lib.hid hl7
  have HM7 := Lib.hid (HL6.out.dkch hc7)
  have HX7 : Hid (Bs w7 A6 g c6 X) := Lib.hid (HX6.out.ch hc7.ch (fun _ b hb => HFR6.out b hb))
  have HB7 := Lib.hid (HB6.out.trans (hc7.below H6.out HB6.out.size))
  clear h7 hf7 hc7 hl7 H6 HL6 HX6 HFR6 HB6
  go_wp2_with (fail)
  have ok7 : FsOk d5 (fsOf F7) := by rw [HF7.out]; exact OK5.out
  refine (mReadW H7.out ok7.dk.lens nmL).mono ?_
  rw [HF7.out, HBF.out, HXL.out]
  rintro e w8 ⟨A8, c8, x8, rfl, hB8, _, hb8⟩
  have HX8 := Lib.hid (HX7.out.below hb8)
  have H8 := Lib.hid (H7.out.below hb8)
  have HL8 := Lib.hid (HL7.out.below hb8)
  have HM8 := Lib.hid (HM7.out.below hb8)
  have HB8 := Lib.hid (HB7.out.trans (hb8.mono HB7.out.size))
  have hs1 := HX8.out.str (P := Try.prog) 27 5 9 Try.underlying27 Try.underlying5 Try.underlying9
  have hs2 := hB8.str (P := Try.prog) 27 5 9 Try.underlying27 Try.underlying5 Try.underlying9
  obtain ⟨S, hS⟩ : ∃ S, S = txt X := ⟨_, rfl⟩
  rw [← hS] at hs1 hs2
  have HS1 := Lib.hid hs1
  have HS2 := Lib.hid hs2
  have sq : (S.toList != S.toList) = false := by simp
  have HGB8 : g ≤ 1073741824 := HGB.out
  clear hB8 hb8 hS hs1 hs2 ok7 H7 HL7 HM7 HX7 HB7
  go_wp2_with (fail)
  refine (walLen HL8.out).mono ?_
  rintro e w9 ⟨rfl, rfl⟩
  go_wp2_with (fail)
  refine (walLen HM8.out).mono ?_
  rintro e w10 ⟨rfl, rfl⟩
  go_wp2_with (fail)
  refine (walGood HL8.out).mono ?_
  rintro e w9 ⟨rfl, rfl⟩
  go_wp2_with (fail)
  refine (walGood HM8.out).mono ?_
  rintro e w10 ⟨rfl, rfl⟩
  go_wp2_with (fail)
  refine (dkOps H8.out).mono ?_
  rintro e w9 ⟨rfl, rfl⟩
  have hs1 := HS1.out
  have hs2 := HS2.out
  go_wp2_with (fail)
  clear hs1 hs2
  refine (walGood HM8.out).mono ?_
  rintro e w10 ⟨rfl, rfl⟩
  go_wp2_with (fail)
  refine (entryScann A6 g c6 X w10 HX8.out (by omega)).mono ?_
  rw [show ScanPostn X w10 = fun e w' => ∃ v, e = .returned (.tuple #[v, .int .i64 ((scan X).2.1 : Int), .int .i64 (scan X).2.2]) ∧ Rw w10.heap.size (fun k => k < w10.heap.size) w' v (scan X).1 ∧ Below w10.heap.size w10 w' from rfl, HSC.out]
  rintro e w11 ⟨vz, rfl, hrw, hb11⟩
  obtain ⟨Az, cz, rfl⟩ := hrw.form
  have HB11 := Lib.hid (HB8.out.trans (hb11.mono HB8.out.size))
  have HM11 := Lib.hid (HM8.out.below hb11)
  clear hrw hb11
  go_wp2_with (fail)
  refine (walLen HM11.out).mono ?_
  rintro e w12 ⟨rfl, rfl⟩
  go_wp2_with (fail)
  go_ret
  exact ⟨rfl, HB11.out⟩
end Go.Proofs.Ythblbmbefhlbjaa
