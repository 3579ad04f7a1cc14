/- The document's disk: a file removed, a file made safe, walked. -/
import Derived.Test.YtolomfdommnklaaRk4
namespace Go.Proofs.Ytolomfdommnklaa
open Go.RowKit Go.MapKept

def remL (r : Rk) (A0 : Fs) (nm : ByteArray) (f : Fl) (Q0 : Fs) : Fs := if rDo r = true then A0 ++ Q0 else A0 ++ (nm, f) :: Q0
def synL (r : Rk) (A0 : Fs) (nm : ByteArray) (f : Fl) (Q0 : Fs) : Fs := if (r.fail == 1) = false ∧ rDo r = true then A0 ++ (nm, ⟨f.bs, f.bs.length⟩) :: Q0 else A0 ++ (nm, f) :: Q0
def synE (r : Rk) : Int := if (r.fail == 1) = true ∧ (r.armed == 1) = false then 5 else 0
def Rk.fall (r : Rk) : Rk := { r with fail := if 0 < r.fail then r.fail - 1 else r.fail }
section
variable {w : World} {B G : Nat} {E : Nat → Prop} {r : Rk} {L : Fs} {v : Value} {P : List Value}
set_option maxHeartbeats 8000000 in
set_option maxRecDepth 100000 in
theorem rkRem_none (h : RkAt w B G E r L v P) (nm : ByteArray) (hL : L.length ≤ 100000) (hg : fget L nm = none) :
    Calls Try.prog 48 #[pR G, .string nm] w (Ret2 w B G E r L v 6 false) := by
  have H := Lib.hid h
  have HL := Lib.hid hL
  have HI : Hid (fidx L nm = -1) := Lib.hid (by rcases fs_split L nm with ⟨_, _, hi⟩ | ⟨_, _, _, _, _, hg', _⟩; exact hi; rw [hg] at hg'; cases hg')
  clear h hL hg
  go_enter Try.func48, Try.ntmps48
  go_wp2_with (fail)
  refine (rkFind H.out nm (by have := HL.out; omega)).mono ?_
  rw [HI.out]
  rintro e w1 ⟨rfl, rfl⟩
  go_wp2_with (fail)
  refine bodyPost_ret (v := .tuple #[.int .i64 6, .bool false]) (results_two Try.results48 _ _ _) rfl ?_
  exact Ret2.same 6 false H.out (Ch.refl _ _)
set_option maxHeartbeats 8000000 in
set_option maxRecDepth 100000 in
theorem rkSync_none (h : RkAt w B G E r L v P) (nm : ByteArray) (hL : L.length ≤ 100000) (hg : fget L nm = none) :
    Calls Try.prog 49 #[pR G, .string nm] w (Ret2 w B G E r L v 6 false) := by
  have H := Lib.hid h
  have HL := Lib.hid hL
  have HI : Hid (fidx L nm = -1) := Lib.hid (by rcases fs_split L nm with ⟨_, _, hi⟩ | ⟨_, _, _, _, _, hg', _⟩; exact hi; rw [hg] at hg'; cases hg')
  clear h hL hg
  go_enter Try.func49, Try.ntmps49
  go_wp2_with (fail)
  refine (rkFind H.out nm (by have := HL.out; omega)).mono ?_
  rw [HI.out]
  rintro e w1 ⟨rfl, rfl⟩
  go_wp2_with (fail)
  refine bodyPost_ret (v := .tuple #[.int .i64 6, .bool false]) (results_two Try.results49 _ _ _) rfl ?_
  exact Ret2.same 6 false H.out (Ch.refl _ _)
set_option maxHeartbeats 16000000 in
set_option maxRecDepth 100000 in
theorem rkRem_do {A0 Q0 : Fs} {nm : ByteArray} {f : Fl} (h : RkAt w B G E r (A0 ++ (nm, f) :: Q0) v P) (ok : r.Ok) (hno : ∀ e ∈ A0, e.1 ≠ nm) (hL : (A0 ++ (nm, f) :: Q0).length ≤ 100000) (hB : B ≤ w.heap.size) (hE : ∀ k, E k → k < w.heap.size) :
    Calls Try.prog 48 #[pR G, .string nm] w (Ret2 w B G E r.begin (remL r A0 nm f Q0) v 0 (r.armed == 1)) := by
  have H := Lib.hid h
  have HL := Lib.hid hL
  have HOK := Lib.hid ok
  have HE := Lib.hid hE
  have HB := Lib.hid hB
  have HI : Hid (fidx (A0 ++ (nm, f) :: Q0) nm = (A0.length : Int)) := Lib.hid (fidx_at hno)
  obtain ⟨i, hi⟩ : ∃ i, i = A0.length := ⟨_, rfl⟩
  have HII := Lib.hid hi
  rw [← hi] at HI
  have d0 : decide ((i : Int) < 0) = false := by rw [decide_eq_false_iff_not]; omega
  have hge : ¬ ((i : Int) < 0) := by omega
  clear h hL hno hi hE hB ok
  go_enter Try.func48, Try.ntmps48
  go_wp2_with (fail)
  refine (rkFind H.out nm (by have := HL.out; omega)).mono ?_
  rw [HI.out]
  rintro e w1 ⟨rfl, rfl⟩
  go_wp2_with (fail)
  refine (rkBegin H.out HOK.out.count HOK.out.armed).mono ?_
  rintro e w1 ⟨rfl, h1, hc1⟩
  have H1 := Lib.hid h1
  have HC1 := Lib.hid hc1
  clear h1 hc1 d0 hge
  obtain ⟨gone, hgone⟩ : ∃ g, g = (r.armed == 1) := ⟨_, rfl⟩
  have HGONE := Lib.hid hgone
  have HRD : Hid (rDo r = (!gone || rOdd r)) := Lib.hid (by unfold rDo; rw [hgone])
  rw [← hgone]
  clear hgone
  have c4 : w1.cell? ⟨G, 4, none⟩ = some (.int .i64 r.keep) := H1.out.cell 4
  go_upto_region 5 with (fail)
  go_cut [24] (fun x wx => x = .bool (!gone || rOdd r) ∧ wx = w1)
  case first =>
    cases gone
    · go_wp2_with (fail)
      go_meet
      exact ⟨rfl, rfl⟩
    · go_wp2_with (fail)
      go_meet
      exact ⟨by first | rfl | (unfold rOdd; rfl) | (unfold rOdd; simp), rfl⟩
  case rest =>
    obtain ⟨rfl, hw⟩ := hcut
    obtain rfl := hw.symm
    rw [← HRD.out]
    clear c4
    obtain ⟨dd, hdd⟩ : ∃ dd, dd = rDo r := ⟨_, rfl⟩
    rw [← hdd] at HRD ⊢
    have HDD := Lib.hid hdd
    clear hdd
    cases dd
    · have HCL : Hid (remL r A0 nm f Q0 = A0 ++ (nm, f) :: Q0) := Lib.hid (by unfold remL; rw [← HDD.out]; rfl)
      go_wp2_with (fail)
      refine bodyPost_ret (v := .tuple #[.int .i64 0, .bool gone]) (results_two Try.results48 _ _ _) rfl ?_
      rw [HCL.out, ← HGONE.out]
      exact Ret2.same 0 gone H1.out (HC1.out.wide (fun k hk => .inl hk))
    · have HCL : Hid (remL r A0 nm f Q0 = A0 ++ Q0) := Lib.hid (by unfold remL; rw [← HDD.out]; rfl)
      go_wp2_with (fail)
      refine (rkTake H1.out i HII.out (by have := HL.out; omega) (Nat.le_trans HB.out HC1.out.size) (fun k hk => Nat.lt_of_lt_of_le (HE.out k hk) HC1.out.size)).mono ?_
      rintro e w2 ⟨A5, m5, c5, v2, P2, rfl, _, h2, hc2, hv2⟩
      have HX : Hid (Ret2 w B G E r.begin (A0 ++ Q0) v 0 gone (ret2 0 gone) w2) := Lib.hid ⟨v2, P2, rfl, h2, (HC1.out.wide (fun k hk => .inl hk)).trans hc2 (fun _ _ h => h), fun k hk => .inr (Nat.le_trans HC1.out.size (hv2 k hk))⟩
      clear h2 hc2 hv2
      go_wp2_with (fail)
      refine bodyPost_ret (v := .tuple #[.int .i64 0, .bool gone]) (results_two Try.results48 _ _ _) rfl ?_
      rw [HCL.out, ← HGONE.out]
      exact HX.out
set_option maxHeartbeats 16000000 in
set_option maxRecDepth 100000 in
theorem rkSync_do {A0 Q0 : Fs} {nm : ByteArray} {f : Fl} (h : RkAt w B G E r (A0 ++ (nm, f) :: Q0) v P) (ok : r.Ok) (hno : ∀ e ∈ A0, e.1 ≠ nm) (hL : (A0 ++ (nm, f) :: Q0).length ≤ 100000) :
    Calls Try.prog 49 #[pR G, .string nm] w (Ret2 w B G E r.begin.fall (synL r A0 nm f Q0) v (synE r) (r.armed == 1)) := by
  have H := Lib.hid h
  have HL := Lib.hid hL
  have HOK := Lib.hid ok
  have HI : Hid (fidx (A0 ++ (nm, f) :: Q0) nm = (A0.length : Int)) := Lib.hid (fidx_at hno)
  obtain ⟨g, n1, cv, Pa, A7, m7, c7, Pb, rfl, hn1, hnc, hcm, rfl, hpa, hB7, hdv, c0, x1, x2, fz⟩ := h.mid
  have HN1 := Lib.hid hn1
  have HPA := Lib.hid hpa
  have hin : (A0.length : Int) < (n1 : Int) := by rw [hn1]; simp only [List.length_append, List.length_cons]; omega
  have hnc' : (n1 : Int) ≤ (cv : Int) := by omega
  have hm7 : f.bs.length = m7 := hB7.len
  have HM7 := Lib.hid hm7
  obtain ⟨i, hi⟩ : ∃ i, i = A0.length := ⟨_, rfl⟩
  have HII := Lib.hid hi
  rw [← hi] at HI hin
  have hge : ¬ ((i : Int) < 0) := by omega
  have d0 : decide ((i : Int) < 0) = false := by rw [decide_eq_false_iff_not]; omega
  clear h hL hdv hB7 hpa hn1 fz hm7 hno hi ok c0 x1 x2
  go_enter Try.func49, Try.ntmps49
  go_wp2_with (fail)
  refine (rkFind H.out nm (by have := HL.out; omega)).mono ?_
  rw [HI.out]
  rintro e w1 ⟨rfl, rfl⟩
  go_wp2_with (fail)
  refine (rkBegin H.out HOK.out.count HOK.out.armed).mono ?_
  rintro e w1 ⟨rfl, h1, hc1⟩
  have H1 := Lib.hid h1
  have HC1 := Lib.hid hc1
  clear h1 hc1 d0
  obtain ⟨gone, hgone⟩ : ∃ g, g = (r.armed == 1) := ⟨_, rfl⟩
  have HGONE := Lib.hid hgone
  have HRD : Hid (rDo r = (!gone || rOdd r)) := Lib.hid (by unfold rDo; rw [hgone])
  rw [← hgone]
  clear hgone
  have c5 : w1.cell? ⟨G, 5, none⟩ = some (.int .i64 r.fail) := H1.out.cell 5
  have f5 := H1.out.frozen 5
  go_upto_if 25 with (fail)
  go_cut [] (fun wx => RkAt wx B G E r.begin.fall (A0 ++ (nm, f) :: Q0) (.slice (some ⟨g, 0, none⟩) n1 cv) (Pa ++ .slice A7 m7 c7 :: Pb) ∧ Ch (At1 G) w wx)
  case first =>
    have hw5 : IntKind.i64.wrap (r.fail - 1) = r.fail - 1 := IntWalk.i64_in _ (by have := HOK.out.fail; omega)
    by_cases h0 : 0 < r.fail
    · have d0 : decide (0 < r.fail) = true := decide_eq_true h0
      have HR1 : Hid ((w1.setCell ⟨G, 5, none⟩ (.int .i64 (r.fail - 1))).heap[G]? = some (rkObj (.slice (some ⟨g, 0, none⟩) n1 cv) r.begin.fall)) := Lib.hid (by
        have hf : r.begin.fall = { r.begin with fail := r.fail - 1 } := by
          unfold Rk.fall
          rw [if_pos (show 0 < r.begin.fail from h0)]
          rfl
        rw [hf]
        exact heap_set_row H1.out.row _)
      have HX : Hid (RkAt (w1.setCell ⟨G, 5, none⟩ (.int .i64 (r.fail - 1))) B G E r.begin.fall (A0 ++ (nm, f) :: Q0) (.slice (some ⟨g, 0, none⟩) n1 cv) (Pa ++ .slice A7 m7 c7 :: Pb) ∧ Ch (At1 G) w (w1.setCell ⟨G, 5, none⟩ (.int .i64 (r.fail - 1)))) := Lib.hid ⟨H1.out.nums ((Ch.refl _ _).set1 5 _) HR1.out, HC1.out.set1 5 _⟩
      go_wp2_with (fail)
      go_meet
      exact HX.out
    · have d0 : decide (0 < r.fail) = false := decide_eq_false h0
      have HX : Hid (RkAt w1 B G E r.begin.fall (A0 ++ (nm, f) :: Q0) (.slice (some ⟨g, 0, none⟩) n1 cv) (Pa ++ .slice A7 m7 c7 :: Pb) ∧ Ch (At1 G) w w1) := Lib.hid (by
        refine ⟨?_, HC1.out⟩
        have : r.begin.fall = r.begin := by
          unfold Rk.fall
          rw [if_neg (show ¬ 0 < r.begin.fail from h0)]
        rw [this]
        exact H1.out)
      go_wp2_with (fail)
      go_meet
      exact HX.out
  case rest =>
    obtain ⟨h3, hc3⟩ := hcut
    have H3 := Lib.hid h3
    have HC3 := Lib.hid hc3
    clear h3 hc3 c5 f5 H1 HC1
    obtain ⟨fb, hfb⟩ : ∃ g, g = (r.fail == 1) := ⟨_, rfl⟩
    have HFB := Lib.hid hfb
    rw [← hfb]
    clear hfb
    cases fb
    · have HSE : Hid (synE r = 0) := Lib.hid (by unfold synE; rw [← HFB.out]; rfl)
      have c4 : wc.cell? ⟨G, 4, none⟩ = some (.int .i64 r.keep) := H3.out.cell 4
      go_upto_region 8 with (fail)
      go_cut [46] (fun x wx => x = .bool (!gone || rOdd r) ∧ wx = wc)
      case first =>
        cases gone
        · go_wp2_with (fail)
          go_meet
          exact ⟨rfl, rfl⟩
        · go_wp2_with (fail)
          go_meet
          exact ⟨by first | rfl | (unfold rOdd; rfl) | (unfold rOdd; simp), rfl⟩
      case rest =>
        obtain ⟨rfl, hw⟩ := hcut
        obtain rfl := hw.symm
        rw [← HRD.out]
        clear c4
        obtain ⟨dd, hdd⟩ : ∃ dd, dd = rDo r := ⟨_, rfl⟩
        rw [← hdd] at HRD ⊢
        have HDD := Lib.hid hdd
        clear hdd
        cases dd
        · have HCL : Hid (synL r A0 nm f Q0 = A0 ++ (nm, f) :: Q0) := Lib.hid (by unfold synL; rw [← HDD.out]; simp)
          go_wp2_with (fail)
          refine bodyPost_ret (v := .tuple #[.int .i64 0, .bool gone]) (results_two Try.results49 _ _ _) rfl ?_
          rw [HCL.out, ← HGONE.out, HSE.out]
          exact Ret2.same 0 gone H3.out (HC3.out.wide (fun k hk => .inl hk))
        · have HCL : Hid (synL r A0 nm f Q0 = A0 ++ (nm, ⟨f.bs, m7⟩) :: Q0) := Lib.hid (by unfold synL; rw [← HDD.out, ← HFB.out, HM7.out]; simp)
          have HK2 : Hid (RkAt (wc.setCell ⟨g, i * 3 + 2, none⟩ (.int .i64 (m7 : Int))) B G E r.begin.fall (A0 ++ (nm, ⟨f.bs, m7⟩) :: Q0) (.slice (some ⟨g, 0, none⟩) n1 cv) (Pa ++ .slice A7 m7 c7 :: Pb)) := Lib.hid (by
            have := H3.out.setS HPA.out m7
            rw [← HII.out] at this
            exact this)
          have HC2 : Hid (Ch (RF G (.slice (some ⟨g, 0, none⟩) n1 cv)) w (wc.setCell ⟨g, i * 3 + 2, none⟩ (.int .i64 (m7 : Int)))) := Lib.hid ((HC3.out.wide (fun k hk => .inl hk)).trans ((Ch.refl _ wc).set1 (i * 3 + 2) _) (fun k _ hk => .inr (by rw [hk]; rfl)))
          have HCX : Hid (wc.cell? ⟨G, 0, none⟩ = some (.slice (some ⟨g, 0, none⟩) n1 cv) ∧ wc.cell? ⟨g, i * 3 + 1, none⟩ = some (.slice A7 m7 c7) ∧ wc.cell? ⟨g, i * 3 + 2, none⟩ = some (.int .i64 (f.safe : Int)) ∧ (∀ j, wc.frozen? ⟨g, j, none⟩ = false)) := Lib.hid (by
            have ho := H3.out.own
            refine ⟨H3.out.cell 0, ?_, ?_, fun j => by rw [← HN1.out] at ho; exact ho.frozenAt j⟩
            · rw [rfsC_mid HPA.out] at ho
              rw [HN1.out] at ho
              rw [ho.cellAt (i * 3 + 1) (by simp only [List.length_append, List.length_cons]; have := HII.out; omega), List.getElem?_append_right (by rw [rfsC_len HPA.out]; have := HII.out; omega), rfsC_len HPA.out, HII.out, Nat.add_sub_cancel_left]
              rfl
            · rw [rfsC_mid HPA.out] at ho
              rw [HN1.out] at ho
              rw [ho.cellAt (i * 3 + 2) (by simp only [List.length_append, List.length_cons]; have := HII.out; omega), List.getElem?_append_right (by rw [rfsC_len HPA.out]; have := HII.out; omega), rfsC_len HPA.out, HII.out, Nat.add_sub_cancel_left]
              rfl)
          obtain ⟨c0, x1, x2, fz⟩ := HCX.out
          have f2 := fz (i * 3 + 2)
          clear fz
          go_wp2_with (fail)
          go_region
          all_goals
            clear c0 x1 x2 f2
            go_wp2_with (fail)
            refine bodyPost_ret (v := .tuple #[.int .i64 0, .bool gone]) (results_two Try.results49 _ _ _) rfl ?_
            rw [HCL.out, ← HGONE.out, HSE.out]
            exact Ret2.same 0 gone (HK2.out.below (Below.drew (Below.refl _ _))) (HC2.out.trans (Ch.of_below (S := fun _ => False) (Below.drew (Below.refl _ _))) (fun _ _ h => h.elim))
    · have HCL : Hid (synL r A0 nm f Q0 = A0 ++ (nm, f) :: Q0) := Lib.hid (by unfold synL; rw [← HFB.out]; simp)
      cases gone
      · have HSE : Hid (synE r = 5) := Lib.hid (by unfold synE; rw [← HFB.out, ← HGONE.out]; rfl)
        go_wp2_with (fail)
        refine bodyPost_ret (v := .tuple #[.int .i64 5, .bool false]) (results_two Try.results49 _ _ _) rfl ?_
        rw [HCL.out, ← HGONE.out, HSE.out]
        exact Ret2.same 5 false H3.out (HC3.out.wide (fun k hk => .inl hk))
      · have HSE : Hid (synE r = 0) := Lib.hid (by unfold synE; rw [← HFB.out, ← HGONE.out]; rfl)
        go_wp2_with (fail)
        refine bodyPost_ret (v := .tuple #[.int .i64 0, .bool true]) (results_two Try.results49 _ _ _) rfl ?_
        rw [HCL.out, ← HGONE.out, HSE.out]
        exact Ret2.same 0 true H3.out (HC3.out.wide (fun k hk => .inl hk))
end
end Go.Proofs.Ytolomfdommnklaa
