/- The document's disk: bytes cut off, made safe, a file removed, walked. -/
import Derived.Test.YtolomfdommnklaaRk3
namespace Go.Proofs.Ytolomfdommnklaa
open Go.RowKit Go.MapKept

section
variable {w : World} {B G : Nat} {E : Nat → Prop} {r : Rk} {A0 Q0 : Fs} {nm : ByteArray} {f : Fl} {v : Value} {P : List Value}
theorem RkAt.mid (h : RkAt w B G E r (A0 ++ (nm, f) :: Q0) v P) : ∃ g n1 cv Pa A7 m7 c7 Pb, v = .slice (some ⟨g, 0, none⟩) n1 cv ∧ n1 = (A0 ++ (nm, f) :: Q0).length ∧ n1 ≤ cv ∧ cv ≤ 9223372036854775807 ∧ P = Pa ++ .slice A7 m7 c7 :: Pb ∧ Pa.length = A0.length ∧ Bs w A7 m7 c7 f.bs ∧ DvX (fun k => RF G v k ∨ E k) w (.slice A7 m7 c7) f.bs ∧ w.cell? ⟨G, 0, none⟩ = some v ∧ w.cell? ⟨g, A0.length * 3 + 1, none⟩ = some (.slice A7 m7 c7) ∧ w.cell? ⟨g, A0.length * 3 + 2, none⟩ = some (.int .i64 (f.safe : Int)) ∧ (∀ j, w.frozen? ⟨g, j, none⟩ = false) := by
  obtain ⟨Av, cv, rfl, hcv1, hcv2⟩ := h.form
  obtain ⟨g, rfl, _, hxx⟩ := h.at_ (by simp only [List.length_append, List.length_cons]; omega)
  obtain ⟨Pa, d, Pb, rfl, hpa⟩ := p_split h.len
  have hei : (A0 ++ (nm, f) :: Q0)[A0.length]? = some (nm, f) := by rw [List.getElem?_append_right (Nat.le_refl _), Nat.sub_self]; rfl
  have hdi : (Pa ++ d :: Pb)[A0.length]? = some d := by rw [← hpa, List.getElem?_append_right (Nat.le_refl _), Nat.sub_self]; rfl
  obtain ⟨d', hd', _, x1, x2⟩ := hxx _ _ hei
  rw [hdi] at hd'
  injection hd' with hd'
  subst hd'
  obtain ⟨A7, m7, c7, rfl, hB7, hx7⟩ := h.dat _ _ _ hei hdi
  exact ⟨g, _, cv, Pa, A7, m7, c7, Pb, rfl, rfl, hcv1, hcv2, rfl, hpa, hB7, ⟨A7, m7, c7, rfl, hB7, hx7⟩, h.cell 0, x1, x2, fun j => h.own.frozenAt j⟩
end
abbrev ret2 (e : Int) (g : Bool) : Ending := .returned (.tuple #[.int .i64 e, .bool g])
theorem results_two {fn : Func} {t u : Tmp} (h : fn.results = #[.tmp t, .tmp u]) (tmps : Array Value) (P : Program) (w : World) :
    (results fn tmps).run P w = .ok (.tuple #[tmps.getD t undef, tmps.getD u undef]) w := by
  simp [results, h]
def rOdd (r : Rk) : Bool := r.keep.tmod 2 != 0
/-- is a change made, although the power may go? -/
def rDo (r : Rk) : Bool := !(r.armed == 1) || rOdd r
def cutL (r : Rk) (A0 : Fs) (nm : ByteArray) (f : Fl) (Q0 : Fs) (n : Nat) : Fs := if rDo r = true then A0 ++ (nm, ⟨f.bs.take n, min f.safe n⟩) :: Q0 else A0 ++ (nm, f) :: Q0
/-- what an answer of an error, and whether the power went, comes to -/
def Ret2 (w : World) (B G : Nat) (E : Nat → Prop) (r' : Rk) (L' : Fs) (v : Value) (e : Int) (g : Bool) (x : Ending) (w' : World) : Prop :=
  ∃ v' P', x = ret2 e g ∧ RkAt w' B G E r' L' v' P' ∧ Ch (RF G v) w w' ∧ (∀ k, v'.ownBlock = some k → v.ownBlock = some k ∨ w.heap.size ≤ k)
theorem Ret2.same {w w' : World} {B G : Nat} {E : Nat → Prop} {r' : Rk} {L' : Fs} {v : Value} {P : List Value} (e : Int) (g : Bool) (h : RkAt w' B G E r' L' v P) (c : Ch (RF G v) w w') : Ret2 w B G E r' L' v e g (ret2 e g) w' := ⟨v, P, rfl, h, c, fun _ hk => .inl hk⟩

section
variable {w : World} {B G : Nat} {E : Nat → Prop} {r : Rk} {L : Fs} {v : Value} {P : List Value}
set_option maxHeartbeats 8000000 in
set_option maxRecDepth 100000 in
theorem rkTrunc_none (h : RkAt w B G E r L v P) (nm : ByteArray) (hL : L.length ≤ 100000) (n : Int) (hg : fget L nm = none) :
    Calls Try.prog 46 #[pR G, .string nm, .int .i64 n] w (Ret2 w B G E r L v 6 false) := by
  have H := Lib.hid h
  have HL := Lib.hid hL
  have HI : Hid (fidx L nm = -1) := Lib.hid (by rcases fs_split L nm with ⟨_, _, hi⟩ | ⟨_, _, _, _, _, hg', _⟩; exact hi; rw [hg] at hg'; cases hg')
  clear h hL hg
  go_enter Try.func46, Try.ntmps46
  go_wp2_with (fail)
  refine (rkFind H.out nm (by have := HL.out; omega)).mono ?_
  rw [HI.out]
  rintro e w1 ⟨rfl, rfl⟩
  go_wp2_with (fail)
  refine bodyPost_ret (v := .tuple #[.int .i64 6, .bool false]) (results_two Try.results46 _ _ _) rfl ?_
  exact Ret2.same 6 false H.out (Ch.refl _ _)
set_option maxHeartbeats 8000000 in
set_option maxRecDepth 100000 in
theorem rkTrunc_bad {A0 Q0 : Fs} {nm : ByteArray} {f : Fl} (h : RkAt w B G E r (A0 ++ (nm, f) :: Q0) v P) (hno : ∀ e ∈ A0, e.1 ≠ nm) (hL : (A0 ++ (nm, f) :: Q0).length ≤ 100000) (n : Int) (hn : n < 0 ∨ (f.bs.length : Int) < n) :
    Calls Try.prog 46 #[pR G, .string nm, .int .i64 n] w (Ret2 w B G E r (A0 ++ (nm, f) :: Q0) v 3 false) := by
  have H := Lib.hid h
  have HL := Lib.hid hL
  have HI : Hid (fidx (A0 ++ (nm, f) :: Q0) nm = (A0.length : Int)) := Lib.hid (fidx_at hno)
  obtain ⟨g, n1, cv, Pa, A7, m7, c7, Pb, rfl, hn1, hnc, hcm, rfl, hpa, hB7, hdv, c0, x1, x2, fz⟩ := h.mid
  have hin : (A0.length : Int) < (n1 : Int) := by rw [hn1]; simp only [List.length_append, List.length_cons]; omega
  have hnc' : (n1 : Int) ≤ (cv : Int) := by omega
  have hm7 : f.bs.length = m7 := hB7.len
  rw [hm7] at hn
  obtain ⟨i, hi⟩ : ∃ i, i = A0.length := ⟨_, rfl⟩
  rw [← hi] at HI x1 x2 hin
  have hge : ¬ ((i : Int) < 0) := by omega
  have HNN := Lib.hid hn
  clear h hL hn hdv hB7 hpa hn1 fz hm7 hno x2 hi
  go_enter Try.func46, Try.ntmps46
  go_wp2_with (fail)
  refine (rkFind H.out nm (by have := HL.out; omega)).mono ?_
  rw [HI.out]
  rintro e w1 ⟨rfl, rfl⟩
  by_cases h0 : n < 0
  · have d0 : decide (n < 0) = true := decide_eq_true h0
    clear h0
    go_wp2_with (fail)
    refine bodyPost_ret (v := .tuple #[.int .i64 3, .bool false]) (results_two Try.results46 _ _ _) rfl ?_
    exact Ret2.same 3 false H.out (Ch.refl _ _)
  · have d0 : decide (n < 0) = false := decide_eq_false h0
    have d1 : decide ((m7 : Int) < n) = true := decide_eq_true (HNN.out.resolve_left h0)
    clear h0
    go_wp2_with (fail)
    refine bodyPost_ret (v := .tuple #[.int .i64 3, .bool false]) (results_two Try.results46 _ _ _) rfl ?_
    exact Ret2.same 3 false H.out (Ch.refl _ _)
set_option maxHeartbeats 16000000 in
set_option maxRecDepth 100000 in
theorem rkTrunc_do {A0 Q0 : Fs} {nm : ByteArray} {f : Fl} (h : RkAt w B G E r (A0 ++ (nm, f) :: Q0) v P) (ok : r.Ok) (hno : ∀ e ∈ A0, e.1 ≠ nm) (hL : (A0 ++ (nm, f) :: Q0).length ≤ 100000) (hE : ∀ k, E k → k < w.heap.size) (n : Nat) (hn : n ≤ f.bs.length) :
    Calls Try.prog 46 #[pR G, .string nm, .int .i64 (n : Int)] w (Ret2 w B G E r.begin (cutL r A0 nm f Q0 n) v 0 (r.armed == 1)) := by
  have H := Lib.hid h
  have HL := Lib.hid hL
  have HOK := Lib.hid ok
  have HE := Lib.hid hE
  have HI : Hid (fidx (A0 ++ (nm, f) :: Q0) nm = (A0.length : Int)) := Lib.hid (fidx_at hno)
  obtain ⟨g, n1, cv, Pa, A7, m7, c7, Pb, rfl, hn1, hnc, hcm, rfl, hpa, hB7, hdv, c0, x1, x2, fz⟩ := h.mid
  have HN1 := Lib.hid hn1
  have HPA := Lib.hid hpa
  have HB7 := Lib.hid hB7
  have HDV := Lib.hid hdv
  have hin : (A0.length : Int) < (n1 : Int) := by rw [hn1]; simp only [List.length_append, List.length_cons]; omega
  have hnc' : (n1 : Int) ≤ (cv : Int) := by omega
  have hm7 : f.bs.length = m7 := hB7.len
  have hc7 : m7 ≤ c7 := hB7.2.1
  rw [hm7] at hn
  have HM7 := Lib.hid hm7
  have HNM := Lib.hid hn
  obtain ⟨i, hi⟩ : ∃ i, i = A0.length := ⟨_, rfl⟩
  have HII := Lib.hid hi
  rw [← hi] at HI x1 x2 hin
  have hge : ¬ ((i : Int) < 0) := by omega
  have d0 : decide ((n : Int) < 0) = false := by rw [decide_eq_false_iff_not]; omega
  have d1 : decide ((m7 : Int) < (n : Int)) = false := by rw [decide_eq_false_iff_not]; omega
  have d1' : decide (m7 < n) = false := by rw [decide_eq_false_iff_not]; omega
  have d2 : ¬ (m7 < n) := by omega
  have HC7 := Lib.hid hc7
  clear h hL hdv hB7 hpa hn1 fz hm7 hno hi hE ok
  go_enter Try.func46, Try.ntmps46
  go_wp2_with (fail)
  refine (rkFind H.out nm (by have := HL.out; omega)).mono ?_
  rw [HI.out]
  rintro e w1 ⟨rfl, rfl⟩
  go_wp2_with (fail)
  refine (rkBegin H.out HOK.out.count HOK.out.armed).mono ?_
  rintro e w1 ⟨rfl, h1, hc1⟩
  have H1 := Lib.hid h1
  have HC1 := Lib.hid hc1
  clear h1 hc1 c0 x1 x2 d0 d1 d1' d2 hge hn hc7
  obtain ⟨gone, hgone⟩ : ∃ g, g = (r.armed == 1) := ⟨_, rfl⟩
  have HGONE := Lib.hid hgone
  have HRD : Hid (rDo r = (!gone || rOdd r)) := Lib.hid (by unfold rDo; rw [hgone])
  rw [← hgone]
  clear hgone
  have c4 : w1.cell? ⟨G, 4, none⟩ = some (.int .i64 r.keep) := H1.out.cell 4
  go_upto_region 7 with (fail)
  go_cut [41] (fun x wx => x = .bool (!gone || rOdd r) ∧ wx = w1)
  case first =>
    cases gone
    · go_wp2_with (fail)
      go_meet
      exact ⟨rfl, rfl⟩
    · go_wp2_with (fail)
      go_meet
      exact ⟨by first | rfl | (unfold rOdd; rfl) | (unfold rOdd; simp), rfl⟩
  case rest =>
    obtain ⟨rfl, hw⟩ := hcut
    obtain rfl := hw.symm
    rw [← HRD.out]
    clear c4
    obtain ⟨dd, hdd⟩ : ∃ dd, dd = rDo r := ⟨_, rfl⟩
    rw [← hdd] at HRD ⊢
    have HDD := Lib.hid hdd
    clear hdd
    cases dd
    · have HCL : Hid (cutL r A0 nm f Q0 n = A0 ++ (nm, f) :: Q0) := Lib.hid (by unfold cutL; rw [← HDD.out]; rfl)
      go_wp2_with (fail)
      refine bodyPost_ret (v := .tuple #[.int .i64 0, .bool gone]) (results_two Try.results46 _ _ _) rfl ?_
      rw [HCL.out, ← HGONE.out]
      exact Ret2.same 0 gone H1.out (HC1.out.wide (fun k hk => .inl hk))
    · have HCL : Hid (cutL r A0 nm f Q0 n = A0 ++ (nm, ⟨f.bs.take n, min f.safe n⟩) :: Q0) := Lib.hid (by unfold cutL; rw [← HDD.out]; rfl)
      have HCX : Hid (w1.cell? ⟨G, 0, none⟩ = some (.slice (some ⟨g, 0, none⟩) n1 cv) ∧ w1.cell? ⟨g, i * 3 + 1, none⟩ = some (.slice A7 m7 c7) ∧ w1.cell? ⟨g, i * 3 + 2, none⟩ = some (.int .i64 (f.safe : Int)) ∧ (∀ j, w1.frozen? ⟨g, j, none⟩ = false)) := Lib.hid (by
        have ho := H1.out.own
        refine ⟨H1.out.cell 0, ?_, ?_, fun j => by rw [← HN1.out] at ho; exact ho.frozenAt j⟩
        · rw [rfsC_mid HPA.out] at ho
          rw [HN1.out] at ho
          rw [ho.cellAt (i * 3 + 1) (by simp only [List.length_append, List.length_cons]; have := HII.out; omega), List.getElem?_append_right (by rw [rfsC_len HPA.out]; have := HII.out; omega), rfsC_len HPA.out, HII.out, Nat.add_sub_cancel_left]
          rfl
        · rw [rfsC_mid HPA.out] at ho
          rw [HN1.out] at ho
          rw [ho.cellAt (i * 3 + 2) (by simp only [List.length_append, List.length_cons]; have := HII.out; omega), List.getElem?_append_right (by rw [rfsC_len HPA.out]; have := HII.out; omega), rfsC_len HPA.out, HII.out, Nat.add_sub_cancel_left]
          rfl)
      obtain ⟨c0, x1, x2, fz⟩ := HCX.out
      have f1 := fz (i * 3 + 1)
      have sl1 : ∀ W, (Instr.sliceAt 22 (.slice A7 m7 c7) none (some (.int .i64 ((n : Nat) : Int))) none).run Try.prog W = .ok (.slice A7 n c7) W := fun W => slice_fr A7 m7 c7 n (by have := HC7.out; have := HNM.out; omega) W
      have HK2 : Hid (RkAt (w1.setCell ⟨g, i * 3 + 1, none⟩ (.slice A7 n c7)) B G E r.begin (A0 ++ (nm, ⟨f.bs.take n, f.safe⟩) :: Q0) (.slice (some ⟨g, 0, none⟩) n1 cv) (Pa ++ .slice A7 n c7 :: Pb)) := Lib.hid (by
        obtain ⟨A8, m8, c8, e8, hB8, hx8⟩ := H1.out.dat A0.length (nm, f) (.slice A7 m7 c7) (by rw [List.getElem?_append_right (Nat.le_refl _), Nat.sub_self]; rfl) (by rw [List.getElem?_append_right (by have := HPA.out; omega), HPA.out, Nat.sub_self]; rfl)
        cases e8
        have := H1.out.setD HPA.out (.slice A7 n c7) (f.bs.take n) ⟨A7, n, c7, rfl, hB8.front HNM.out, fun a ha => (hx8 a ha).imp (fun h0 => by have := HNM.out; omega) id⟩
        rw [← HII.out] at this
        exact this)
      have HY2 : Hid ((w1.setCell ⟨g, i * 3 + 1, none⟩ (.slice A7 n c7)).drew.cell? ⟨g, i * 3 + 2, none⟩ = some (.int .i64 (f.safe : Int)) ∧ (w1.setCell ⟨g, i * 3 + 1, none⟩ (.slice A7 n c7)).drew.frozen? ⟨g, i * 3 + 2, none⟩ = false) := Lib.hid (by
        have ho := (HK2.out.below (Below.drew (Below.refl _ _))).own
        have hln : (A0 ++ (nm, (⟨f.bs.take n, f.safe⟩ : Fl)) :: Q0).length = n1 := by rw [HN1.out]; simp
        refine ⟨?_, by rw [hln] at ho; exact ho.frozenAt _⟩
        rw [rfsC_mid HPA.out] at ho
        rw [← hln] at ho
        rw [ho.cellAt (i * 3 + 2) (by simp only [List.length_append, List.length_cons]; have := HII.out; omega), List.getElem?_append_right (by rw [rfsC_len HPA.out]; have := HII.out; omega), rfsC_len HPA.out, HII.out, Nat.add_sub_cancel_left]
        rfl)
      have HC2 : Hid (Ch (RF G (.slice (some ⟨g, 0, none⟩) n1 cv)) w (w1.setCell ⟨g, i * 3 + 1, none⟩ (.slice A7 n c7)).drew) := Lib.hid (((HC1.out.wide (fun k hk => .inl hk)).trans ((Ch.refl _ _).set1 _ _) (fun k _ hk => .inr (by rw [hk]; rfl))).trans (Ch.of_below (S := fun _ => False) (Below.drew (Below.refl _ _))) (fun _ _ h => h.elim))
      have y2 := HY2.out.1
      have yf := HY2.out.2
      clear x2 fz
      go_wp2_with (fail)
      go_region
      all_goals
        clear c0 x1 f1 sl1
        have c0 := (HK2.out.below (Below.drew (Below.refl _ _))).cell 0
        by_cases hs : (n : Int) < (f.safe : Int)
        · have d3 : decide ((n : Int) < (f.safe : Int)) = true := decide_eq_true hs
          have HS : Hid (min f.safe n = n) := Lib.hid (by omega)
          have d4 : n < f.safe := by omega
          have d5 : decide (n < f.safe) = true := decide_eq_true d4
          clear hs
          go_wp2_with (fail)
          refine bodyPost_ret (v := .tuple #[.int .i64 0, .bool gone]) (results_two Try.results46 _ _ _) rfl ?_
          rw [HCL.out, HS.out, ← HGONE.out]
          have h5 := HK2.out.setS HPA.out n
          rw [← HII.out] at h5
          have hc5 : Ch (RF G (.slice (some ⟨g, 0, none⟩) n1 cv)) w ((w1.setCell ⟨g, i * 3 + 1, none⟩ (.slice A7 n c7)).setCell ⟨g, i * 3 + 2, none⟩ (.int .i64 (n : Int))) := ((HC1.out.wide (fun k hk => .inl hk)).trans ((Ch.refl _ w1).set1 (i * 3 + 1) (.slice A7 n c7)) (fun k _ hk => .inr (by rw [hk]; rfl))).trans ((Ch.refl _ _).set1 (i * 3 + 2) (.int .i64 (n : Int))) (fun k _ hk => .inr (by rw [hk]; rfl))
          exact Ret2.same 0 gone (h5.below (Below.drew (Below.refl _ _))) (hc5.trans (Ch.of_below (S := fun _ => False) (Below.drew (Below.refl _ _))) (fun _ _ h => h.elim))
        · have d3 : decide ((n : Int) < (f.safe : Int)) = false := decide_eq_false hs
          have HS : Hid (min f.safe n = f.safe) := Lib.hid (by omega)
          have d4 : ¬ n < f.safe := by omega
          have d5 : decide (n < f.safe) = false := decide_eq_false d4
          clear hs
          go_wp2_with (fail)
          refine bodyPost_ret (v := .tuple #[.int .i64 0, .bool gone]) (results_two Try.results46 _ _ _) rfl ?_
          rw [HCL.out, HS.out, ← HGONE.out]
          exact Ret2.same 0 gone (HK2.out.below (Below.drew (Below.refl _ _))) HC2.out
end
end Go.Proofs.Ytolomfdommnklaa
