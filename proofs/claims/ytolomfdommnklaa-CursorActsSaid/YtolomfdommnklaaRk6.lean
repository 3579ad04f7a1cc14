/- The document's disk: a file's name changed, walked. -/
import Derived.Test.YtolomfdommnklaaRk5
namespace Go.Proofs.Ytolomfdommnklaa
open Go.RowKit Go.MapKept

/-- L without what bears a name -/
def Drops (L : Fs) (nm : ByteArray) (L1 : Fs) : Prop := fget L nm = none ∧ L1 = L ∨ ∃ A f Q, L = A ++ (nm, f) :: Q ∧ (∀ e ∈ A, e.1 ≠ nm) ∧ L1 = A ++ Q
def RenTo (L : Fs) (old nm : ByteArray) (L' : Fs) : Prop := ∃ L1 A f Q, Drops L nm L1 ∧ L1 = A ++ (old, f) :: Q ∧ (∀ e ∈ A, e.1 ≠ old) ∧ PutsTo (A ++ Q) (nm, f) L'
def RenPost (r : Rk) (L : Fs) (old nm : ByteArray) (L' : Fs) : Prop := (rDo r = true ∧ old ≠ nm → RenTo L old nm L') ∧ (¬ (rDo r = true ∧ old ≠ nm) → L' = L)
theorem fget_app {A Q : Fs} {old nm : ByteArray} {f : Fl} (hne : old ≠ nm) : fget (A ++ (nm, f) :: Q) old = fget (A ++ Q) old := by
  induction A with
  | nil => simp [fget, hne]
  | cons x A ih => obtain ⟨m, g⟩ := x; simp only [List.cons_append, fget, ih]
theorem Drops.get {L L1 : Fs} {old nm : ByteArray} (h : Drops L nm L1) (hne : old ≠ nm) : fget L1 old = fget L old := by
  rcases h with ⟨_, rfl⟩ | ⟨A, f, Q, rfl, _, rfl⟩
  · rfl
  · exact (fget_app hne).symm
theorem Drops.len {L L1 : Fs} {nm : ByteArray} (h : Drops L nm L1) : L1.length ≤ L.length := by
  rcases h with ⟨_, rfl⟩ | ⟨A, f, Q, rfl, _, rfl⟩
  · omega
  · simp
section
variable {w : World} {B G : Nat} {E : Nat → Prop} {r : Rk} {L : Fs} {v : Value} {P : List Value}
set_option maxHeartbeats 8000000 in
set_option maxRecDepth 100000 in
theorem rkRen_none (h : RkAt w B G E r L v P) (old nm : ByteArray) (hL : L.length ≤ 100000) (hg : fget L old = none) :
    Calls Try.prog 50 #[pR G, .string old, .string nm] w (Ret2 w B G E r L v 6 false) := by
  have H := Lib.hid h
  have HL := Lib.hid hL
  have HI : Hid (fidx L old = -1) := Lib.hid (by rcases fs_split L old with ⟨_, _, hi⟩ | ⟨_, _, _, _, _, hg', _⟩; exact hi; rw [hg] at hg'; cases hg')
  clear h hL hg
  go_enter Try.func50, Try.ntmps50
  go_wp2_with (fail)
  refine (rkFind H.out old (by have := HL.out; omega)).mono ?_
  rw [HI.out]
  rintro e w1 ⟨rfl, rfl⟩
  go_wp2_with (fail)
  refine bodyPost_ret (v := .tuple #[.int .i64 6, .bool false]) (results_two Try.results50 _ _ _) rfl ?_
  exact Ret2.same 6 false H.out (Ch.refl _ _)
set_option maxHeartbeats 8000000 in
set_option maxRecDepth 100000 in
theorem rkRen_name (h : RkAt w B G E r L v P) (old nm : ByteArray) (hs : nm.size ≤ 140737488355328) (hL : L.length ≤ 100000) (hg : fget L old ≠ none) (hn : nameD nm = false) :
    Calls Try.prog 50 #[pR G, .string old, .string nm] w (Ret2 w B G E r L v 16 false) := by
  have H := Lib.hid h
  have HL := Lib.hid hL
  have HNM := Lib.hid hn
  have HI : Hid (∃ i : Nat, fidx L old = (i : Int)) := Lib.hid (by rcases fs_split L old with ⟨hg', _, hi⟩ | ⟨_, _, _, _, _, hg', hi⟩; exact absurd hg' hg; exact ⟨_, hi⟩)
  clear h hL hg hn
  go_enter Try.func50, Try.ntmps50
  go_wp2_with (fail)
  refine (rkFind H.out old (by have := HL.out; omega)).mono ?_
  obtain ⟨i, hi⟩ := HI.out
  rw [hi]
  clear hi
  rintro e w1 ⟨rfl, rfl⟩
  have hge : ¬ ((i : Int) < 0) := by omega
  go_wp2_with (fail)
  refine (refName nm w hs).mono ?_
  rw [HNM.out]
  rintro e w1 ⟨rfl, rfl⟩
  go_wp2_with (fail)
  refine bodyPost_ret (v := .tuple #[.int .i64 16, .bool false]) (results_two Try.results50 _ _ _) rfl ?_
  exact Ret2.same 16 false H.out (Ch.refl _ _)
set_option maxHeartbeats 16000000 in
set_option maxRecDepth 100000 in
theorem rkRen_do (h : RkAt w B G E r L v P) (ok : r.Ok) (old nm : ByteArray) (hs : nm.size ≤ 140737488355328) (hL : L.length ≤ 100000) (hg : fget L old ≠ none) (hn : nameD nm = true) (hB : B ≤ w.heap.size) (hE : ∀ k, E k → k < w.heap.size) :
    Calls Try.prog 50 #[pR G, .string old, .string nm] w (fun x w' => ∃ L', RenPost r L old nm L' ∧ Ret2 w B G E r.begin L' v 0 (r.armed == 1) x w') := by
  have H := Lib.hid h
  have HL := Lib.hid hL
  have HNM := Lib.hid hn
  have HOK := Lib.hid ok
  have HE := Lib.hid hE
  have HB := Lib.hid hB
  have HG := Lib.hid hg
  have HI : Hid (∃ i : Nat, fidx L old = (i : Int)) := Lib.hid (by rcases fs_split L old with ⟨hg', _, hi⟩ | ⟨_, _, _, _, _, hg', hi⟩; exact absurd hg' hg; exact ⟨_, hi⟩)
  clear h hL hg hn ok hE hB
  go_enter Try.func50, Try.ntmps50
  go_wp2_with (fail)
  refine (rkFind H.out old (by have := HL.out; omega)).mono ?_
  obtain ⟨i, hi⟩ := HI.out
  rw [hi]
  clear hi
  rintro e w1 ⟨rfl, rfl⟩
  have hge : ¬ ((i : Int) < 0) := by omega
  go_wp2_with (fail)
  refine (refName nm w hs).mono ?_
  rw [HNM.out]
  rintro e w1 ⟨rfl, rfl⟩
  go_wp2_with (fail)
  refine (rkBegin H.out HOK.out.count HOK.out.armed).mono ?_
  rintro e w1 ⟨rfl, h1, hc1⟩
  have H1 := Lib.hid h1
  have HC1 := Lib.hid hc1
  clear h1 hc1 hge
  obtain ⟨gone, hgone⟩ : ∃ g, g = (r.armed == 1) := ⟨_, rfl⟩
  have HRD : Hid (rDo r = (!gone || rOdd r)) := Lib.hid (by unfold rDo; rw [hgone])
  have HGONE := Lib.hid hgone
  rw [← hgone]
  clear hgone
  have c4 : w1.cell? ⟨G, 4, none⟩ = some (.int .i64 r.keep) := H1.out.cell 4
  obtain ⟨nn, hnn⟩ : ∃ b, b = (old.toList == nm.toList) := ⟨_, rfl⟩
  have HNN : Hid (nn = true ↔ old = nm) := Lib.hid (by
    rw [hnn, beq_iff_eq]
    exact ⟨fun e => ByteArray.ext (Array.toList_inj.1 (by simpa [Go.ByteArray.toList_eq] using e)), fun e => by rw [e]⟩)
  have e1 : (old.toList == nm.toList) = nn := hnn.symm
  clear hnn
  go_upto_region 6 with (fail)
  go_cut [34] (fun x wx => x = .bool ((!gone || rOdd r) && !nn) ∧ wx = w1)
  case first =>
    cases gone
    · go_wp2_with (fail)
      go_meet
      exact ⟨by first | rfl | simp, rfl⟩
    · by_cases ho : rOdd r = true
      · have ho' : (r.keep.tmod 2 != 0) = true := ho
        go_wp2_with (fail)
        go_meet
        exact ⟨by first | (rw [ho]; rfl) | (rw [ho]; simp) | simp [ho], rfl⟩
      · have ho' : (r.keep.tmod 2 != 0) = false := by
          cases hh : (r.keep.tmod 2 != 0) with
          | false => rfl
          | true => exact absurd hh ho
        have hoo : rOdd r = false := ho'
        go_wp2_with (fail)
        go_meet
        exact ⟨by first | rfl | (rw [hoo]; rfl) | simp [hoo], rfl⟩
  case rest =>
    obtain ⟨rfl, hw⟩ := hcut
    obtain rfl := hw.symm
    rw [← HRD.out]
    clear c4 e1
    obtain ⟨dd, hdd⟩ : ∃ dd, dd = (rDo r && !nn) := ⟨_, rfl⟩
    rw [← hdd]
    have HDD : Hid (dd = true ↔ (rDo r = true ∧ old ≠ nm)) := Lib.hid (by
      rw [hdd, Bool.and_eq_true, Bool.not_eq_true', ← Bool.not_eq_true, HNN.out])
    clear hdd
    cases dd
    · have HP : Hid (RenPost r L old nm L) := Lib.hid ⟨fun h => (by have := HDD.out.2 h; cases this), fun _ => rfl⟩
      go_wp2_with (fail)
      refine bodyPost_ret (v := .tuple #[.int .i64 0, .bool gone]) (results_two Try.results50 _ _ _) rfl ?_
      exact ⟨L, HP.out, by rw [← HGONE.out]; exact Ret2.same 0 gone H1.out (HC1.out.wide (fun k hk => .inl hk))⟩
    · have HNE := Lib.hid (HDD.out.1 rfl)
      go_wp2_with (fail)
      refine (rkFind H1.out nm (by have := HL.out; omega)).mono ?_
      rintro e w2 ⟨rfl, rfl⟩
      have HFS := Lib.hid (fs_split L nm)
      obtain ⟨I, hI⟩ : ∃ I, I = fidx L nm := ⟨_, rfl⟩
      rw [← hI] at HFS ⊢
      clear hI
      go_upto_if 39 with (fail)
      go_cut [] (fun wx => ∃ L1 v1 P1, Drops L nm L1 ∧ RkAt wx B G E r.begin L1 v1 P1 ∧ Ch (RF G v) w wx ∧ (∀ k, v1.ownBlock = some k → v.ownBlock = some k ∨ w.heap.size ≤ k))
      case first =>
        rcases HFS.out with ⟨hg, hno, hi⟩ | ⟨A0, f, Q0, hL1, hno, hg, hi⟩
        · have HX : Hid (∃ L1 v1 P1, Drops L nm L1 ∧ RkAt w1 B G E r.begin L1 v1 P1 ∧ Ch (RF G v) w w1 ∧ (∀ k, v1.ownBlock = some k → v.ownBlock = some k ∨ w.heap.size ≤ k)) := Lib.hid ⟨L, v, P, .inl ⟨hg, rfl⟩, H1.out, HC1.out.wide (fun k hk => .inl hk), fun k hk => .inl hk⟩
          have d1 : decide (I ≥ 0) = false := by rw [hi]; rfl
          have d2 : decide (0 ≤ I) = false := by rw [hi]; rfl
          have d3 : ¬ (0 ≤ I) := by rw [hi]; omega
          clear hg hno hi
          go_wp2_with (fail)
          go_meet
          exact HX.out
        · have HLL := Lib.hid hL1
          have HNO := Lib.hid hno
          have d1 : decide (I ≥ 0) = true := by rw [hi, decide_eq_true_iff]; omega
          have d2 : decide (0 ≤ I) = true := by rw [hi, decide_eq_true_iff]; omega
          have d3 : (0 ≤ I) := by rw [hi]; omega
          have HII := Lib.hid hi
          clear hg hno hi hL1
          go_wp2_with (fail)
          have h1 := H1.out
          rw [HLL.out] at h1
          refine Calls.mono (show Calls Try.prog 72 #[pR G, .int .i64 I] w1 _ from by rw [HII.out]; exact rkTake h1 A0.length rfl (by rw [← HLL.out]; have := HL.out; omega) (Nat.le_trans HB.out HC1.out.size) (fun k hk => Nat.lt_of_lt_of_le (HE.out k hk) HC1.out.size)) ?_
          clear h1
          rintro e w2 ⟨A5, m5, c5, v2, P2, rfl, _, h2, hc2, hv2⟩
          have HX : Hid (∃ L1 v1 P1, Drops L nm L1 ∧ RkAt w2 B G E r.begin L1 v1 P1 ∧ Ch (RF G v) w w2 ∧ (∀ k, v1.ownBlock = some k → v.ownBlock = some k ∨ w.heap.size ≤ k)) := Lib.hid ⟨A0 ++ Q0, v2, P2, .inr ⟨A0, f, Q0, HLL.out, HNO.out, rfl⟩, h2, (HC1.out.wide (fun k hk => .inl hk)).trans hc2 (fun _ _ h => h), fun k hk => .inr (Nat.le_trans HC1.out.size (hv2 k hk))⟩
          clear h2 hc2 hv2
          go_wp2_with (fail)
          go_meet
          exact HX.out
      case rest =>
        obtain ⟨L1, v1, P1, hdr, h3, hc3, hv3⟩ := hcut
        have HDR := Lib.hid hdr
        have H3 := Lib.hid h3
        have HC3 := Lib.hid hc3
        have HV3 := Lib.hid hv3
        have HL1 : Hid (L1.length ≤ 100000) := Lib.hid (Nat.le_trans hdr.len HL.out)
        have HG1 : Hid (∃ A f Q, L1 = A ++ (old, f) :: Q ∧ (∀ e ∈ A, e.1 ≠ old) ∧ fidx L1 old = (A.length : Int)) := Lib.hid (by
          rcases fs_split L1 old with ⟨hg', _, hi⟩ | ⟨A, f, Q, h1, h2, _, h4⟩
          · rw [hdr.get HNE.out.2] at hg'; exact absurd hg' HG.out
          · exact ⟨A, f, Q, h1, h2, h4⟩)
        clear hdr h3 hc3 hv3 H1 HC1
        go_wp2_with (fail)
        refine (rkFind H3.out old (by have := HL1.out; omega)).mono ?_
        obtain ⟨A0, f, Q0, hL1, hno, hfi⟩ := HG1.out
        rw [hfi]
        have HLL := Lib.hid hL1
        have HNO := Lib.hid hno
        clear hL1 hno hfi
        rintro e w2 ⟨rfl, rfl⟩
        go_wp2_with (fail)
        have h3 := H3.out
        rw [HLL.out] at h3
        refine (rkTake h3 A0.length rfl (by rw [← HLL.out]; have := HL1.out; omega) (Nat.le_trans HB.out HC3.out.size) (fun k hk => Nat.lt_of_lt_of_le (HE.out k hk) HC3.out.size)).mono ?_
        clear h3
        rintro e w2 ⟨A5, m5, c5, v2, P2, rfl, hd2, h2, hc2, hv2⟩
        have HD2 := Lib.hid hd2
        have H4 := Lib.hid h2
        have HC4 := Lib.hid (HC3.out.trans hc2 (fun k hk h => h.elim .inl (fun h => (HV3.out k h).elim .inr (fun h' => absurd hk (Nat.not_lt.2 h')))))
        have HV4 := Lib.hid (fun k hk => Nat.le_trans HC3.out.size (hv2 k hk))
        clear hd2 h2 hc2 hv2
        have HBA : Hid (Below w2.heap.size w2 (w2.alloc (.cells #[.string nm, .slice A5 m5 c5, .int .i64 (f.safe : Int)] TRF))) := Lib.hid ((Below.refl _ _).alloc (Nat.le_refl _) _)
        have HCA := Lib.hid (Ch.of_below (S := fun _ => False) HBA.out)
        go_wp2_with (fail)
        refine Calls.mono (show Calls Try.prog 70 #[pR G, .agg #[.string nm, .slice A5 m5 c5, .int .i64 (f.safe : Int)]] (w2.alloc (.cells #[.string nm, .slice A5 m5 c5, .int .i64 (f.safe : Int)] TRF)) _ from rkPut (H4.out.below HBA.out) (nm, f) A5 m5 c5 (HD2.out.ch (HCA.out.wide (fun _ h => h.elim)) (fun _ _ h => h)) (by have := HL1.out; rw [HLL.out] at this; simp at this ⊢; omega) (Nat.le_trans (Nat.le_trans HB.out HC4.out.size) HCA.out.size)) ?_
        rintro e w3 ⟨rfl, L5, v5, P5, hp5, h5, hc5, hv5⟩
        have HX : Hid (∃ L', RenPost r L old nm L' ∧ Ret2 w B G E r.begin L' v 0 gone (ret2 0 gone) w3) := Lib.hid ⟨L5, ⟨fun _ => ⟨L1, A0, f, Q0, HDR.out, HLL.out, HNO.out, hp5⟩, fun h => absurd HNE.out h⟩, v5, P5, rfl, h5, ((HC4.out.trans HCA.out (fun _ _ h => h.elim)).trans hc5 (fun k hk h => h.elim .inl (fun h => absurd hk (Nat.not_lt.2 (HV4.out k h))))), fun k hk => (hv5 k hk).elim (fun h => .inr (HV4.out k h)) (fun h => .inr (Nat.le_trans (Nat.le_trans HC4.out.size HCA.out.size) h))⟩
        clear hp5 h5 hc5 hv5
        go_wp2_with (fail)
        refine bodyPost_ret (v := .tuple #[.int .i64 0, .bool gone]) (results_two Try.results50 _ _ _) rfl ?_
        rw [← HGONE.out]
        exact HX.out
end
end Go.Proofs.Ytolomfdommnklaa
