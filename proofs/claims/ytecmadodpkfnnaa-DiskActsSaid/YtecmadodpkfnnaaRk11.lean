/- The document's disk and the program's tell the same, walked. -/
import Derived.Test.YtecmadodpkfnnaaRk10
import Derived.BigQuiet
namespace Go.Proofs.Ytecmadodpkfnnaa
open Go.RowKit Go.MapKept

section
variable {w : World} {B C D M G : Nat} {E : Nat → Prop} {r : Rk} {L : Fs} {v : Value} {P : List Value} {d : Dk} {fs : Fs} {F : List Ent}
theorem want_ (h : RkAt w B G E r L v P) (hs : Sim d fs r L) (ok : FsOk d fs) (kd n k : Int) (a b : ByteArray) (ha : a.size ≤ 140737488355328) (hb : b.size ≤ 140737488355328) (A : Option Addr) (m c : Nat) (l : List UInt8) (hl : DvX (RF G v) w (.slice A m c) l) (hm : m ≤ 140737488355328) (hL : L.length ≤ 100000) (hB : B ≤ w.heap.size) (hE : ∀ k, E k → k < w.heap.size) :
    Calls Try.prog 24 #[pR G, actV kd n k a b A m c] w (RA w B G E v (callD d fs kd n k a b l)) := by
  unfold callD
  by_cases h0 : kd = 0
  · subst h0; exact want0 h hs ok n k a b ha hb A m c l hl hm hL hB hE
  rw [if_neg h0]
  by_cases h1 : kd = 1
  · subst h1; exact want1 h hs ok n k a b ha hb A m c l hl hm hL hB hE
  rw [if_neg h1]
  by_cases h2 : kd = 2
  · subst h2; exact want2 h hs ok n k a b ha hb A m c l hl hm hL hB hE
  rw [if_neg h2]
  by_cases h3 : kd = 3
  · subst h3; exact want3 h hs ok n k a b ha hb A m c l hl hm hL hB hE
  rw [if_neg h3]
  by_cases h4 : kd = 4
  · subst h4; exact want4 h hs ok n k a b ha hb A m c l hl hm hL hB hE
  rw [if_neg h4]
  by_cases h5 : kd = 5
  · subst h5; exact want5 h hs ok n k a b ha hb A m c l hl hm hL hB hE
  rw [if_neg h5]
  by_cases h6 : kd = 6
  · subst h6; exact want6 h hs ok n k a b ha hb A m c l hl hm hL hB hE
  rw [if_neg h6]
  by_cases h7 : kd = 7
  · subst h7; exact want7 h hs ok n k a b ha hb A m c l hl hm hL hB hE
  rw [if_neg h7]
  by_cases h8 : kd = 8
  · subst h8; exact want8 h hs ok n k a b ha hb A m c l hl hm hL hB hE
  rw [if_neg h8]
  exact wantElse h hs ok kd n k a b ha hb A m c l hl hm hL hB hE (Lib.hid (by simp [h0, h1, h2, h3, h4, h5, h6, h7, h8]))
abbrev srtN (T : List (List UInt8)) : List (List UInt8) := List.mergeSort T fun x y => decide (x ≤ y)
theorem names_srt {T : List (List UInt8)} (hs : Srt L) (hp : L.Perm fs) (hT : T.Perm (fs.map fun e => e.1.data.toList)) : srtN T = L.map fun e => e.1.data.toList := by
  have hsrt : (srtN T).Pairwise (fun x y => x ≤ y) := by
    have := List.pairwise_mergeSort (le := fun x y : List UInt8 => decide (x ≤ y)) (fun a b c h1 h2 => by simp only [decide_eq_true_eq] at *; exact Std.le_trans h1 h2) (fun a b => by simp only [Bool.or_eq_true, decide_eq_true_eq]; exact Std.le_total) T
    exact this.imp (fun h => by simpa using h)
  have hl : (L.map fun e => e.1.data.toList).Pairwise (fun x y => x ≤ y) := by
    rw [List.pairwise_map]
    exact hs.imp (fun {a b} h => Std.le_of_lt (bl_iff.1 h))
  refine List.Perm.eq_of_pairwise (le := fun x y => x ≤ y) (fun a b _ _ h1 h2 => Std.le_antisymm h1 h2) hsrt hl ?_
  exact ((List.mergeSort_perm T _).trans hT).trans (hp.map _).symm
set_option maxHeartbeats 16000000 in
set_option maxRecDepth 100000 in
theorem dkSame (h : DkAt w B D M d F) (hr : RkAt w C G E r L v P) (hs : Sim d (fsOf F) r L) (ok : FsOk d (fsOf F)) (hL : L.length ≤ 1000) :
    Calls Try.prog 25 #[pD D, pR G] w fun e w' => e = .returned (.bool true) ∧ Below w.heap.size w w' := by
  obtain ⟨A1, c1, rfl, hc1, hc2⟩ := hr.form
  have H := Lib.hid h
  have HR := Lib.hid hr
  have HS := Lib.hid hs
  have HOK := Lib.hid ok
  have HL := Lib.hid hL
  have HFL : Hid (F.length = L.length) := Lib.hid (by rw [hs.perm.length_eq]; simp [fsOf])
  clear h hr hs ok hL
  go_enter Try.func25, Try.ntmps25
  go_wp2_with (fail)
  refine (dkNames2 H.out (by have := HFL.out; have := HL.out; omega)).mono ?_
  rintro e w6 ⟨A6, c6, T6, rfl, hp6, hs6, hb6, _⟩
  have HZ6 : Hid (srtN T6 = L.map fun e => e.1.data.toList) := Lib.hid (names_srt HS.out.srt HS.out.perm (by rw [show (fsOf F).map (fun e => e.1.data.toList) = nmsOf F from by simp [fsOf, nmsOf]]; exact hp6))
  have H6 := Lib.hid (H.out.below hb6)
  have HR6 := Lib.hid (HR.out.below hb6)
  have HB6 := Lib.hid hb6
  have HS6 : Hid (Ss w6 A6 (srtN T6).length c6 (srtN T6)) := Lib.hid hs6
  clear hp6 hs6 hb6
  rw [show (List.mergeSort T6 fun x y => decide (x ≤ y)) = srtN T6 from rfl]
  obtain ⟨q, hq⟩ : ∃ q, q = L.length := ⟨_, rfl⟩
  have HQ := Lib.hid hq
  rw [show (srtN T6).length = q from by rw [HZ6.out, hq]; simp] at HS6 ⊢
  rw [HZ6.out] at HS6
  rw [← hq] at hc1
  clear hq
  have HUG : Hid (∀ u : Later w6, Calls Try.prog 57 #[pR G] u.u fun e w' => e = .returned (.int .i64 d.used) ∧ u.u = w') := Lib.hid (fun u => by
    have h1 := rkUsed (HR6.out.below u.h) (by have := HL.out; omega) (by have := sumB_perm HS.out.perm; have h2 := HOK.out.tot; have h3 := HOK.out.ok.used; omega)
    rw [show ((sumB L : Nat) : Int) = d.used from by rw [HOK.out.tot, sumB_perm HS.out.perm]] at h1
    exact h1)
  have HUD : Hid (∀ u : Later w6, Calls Try.prog 56 #[pD D] u.u fun e w' => e = .returned (.int .i64 d.used) ∧ u.u = w') := Lib.hid (fun u => dkUsed (H6.out.below u.h))
  have HRD : Hid (∀ u : Later w6, Calls Try.prog 58 #[pD D] u.u fun e w' => e = .returned (.int .i64 d.room) ∧ u.u = w') := Lib.hid (fun u => dkRoom (H6.out.below u.h))
  have HOD : Hid (∀ u : Later w6, Calls Try.prog 59 #[pD D] u.u fun e w' => e = .returned (.int .i64 d.ops) ∧ u.u = w') := Lib.hid (fun u => dkOps (H6.out.below u.h))
  have c0 : ∀ u : Later w6, u.u.cell? ⟨G, 0, none⟩ = some (.slice A1 q c1) := fun u => by have := (HR6.out.below u.h).cell 0; rw [← HQ.out] at this; exact this
  have c1' : ∀ u : Later w6, u.u.cell? ⟨G, 1, none⟩ = some (.int .i64 d.room) := fun u => by have := (HR6.out.below u.h).cell 1; rw [← HS.out.size]; exact this
  have c2' : ∀ u : Later w6, u.u.cell? ⟨G, 2, none⟩ = some (.int .i64 d.ops) := fun u => by have := (HR6.out.below u.h).cell 2; rw [← HS.out.count]; exact this
  go_wp2_with (fail)
  try simp only [List.append]
  refine region_later (by kernel_rfl) (by kernel_rfl) ?_
  repeat (go_big_quiet_step ((first | (go_at_call 56; exact Calls.later_same (HUD.out _)) | (go_at_call 57; exact Calls.later_same (HUG.out _)) | (go_at_call 58; exact Calls.later_same (HRD.out _)) | (go_at_call 59; exact Calls.later_same (HOD.out _)))))
  refine wpQuiet_nil ?_
  intro nq
  have HNQ := Lib.hid nq.h
  go_wp2_with (fail)
  clear c0 c1' c2' HUG HUD HRD HOD
  go_loopw [50] (fun i wr => ∃ k : Nat, k ≤ q ∧ i = .int .i64 k ∧ Below w6.heap.size w6 wr) (fun i _ => q - (intOf i).toNat)
  case atStart => exact ⟨0, by omega, rfl, HNQ.out⟩
  case round =>
    obtain ⟨wo, rfl⟩ : ∃ wo : World, wo = wr := ⟨_, rfl⟩
    obtain ⟨k, hk, rfl, hb⟩ := hrel
    have HB := Lib.hid hb
    have HBT : Hid (Below w.heap.size w wo) := Lib.hid (HB6.out.trans (hb.mono HB6.out.size))
    clear hb
    by_cases hlt : k < q
    · have hkl : k < L.length := by have := HQ.out; omega
      obtain ⟨e, he⟩ : ∃ e, e = L[k] := ⟨_, rfl⟩
      have hke : L[k]? = some e := by rw [he]; exact List.getElem?_eq_getElem hkl
      obtain ⟨g, rfl, _, hx⟩ := (HR6.out.below HB.out).at_ (by omega)
      obtain ⟨dv, hpd, x0, x1, x2⟩ := hx k e hke
      obtain ⟨A7, m7, c7, rfl, hB7, _⟩ := (HR6.out.below HB.out).dat k e dv hke hpd
      obtain ⟨nm, f⟩ := e
      have hin : (nm, f) ∈ L := List.mem_of_getElem? hke
      have HFY : Hid (fget (fsOf F) nm = some f) := Lib.hid (in_fget HOK.out.names (HS.out.perm.mem_iff.1 hin))
      have hsy : syncedOf (fsOf F) nm = (f.safe : Int) := by unfold syncedOf; rw [HFY.out]
      obtain ⟨b, o, rfl, _, hc⟩ := (HS6.out.below HB.out).read hlt
      have hc' : wo.cell? ⟨b, o + k, none⟩ = some (.string nm) := by
        have h1 : txt ((L.map fun e => e.1.data.toList).getD k []) = nm := by
          rw [List.getD_eq_getElem?_getD, List.getElem?_map, hke]
          rfl
        rw [← h1]
        exact hc
      have HC' := Lib.hid hc'
      have HSY := Lib.hid hsy
      have HB7 := Lib.hid hB7
      have HLF : Hid (FileLens F) := Lib.hid HOK.out.dk.lens
      have H7 := Lib.hid (H6.out.below HB.out)
      have hw5 : IntKind.i64.wrap ((k : Int) + 1) = (k : Int) + 1 := IntWalk.i64_in _ (by have := HL.out; have := HQ.out; omega)
      have hqc : (q : Int) ≤ (c1 : Int) := by omega
      obtain ⟨s, hs⟩ : ∃ s, s = f.safe := ⟨_, rfl⟩
      rw [← hs] at HSY
      have x2' : wo.cell? ⟨g, k * 3 + 2, none⟩ = some (.int .i64 (s : Int)) := by rw [hs]; exact x2
      clear hx hke hpd hB7 hin hsy hc hc' he hkl x2 hs
      have HBA : Hid (Below wo.heap.size wo (wo.alloc (.cells #[.string nm, .slice A7 m7 c7, .int .i64 (s : Int)] TRF))) := Lib.hid ((Below.refl _ _).alloc (Nat.le_refl _) _)
      have HROW : Hid ((wo.alloc (.cells #[.string nm, .slice A7 m7 c7, .int .i64 (s : Int)] TRF)).heap[wo.heap.size]? = some (.cells #[.string nm, .slice A7 m7 c7, .int .i64 (s : Int)] TRF)) := Lib.hid (heap_alloc_new wo _)
      go_wp2_with (fail)
      clear x0 x1 x2'
      generalize wo.alloc (.cells #[.string nm, .slice A7 m7 c7, .int .i64 (s : Int)] TRF) = wa at *
      refine (dkRead_some (H7.out.below HBA.out) HLF.out nm f HFY.out).mono ?_
      rintro e w8 ⟨g8, rfl, hg8, hr8, hb8⟩
      have HBX : Hid (Below wo.heap.size wo w8) := Lib.hid (HBA.out.trans (hb8.mono HBA.out.size))
      have HBY : Hid (Below w6.heap.size w6 w8) := Lib.hid (HB.out.trans (HBX.out.mono HB.out.size))
      have H8 := Lib.hid (H7.out.below HBX.out)
      have hrow8 : w8.heap[wo.heap.size]? = some (.cells #[.string nm, .slice A7 m7 c7, .int .i64 (s : Int)] TRF) := (hb8.block _ (Array.getElem?_eq_some_iff.1 HROW.out).1).trans HROW.out
      have HSYN : Hid (∀ q : Later w8, Calls Try.prog 60 #[pD D, .string nm] q.u fun e w' => e = .returned (.int .i64 (s : Int)) ∧ q.u = w') := Lib.hid (fun q => by have h1 := dkSynced (H8.out.below q.h) nm; rw [HSY.out] at h1; exact h1)
      have cn0 : w8.cell? ⟨b, o + k, none⟩ = some (.string nm) := (HBX.out.cell (p := ⟨b, o + k, none⟩) (World.block_lt_of_cell? wo _ HC'.out)).trans HC'.out
      have r8 : ∀ q : Later w8, q.u.heap[wo.heap.size]? = some (.cells #[.string nm, .slice A7 m7 c7, .int .i64 (s : Int)] TRF) := fun q => (q.h.block _ (Array.getElem?_eq_some_iff.1 hrow8).1).trans hrow8
      have HR8 := Lib.hid r8
      have cn : ∀ q : Later w8, q.u.cell? ⟨b, o + k, none⟩ = some (.string nm) := fun q => (q.h.cell (p := ⟨b, o + k, none⟩) (World.block_lt_of_cell? w8 _ cn0)).trans cn0
      have y0 : ∀ q : Later w8, q.u.cell? ⟨wo.heap.size, 0, none⟩ = some (.string nm) := fun q => cell_of_row _ _ 0 _ _ _ (HR8.out q)
      have y1 : ∀ q : Later w8, q.u.cell? ⟨wo.heap.size, 1, none⟩ = some (.slice A7 m7 c7) := fun q => cell_of_row _ _ 1 _ _ _ (HR8.out q)
      have y2 : ∀ q : Later w8, q.u.cell? ⟨wo.heap.size, 2, none⟩ = some (.int .i64 (s : Int)) := fun q => cell_of_row _ _ 2 _ _ _ (HR8.out q)
      have hmax : f.bs.length ≤ 1073741824 := by
        obtain ⟨P, g3, v3, Q, e3, _⟩ := fget_mid HFY.out
        have := HLF.out ⟨nm, g3, v3, f⟩ (by rw [e3]; simp)
        simpa using this
      have hcv1 := fun q : Later w8 => ((Bs.block hr8 (n := f.bs.length) rfl (by unfold maxLen; omega)).below q.h).str (P := Try.prog) 35 5 9 Try.underlying35 Try.underlying5 Try.underlying9
      have hcv2 := fun q : Later w8 => ((HB7.out.below HBX.out).below q.h).str (P := Try.prog) 35 5 9 Try.underlying35 Try.underlying5 Try.underlying9
      have HBW : Hid (Below w6.heap.size w6 w8) := HBY
      clear hg8 hr8 hb8 hrow8 r8 cn0 hmax HB7 HBA
      generalize txt f.bs = X at *
      generalize f.bs.length = len at *
      go_wp2_with (fail)
      try simp only [List.append]
      refine region_later (by kernel_rfl) (by kernel_rfl) ?_
      repeat (go_big_quiet_step ((first | (go_at_call 60; exact Calls.later_same (HSYN.out _)))))
      refine wpQuiet_nil ?_
      intro nq2
      clear hcv1 hcv2 cn y0 y1 y2
      go_wp2_with (fail)
      exact ⟨⟨k + 1, by omega, by go_num, HBY.out.trans (nq2.h.mono HBY.out.size)⟩, by simp [intOf]; omega⟩
    · obtain rfl : k = q := by omega
      clear hlt
      go_wp2_with (fail)
      go_ret
      exact ⟨rfl, HBT.out⟩
end
end Go.Proofs.Ytecmadodpkfnnaa
