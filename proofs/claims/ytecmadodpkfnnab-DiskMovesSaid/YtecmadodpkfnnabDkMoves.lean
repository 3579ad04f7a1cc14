/- DiskMoves, walked. -/
import Derived.Test.YtecmadodpkfnnabDk13
import Derived.Test.YtecmadodpkfnnabDkNames
import Derived.Test.YtecmadodpkfnnabDkOwn
namespace Go.Proofs.Ytecmadodpkfnnab
open Go.RowKit Go.MapKept

theorem fsOf_two {F : List Ent} {n1 n2 : ByteArray} {f1 f2 : Fl} (h : fsOf F = [(n1, f1), (n2, f2)]) : ∃ g1 v1 g2 v2, F = [⟨n1, g1, v1, f1⟩, ⟨n2, g2, v2, f2⟩] := by
  cases F with
  | nil => cases h
  | cons a r =>
    obtain ⟨nm, g, v, fl⟩ := a
    simp only [fsOf, List.map_cons, List.cons.injEq, Prod.mk.injEq] at h
    obtain ⟨⟨rfl, rfl⟩, h2⟩ := h
    obtain ⟨g2, v2, rfl⟩ := fsOf_one h2
    exact ⟨g, v, g2, v2, rfl⟩
abbrev nmB : ByteArray := ⟨#[98]⟩
theorem nameB_ : nameD nmB = true := by decide +kernel
theorem dMax_app (u o z : Int) : ({ (dMax u o).begin with used := (dMax u o).used + z } : Dk) = dMax (u + z) (o + 1) := by simp [Dk.begin, dMax]
theorem dMax_begin (u o : Int) : (dMax u o).begin = dMax u (o + 1) := by simp [Dk.begin, dMax]
theorem dMax_appN (u o : Int) (m : Nat) (_hu : 0 ≤ u) (h : u + (m : Int) ≤ 1073741824) : appN (dMax u o) m = m := by unfold appN; simp only; omega

set_option maxHeartbeats 8000000 in
set_option maxRecDepth 100000 in
theorem diskMoves_walk (A : Option Addr) (n cp : Nat) (l : List UInt8) (A' : Option Addr) (n' cp' : Nat) (l' : List UInt8) (b0 b1 : Bool) (w : World) (hB : Bs w A n cp l) (_h0 : cp ≤ 140737488351232) (hB' : Bs w A' n' cp' l') (_h1 : cp' ≤ 140737488351232) :
    Calls Try.prog 7 #[.slice A n cp, .slice A' n' cp', .agg #[.bool b0, .bool b1]] w (True_ w) := by
  have hb0 : Below w.heap.size w (w.alloc (.cells #[.bool b0, .bool b1] 54)) := (Below.refl _ _).alloc (Nat.le_refl _) _
  have HB0 : Hid (Below w.heap.size w (w.alloc (.cells #[.bool b0, .bool b1] 54)).drew) := Lib.hid hb0.drew
  have c0 : (w.alloc (.cells #[.bool b0, .bool b1] 54)).cell? ⟨w.heap.size, 0, none⟩ = some (.bool b0) := cell_of_row _ _ 0 _ _ _ (heap_alloc_new w _)
  have c1 : (w.alloc (.cells #[.bool b0, .bool b1] 54)).cell? ⟨w.heap.size, 1, none⟩ = some (.bool b1) := cell_of_row _ _ 1 _ _ _ (heap_alloc_new w _)
  have hnl := hB.nmax
  have hnl' := hB'.nmax
  have hlen := hB.len
  have hlen' := hB'.len
  have HBS := Lib.hid hB
  have HBS' := Lib.hid hB'
  clear hb0 hB hB'
  go_enter Try.func7, Try.ntmps7
  go_wp2_with (fail)
  generalize (w.alloc (.cells #[.bool b0, .bool b1] 54)) = w0 at *
  go_region
  all_goals
    clear c0 c1
    generalize w0.drew = wd at *
    go_wp2_with (fail)
    refine (dkNew 1073741824 (by decide) wd).mono ?_
    rintro e w1 ⟨D, M, rfl, h1, hb1⟩
    have H1 := Lib.hid h1
    have HB1 : Hid (Below w.heap.size w w1) := Lib.hid (HB0.out.trans (hb1.mono HB0.out.size))
    clear h1 hb1
    go_wp2_with (fail)
    refine (dkAlive w1).mono ?_
    rintro e w2 ⟨rfl, hb2⟩
    have H2 := Lib.hid (H1.out.below hb2)
    have HB2 : Hid (Below w.heap.size w w2) := Lib.hid (HB1.out.trans (hb2.mono HB1.out.size))
    have HBZ : Hid (wd.heap.size ≤ w2.heap.size) := Lib.hid (by have h3 := H1.out.lt; have h4 := H1.out.hD; have := hb2.size; omega)
    have HWZ : Hid (w.heap.size ≤ wd.heap.size) := Lib.hid HB0.out.size
    clear hb2 H1 HB1 HB0
    have HBA := Lib.hid (HBS.out.below HB2.out)
    have HBB := Lib.hid (HBS'.out.below HB2.out)
    by_cases hbig : 1000 < n ∨ 1000 < n'
    · by_cases hb1 : 1000 < n
      · have d1 : decide ((1000 : Int) < (n : Int)) = true := by simp; omega
        clear hbig hb1
        go_wp2_with (fail)
        refine (dkAlive w2).mono ?_
        rintro e w3 ⟨rfl, hb3⟩
        have HB3 : Hid (Below w.heap.size w w3) := Lib.hid (HB2.out.trans (hb3.mono HB2.out.size))
        clear hb3
        go_wp2_with (fail)
        go_ret
        exact ⟨rfl, HB3.out⟩
      · have d1 : decide ((1000 : Int) < (n : Int)) = false := by simp; omega
        have d2 : decide ((1000 : Int) < (n' : Int)) = true := by simp; omega
        clear hbig hb1
        go_wp2_with (fail)
        refine (dkAlive w2).mono ?_
        rintro e w3 ⟨rfl, hb3⟩
        have HB3 : Hid (Below w.heap.size w w3) := Lib.hid (HB2.out.trans (hb3.mono HB2.out.size))
        clear hb3
        go_wp2_with (fail)
        go_ret
        exact ⟨rfl, HB3.out⟩
    have d1 : decide ((1000 : Int) < (n : Int)) = false := by simp; omega
    have d2 : decide ((1000 : Int) < (n' : Int)) = false := by simp; omega
    have HN : Hid (n ≤ 1000 ∧ n' ≤ 1000) := Lib.hid (by omega)
    have HLL : Hid (l.length = n ∧ l'.length = n') := Lib.hid ⟨hlen, hlen'⟩
    clear hbig
    go_wp2_with (fail)
    refine (dkAppend_ok H2.out (dMax_ok 0 0 (by decide) (by decide)) lensNil nmA nameA (by decide) A n cp l HBA.out HBZ.out (show (0:Int) ≠ 1 by decide)).mono ?_
    rintro e w3 ⟨rfl, F3, h3, hc3, hf3⟩
    have hapn : appN (dMax 0 0) n = n := dMax_appN 0 0 n (by decide) (by have := HN.out; omega)
    rw [hapn] at h3 hf3 ⊢
    rw [if_neg (Nat.lt_irrefl n)]
    rw [dMax_app, Int.zero_add] at h3
    obtain ⟨g, v, rfl⟩ := fsOf_one (n := nmA) (f := ⟨l, 0⟩) (by rw [hf3, List.take_of_length_le (by have := HLL.out; omega)]; rfl)
    have H3 : Hid (DkAt w3 wd.heap.size D M (dMax (n : Int) 1) ([] ++ ⟨nmA, g, v, ⟨l, 0⟩⟩ :: [])) := Lib.hid h3
    have HB3 : Hid (Below w.heap.size w w3) := Lib.hid (HB2.out.trans ((DkCh.below H2.out hc3 HBZ.out).mono HWZ.out))
    have HZ3 : Hid (wd.heap.size ≤ w3.heap.size) := Lib.hid (Nat.le_trans HBZ.out hc3.ch.size)
    clear h3 hc3 hf3 H2 HBA hapn
    cases b0
    · have H4 : Hid (DkAt w3 wd.heap.size D M (dMax (n : Int) 1) [⟨nmA, g, v, ⟨l, 0⟩⟩]) := Lib.hid H3.out
      have HB4 := HB3
      have HZ4 := HZ3
      clear H3
      obtain ⟨o, ho⟩ : ∃ o : Int, o = 1 := ⟨_, rfl⟩
      obtain ⟨s, hs⟩ : ∃ s : Nat, s = 0 := ⟨_, rfl⟩
      rw [← ho, ← hs] at H4
      have HO : Hid (0 ≤ o ∧ o ≤ 2) := Lib.hid (by omega)
      clear ho hs
      obtain ⟨w4, rfl⟩ : ∃ w4 : World, w4 = w3 := ⟨_, rfl⟩
      have HBB4 := Lib.hid (HBS'.out.below HB4.out)
      go_wp2_with (fail)
      refine (dkAppend_ok H4.out (dMax_ok (n : Int) o (by have := HN.out; omega) (by have := HO.out; omega)) (fun e he => by obtain rfl := List.mem_singleton.1 he; have := HN.out; have := HLL.out; simp only; omega) nmB nameB_ (by decide) A' n' cp' l' HBB4.out HZ4.out (show (0:Int) ≠ 1 by decide)).mono ?_
      rintro e w5 ⟨rfl, F5, h5, hc5, hf5⟩
      have hapn : appN (dMax (n : Int) o) n' = n' := dMax_appN _ _ n' (by omega) (by have := HN.out; omega)
      rw [hapn] at h5 hf5 ⊢
      rw [if_neg (Nat.lt_irrefl n')]
      rw [dMax_app] at h5
      obtain ⟨g1, v1, g2, v2, rfl⟩ := fsOf_two (n1 := nmA) (f1 := ⟨l, s⟩) (n2 := nmB) (f2 := ⟨l', 0⟩) (by rw [hf5, List.take_of_length_le (by have := HLL.out; omega)]; rfl)
      obtain ⟨U, hU⟩ : ∃ U : Nat, (U : Int) = (n : Int) + (n' : Int) := ⟨n + n', by omega⟩
      have H5 : Hid (DkAt w5 wd.heap.size D M (dMax (U : Int) (o + 1)) [⟨nmA, g1, v1, ⟨l, s⟩⟩, ⟨nmB, g2, v2, ⟨l', 0⟩⟩]) := Lib.hid (by rw [hU]; exact h5)
      have HB5 : Hid (Below w.heap.size w w5) := Lib.hid (HB4.out.trans ((DkCh.below H4.out hc5 HZ4.out).mono HWZ.out))
      have HZ5 : Hid (wd.heap.size ≤ w5.heap.size) := Lib.hid (Nat.le_trans HZ4.out hc5.ch.size)
      have HU := Lib.hid hU
      have hUU : (n : Int) + (n' : Int) = (U : Int) := hU.symm
      have HLN : ∀ nm g v, Hid (FileLens [⟨nm, g, v, ⟨l, s⟩⟩]) := fun nm g v => Lib.hid (fun e he => by obtain rfl := List.mem_singleton.1 he; have := HN.out; have := HLL.out; simp only; omega)
      have HL2 : Hid (FileLens [⟨nmA, g1, v1, ⟨l, s⟩⟩, ⟨nmB, g2, v2, ⟨l', 0⟩⟩]) := Lib.hid (fun e he => by
        have h1 := HN.out
        have h2 := HLL.out
        rcases List.mem_cons.1 he with rfl | he
        · simp only; omega
        · obtain rfl := List.mem_singleton.1 he
          simp only; omega)
      have HOK5 := Lib.hid (dMax_ok (U : Int) (o + 1) (by have := HN.out; omega) (by have := HO.out; omega))
      clear h5 hc5 hf5 H4 hapn hU HBB4
      cases b1
      · go_wp2_with (fail)
        refine (dkSynced H5.out nmA).mono ?_
        rintro e w6 ⟨rfl, rfl⟩
        rw [show syncedOf (fsOf [⟨nmA, g1, v1, ⟨l, s⟩⟩, ⟨nmB, g2, v2, ⟨l', 0⟩⟩]) nmA = (s : Int) from rfl]
        go_wp2_with (fail)
        refine (dkRename (d1 := dMax (n : Int) (o + 1 + 1)) (P := []) (Q := [⟨nmB, g2, v2, ⟨l', 0⟩⟩]) (nm := nmA) (to := nmB) (g := g1) (v := v1) (f := ⟨l, s⟩) (P1 := []) (Q1 := []) H5.out HOK5.out (fun x hx => by cases hx) (by decide) nameB_ (by decide) rfl (fun w4 h4 => ?_) (fun e he => by obtain rfl := List.mem_singleton.1 he; exact (show nmA ≠ nmB by decide))).mono ?_
        · refine (dkDrop_some (P := [⟨nmA, g1, v1, ⟨l, s⟩⟩]) (Q := []) (nm := nmB) (g := g2) (v := v2) (f := ⟨l', 0⟩) h4 (fun x hx => by obtain rfl := List.mem_singleton.1 hx; exact (show nmA ≠ nmB by decide)) ⟨by show ((l'.length : Nat) : Int) ≤ (U : Int); have := HU.out; have := HLL.out; omega, by show (U : Int) ≤ 1073741824; have := HU.out; have := HN.out; omega⟩).mono ?_
          rintro e w7 ⟨rfl, h7, hc7⟩
          refine ⟨rfl, ?_, hc7⟩
          have e7 : ({ (dMax (U : Int) (o + 1)).begin with used := (dMax (U : Int) (o + 1)).begin.used - ((l'.length : Nat) : Int) } : Dk) = dMax (n : Int) (o + 1 + 1) := by
            have h1 : (U : Int) - ((l'.length : Nat) : Int) = (n : Int) := by have := HU.out; have := HLL.out; omega
            show (⟨1073741824, (U : Int) - ((l'.length : Nat) : Int), o + 1 + 1, 0, 0, 0⟩ : Dk) = _
            rw [h1]
          rw [← e7]
          exact h7
        · rintro e w7 h7
          rcases h7 with ⟨_, rfl, h7, hc7⟩ | ⟨ha, _⟩
          · have H7 : Hid (DkAt w7 wd.heap.size D M (dMax (n : Int) (o + 1 + 1)) [⟨nmB, g1, v1, ⟨l, s⟩⟩]) := Lib.hid h7
            have HB7 : Hid (Below w.heap.size w w7) := Lib.hid (HB5.out.trans ((DkCh.below H5.out hc7 HZ5.out).mono HWZ.out))
            clear h7 hc7 H5
            go_wp2_with (fail)
            refine (dkRead_some H7.out (HLN _ _ _).out nmB ⟨l, s⟩ rfl).mono ?_
            rintro e w8 ⟨g8, rfl, hg8, hr8, hb8⟩
            have H8 := Lib.hid (H7.out.below hb8)
            have HB8 : Hid (Below w.heap.size w w8) := Lib.hid (HB7.out.trans (hb8.mono HB7.out.size))
            have hcv := (Bs.block hr8 (n := n) HLL.out.1 (by have := HN.out; unfold maxLen; omega)).str (P := Try.prog) 26 5 9 Try.underlying26 Try.underlying5 Try.underlying9
            have hcw := (HBS.out.below HB8.out).str (P := Try.prog) 26 5 9 Try.underlying26 Try.underlying5 Try.underlying9
            rw [show (⟨l, s⟩ : Fl).bs.length = n from HLL.out.1]
            clear hg8 hr8 hb8
            go_wp2_with (fail)
            refine (dkSynced H8.out nmB).mono ?_
            rintro e w9 ⟨rfl, rfl⟩
            rw [show syncedOf (fsOf [⟨nmB, g1, v1, ⟨l, s⟩⟩]) nmB = (s : Int) from rfl]
            clear hcv hcw
            go_wp2_with (fail)
            refine (dkRead_none H8.out nmA (fun e he => by obtain rfl := List.mem_singleton.1 he; exact (show nmB ≠ nmA by decide))).mono ?_
            rintro e w10 ⟨rfl, rfl⟩
            go_wp2_with (fail)
            refine (dkNames H8.out (show (1:Nat) ≤ 1099511627776 by decide)).mono ?_
            rintro e w11 ⟨A11, c11, T11, rfl, hp11, hs11, hb11⟩
            have hl11 : (List.mergeSort T11 fun x y => decide (x ≤ y)).length = 1 := by rw [sort_len, hp11.length_eq]; rfl
            rw [hl11]
            have H11 := Lib.hid (H8.out.below hb11)
            have HB11 : Hid (Below w.heap.size w w11) := Lib.hid (HB8.out.trans (hb11.mono HB8.out.size))
            clear hp11 hs11 hb11 hl11
            go_wp2_with (fail)
            refine (dkUsed H11.out).mono ?_
            rintro e w12 ⟨rfl, rfl⟩
            go_wp2_with (fail)
            go_ret
            exact ⟨rfl, HB11.out⟩
          · exact absurd ha (show ¬ ((0:Int) = 1) by decide)
      · go_wp2_with (fail)
        refine (dkSynced H5.out nmA).mono ?_
        rintro e w6 ⟨rfl, rfl⟩
        rw [show syncedOf (fsOf [⟨nmA, g1, v1, ⟨l, s⟩⟩, ⟨nmB, g2, v2, ⟨l', 0⟩⟩]) nmA = (s : Int) from rfl]
        go_wp2_with (fail)
        refine (dkRename_same (P := []) (Q := [⟨nmB, g2, v2, ⟨l', 0⟩⟩]) (nm := nmA) (to := nmA) (g := g1) (v := v1) (f := ⟨l, s⟩) H5.out HOK5.out (fun x hx => by cases hx) (by decide) nameA rfl).mono ?_
        rintro e w7 h7
        rcases h7 with ⟨_, rfl, h7, hc7⟩ | ⟨ha, _⟩
        · have H7 : Hid (DkAt w7 wd.heap.size D M (dMax (U : Int) (o + 1)).begin [⟨nmA, g1, v1, ⟨l, s⟩⟩, ⟨nmB, g2, v2, ⟨l', 0⟩⟩]) := Lib.hid h7
          have HB7 : Hid (Below w.heap.size w w7) := Lib.hid (HB5.out.trans ((DkCh.below H5.out hc7 HZ5.out).mono HWZ.out))
          clear h7 hc7 H5
          go_wp2_with (fail)
          refine (dkRead_some H7.out HL2.out nmA ⟨l, s⟩ rfl).mono ?_
          rintro e w8 ⟨g8, rfl, hg8, hr8, hb8⟩
          have H8 := Lib.hid (H7.out.below hb8)
          have HB8 : Hid (Below w.heap.size w w8) := Lib.hid (HB7.out.trans (hb8.mono HB7.out.size))
          have hcv := (Bs.block hr8 (n := n) HLL.out.1 (by have := HN.out; unfold maxLen; omega)).str (P := Try.prog) 26 5 9 Try.underlying26 Try.underlying5 Try.underlying9
          have hcw := (HBS.out.below HB8.out).str (P := Try.prog) 26 5 9 Try.underlying26 Try.underlying5 Try.underlying9
          rw [show (⟨l, s⟩ : Fl).bs.length = n from HLL.out.1]
          clear hg8 hr8 hb8
          go_wp2_with (fail)
          refine (dkSynced H8.out nmA).mono ?_
          rintro e w9 ⟨rfl, rfl⟩
          rw [show syncedOf (fsOf [⟨nmA, g1, v1, ⟨l, s⟩⟩, ⟨nmB, g2, v2, ⟨l', 0⟩⟩]) nmA = (s : Int) from rfl]
          clear hcv hcw
          go_wp2_with (fail)
          refine (dkRead_some H8.out HL2.out nmA ⟨l, s⟩ rfl).mono ?_
          rintro e w10 ⟨g10, rfl, hg10, hr10, hb10⟩
          have H10 := Lib.hid (H8.out.below hb10)
          have HB10 : Hid (Below w.heap.size w w10) := Lib.hid (HB8.out.trans (hb10.mono HB8.out.size))
          clear hg10 hr10 hb10
          go_wp2_with (fail)
          refine (dkNames H10.out (show (2:Nat) ≤ 1099511627776 by decide)).mono ?_
          rintro e w11 ⟨A11, c11, T11, rfl, hp11, hs11, hb11⟩
          have hl11 : (List.mergeSort T11 fun x y => decide (x ≤ y)).length = 2 := by rw [sort_len, hp11.length_eq]; rfl
          rw [hl11]
          have H11 := Lib.hid (H10.out.below hb11)
          have HB11 : Hid (Below w.heap.size w w11) := Lib.hid (HB10.out.trans (hb11.mono HB10.out.size))
          clear hp11 hs11 hb11 hl11
          go_wp2_with (fail)
          have hwu : wrap64 (U : Int) = (U : Int) := IntWalk.wrap64_in _ (by have := HU.out; have := HN.out; omega)
          refine (dkUsed H11.out).mono ?_
          rintro e w12 ⟨rfl, rfl⟩
          rw [show (dMax (U : Int) (o + 1)).begin.used = (U : Int) from rfl]
          go_wp2_with (fail)
          go_ret
          exact ⟨rfl, HB11.out⟩
        · exact absurd ha (show ¬ ((0:Int) = 1) by decide)
    · go_wp2_with (fail)
      refine (dkSync_go H3.out (dMax_ok (n : Int) 1 (by have := HN.out; omega) (by decide)) (show (0:Int) ≠ 1 by decide) (fun x hx => by cases hx)).mono ?_
      rintro e w4 ⟨rfl, h4, hc4⟩
      rw [show syncErr ((dMax (n : Int) 1).failIn == 1) = 0 from rfl]
      have h4' : DkAt w4 wd.heap.size D M (dMax (n : Int) 2) [⟨nmA, g, v, ⟨l, l.length⟩⟩] := h4
      have HB4 : Hid (Below w.heap.size w w4) := Lib.hid (HB3.out.trans ((DkCh.below H3.out hc4 HZ3.out).mono HWZ.out))
      have HZ4 : Hid (wd.heap.size ≤ w4.heap.size) := Lib.hid (Nat.le_trans HZ3.out hc4.ch.size)
      obtain ⟨o, ho⟩ : ∃ o : Int, o = 2 := ⟨_, rfl⟩
      obtain ⟨s, hs⟩ : ∃ s : Nat, s = n := ⟨_, rfl⟩
      have H4 : Hid (DkAt w4 wd.heap.size D M (dMax (n : Int) o) [⟨nmA, g, v, ⟨l, s⟩⟩]) := Lib.hid (by rw [ho, hs]; rw [HLL.out.1] at h4'; exact h4')
      clear h4 h4' hc4 H3
      have HO : Hid (0 ≤ o ∧ o ≤ 2) := Lib.hid (by omega)
      clear ho hs
      have HBB4 := Lib.hid (HBS'.out.below HB4.out)
      go_wp2_with (fail)
      refine (dkAppend_ok H4.out (dMax_ok (n : Int) o (by have := HN.out; omega) (by have := HO.out; omega)) (fun e he => by obtain rfl := List.mem_singleton.1 he; have := HN.out; have := HLL.out; simp only; omega) nmB nameB_ (by decide) A' n' cp' l' HBB4.out HZ4.out (show (0:Int) ≠ 1 by decide)).mono ?_
      rintro e w5 ⟨rfl, F5, h5, hc5, hf5⟩
      have hapn : appN (dMax (n : Int) o) n' = n' := dMax_appN _ _ n' (by omega) (by have := HN.out; omega)
      rw [hapn] at h5 hf5 ⊢
      rw [if_neg (Nat.lt_irrefl n')]
      rw [dMax_app] at h5
      obtain ⟨g1, v1, g2, v2, rfl⟩ := fsOf_two (n1 := nmA) (f1 := ⟨l, s⟩) (n2 := nmB) (f2 := ⟨l', 0⟩) (by rw [hf5, List.take_of_length_le (by have := HLL.out; omega)]; rfl)
      obtain ⟨U, hU⟩ : ∃ U : Nat, (U : Int) = (n : Int) + (n' : Int) := ⟨n + n', by omega⟩
      have H5 : Hid (DkAt w5 wd.heap.size D M (dMax (U : Int) (o + 1)) [⟨nmA, g1, v1, ⟨l, s⟩⟩, ⟨nmB, g2, v2, ⟨l', 0⟩⟩]) := Lib.hid (by rw [hU]; exact h5)
      have HB5 : Hid (Below w.heap.size w w5) := Lib.hid (HB4.out.trans ((DkCh.below H4.out hc5 HZ4.out).mono HWZ.out))
      have HZ5 : Hid (wd.heap.size ≤ w5.heap.size) := Lib.hid (Nat.le_trans HZ4.out hc5.ch.size)
      have HU := Lib.hid hU
      have hUU : (n : Int) + (n' : Int) = (U : Int) := hU.symm
      have HLN : ∀ nm g v, Hid (FileLens [⟨nm, g, v, ⟨l, s⟩⟩]) := fun nm g v => Lib.hid (fun e he => by obtain rfl := List.mem_singleton.1 he; have := HN.out; have := HLL.out; simp only; omega)
      have HL2 : Hid (FileLens [⟨nmA, g1, v1, ⟨l, s⟩⟩, ⟨nmB, g2, v2, ⟨l', 0⟩⟩]) := Lib.hid (fun e he => by
        have h1 := HN.out
        have h2 := HLL.out
        rcases List.mem_cons.1 he with rfl | he
        · simp only; omega
        · obtain rfl := List.mem_singleton.1 he
          simp only; omega)
      have HOK5 := Lib.hid (dMax_ok (U : Int) (o + 1) (by have := HN.out; omega) (by have := HO.out; omega))
      clear h5 hc5 hf5 H4 hapn hU HBB4
      cases b1
      · go_wp2_with (fail)
        refine (dkSynced H5.out nmA).mono ?_
        rintro e w6 ⟨rfl, rfl⟩
        rw [show syncedOf (fsOf [⟨nmA, g1, v1, ⟨l, s⟩⟩, ⟨nmB, g2, v2, ⟨l', 0⟩⟩]) nmA = (s : Int) from rfl]
        go_wp2_with (fail)
        refine (dkRename (d1 := dMax (n : Int) (o + 1 + 1)) (P := []) (Q := [⟨nmB, g2, v2, ⟨l', 0⟩⟩]) (nm := nmA) (to := nmB) (g := g1) (v := v1) (f := ⟨l, s⟩) (P1 := []) (Q1 := []) H5.out HOK5.out (fun x hx => by cases hx) (by decide) nameB_ (by decide) rfl (fun w4 h4 => ?_) (fun e he => by obtain rfl := List.mem_singleton.1 he; exact (show nmA ≠ nmB by decide))).mono ?_
        · refine (dkDrop_some (P := [⟨nmA, g1, v1, ⟨l, s⟩⟩]) (Q := []) (nm := nmB) (g := g2) (v := v2) (f := ⟨l', 0⟩) h4 (fun x hx => by obtain rfl := List.mem_singleton.1 hx; exact (show nmA ≠ nmB by decide)) ⟨by show ((l'.length : Nat) : Int) ≤ (U : Int); have := HU.out; have := HLL.out; omega, by show (U : Int) ≤ 1073741824; have := HU.out; have := HN.out; omega⟩).mono ?_
          rintro e w7 ⟨rfl, h7, hc7⟩
          refine ⟨rfl, ?_, hc7⟩
          have e7 : ({ (dMax (U : Int) (o + 1)).begin with used := (dMax (U : Int) (o + 1)).begin.used - ((l'.length : Nat) : Int) } : Dk) = dMax (n : Int) (o + 1 + 1) := by
            have h1 : (U : Int) - ((l'.length : Nat) : Int) = (n : Int) := by have := HU.out; have := HLL.out; omega
            show (⟨1073741824, (U : Int) - ((l'.length : Nat) : Int), o + 1 + 1, 0, 0, 0⟩ : Dk) = _
            rw [h1]
          rw [← e7]
          exact h7
        · rintro e w7 h7
          rcases h7 with ⟨_, rfl, h7, hc7⟩ | ⟨ha, _⟩
          · have H7 : Hid (DkAt w7 wd.heap.size D M (dMax (n : Int) (o + 1 + 1)) [⟨nmB, g1, v1, ⟨l, s⟩⟩]) := Lib.hid h7
            have HB7 : Hid (Below w.heap.size w w7) := Lib.hid (HB5.out.trans ((DkCh.below H5.out hc7 HZ5.out).mono HWZ.out))
            clear h7 hc7 H5
            go_wp2_with (fail)
            refine (dkRead_some H7.out (HLN _ _ _).out nmB ⟨l, s⟩ rfl).mono ?_
            rintro e w8 ⟨g8, rfl, hg8, hr8, hb8⟩
            have H8 := Lib.hid (H7.out.below hb8)
            have HB8 : Hid (Below w.heap.size w w8) := Lib.hid (HB7.out.trans (hb8.mono HB7.out.size))
            have hcv := (Bs.block hr8 (n := n) HLL.out.1 (by have := HN.out; unfold maxLen; omega)).str (P := Try.prog) 26 5 9 Try.underlying26 Try.underlying5 Try.underlying9
            have hcw := (HBS.out.below HB8.out).str (P := Try.prog) 26 5 9 Try.underlying26 Try.underlying5 Try.underlying9
            rw [show (⟨l, s⟩ : Fl).bs.length = n from HLL.out.1]
            clear hg8 hr8 hb8
            go_wp2_with (fail)
            refine (dkSynced H8.out nmB).mono ?_
            rintro e w9 ⟨rfl, rfl⟩
            rw [show syncedOf (fsOf [⟨nmB, g1, v1, ⟨l, s⟩⟩]) nmB = (s : Int) from rfl]
            clear hcv hcw
            go_wp2_with (fail)
            refine (dkRead_none H8.out nmA (fun e he => by obtain rfl := List.mem_singleton.1 he; exact (show nmB ≠ nmA by decide))).mono ?_
            rintro e w10 ⟨rfl, rfl⟩
            go_wp2_with (fail)
            refine (dkNames H8.out (show (1:Nat) ≤ 1099511627776 by decide)).mono ?_
            rintro e w11 ⟨A11, c11, T11, rfl, hp11, hs11, hb11⟩
            have hl11 : (List.mergeSort T11 fun x y => decide (x ≤ y)).length = 1 := by rw [sort_len, hp11.length_eq]; rfl
            rw [hl11]
            have H11 := Lib.hid (H8.out.below hb11)
            have HB11 : Hid (Below w.heap.size w w11) := Lib.hid (HB8.out.trans (hb11.mono HB8.out.size))
            clear hp11 hs11 hb11 hl11
            go_wp2_with (fail)
            refine (dkUsed H11.out).mono ?_
            rintro e w12 ⟨rfl, rfl⟩
            go_wp2_with (fail)
            go_ret
            exact ⟨rfl, HB11.out⟩
          · exact absurd ha (show ¬ ((0:Int) = 1) by decide)
      · go_wp2_with (fail)
        refine (dkSynced H5.out nmA).mono ?_
        rintro e w6 ⟨rfl, rfl⟩
        rw [show syncedOf (fsOf [⟨nmA, g1, v1, ⟨l, s⟩⟩, ⟨nmB, g2, v2, ⟨l', 0⟩⟩]) nmA = (s : Int) from rfl]
        go_wp2_with (fail)
        refine (dkRename_same (P := []) (Q := [⟨nmB, g2, v2, ⟨l', 0⟩⟩]) (nm := nmA) (to := nmA) (g := g1) (v := v1) (f := ⟨l, s⟩) H5.out HOK5.out (fun x hx => by cases hx) (by decide) nameA rfl).mono ?_
        rintro e w7 h7
        rcases h7 with ⟨_, rfl, h7, hc7⟩ | ⟨ha, _⟩
        · have H7 : Hid (DkAt w7 wd.heap.size D M (dMax (U : Int) (o + 1)).begin [⟨nmA, g1, v1, ⟨l, s⟩⟩, ⟨nmB, g2, v2, ⟨l', 0⟩⟩]) := Lib.hid h7
          have HB7 : Hid (Below w.heap.size w w7) := Lib.hid (HB5.out.trans ((DkCh.below H5.out hc7 HZ5.out).mono HWZ.out))
          clear h7 hc7 H5
          go_wp2_with (fail)
          refine (dkRead_some H7.out HL2.out nmA ⟨l, s⟩ rfl).mono ?_
          rintro e w8 ⟨g8, rfl, hg8, hr8, hb8⟩
          have H8 := Lib.hid (H7.out.below hb8)
          have HB8 : Hid (Below w.heap.size w w8) := Lib.hid (HB7.out.trans (hb8.mono HB7.out.size))
          have hcv := (Bs.block hr8 (n := n) HLL.out.1 (by have := HN.out; unfold maxLen; omega)).str (P := Try.prog) 26 5 9 Try.underlying26 Try.underlying5 Try.underlying9
          have hcw := (HBS.out.below HB8.out).str (P := Try.prog) 26 5 9 Try.underlying26 Try.underlying5 Try.underlying9
          rw [show (⟨l, s⟩ : Fl).bs.length = n from HLL.out.1]
          clear hg8 hr8 hb8
          go_wp2_with (fail)
          refine (dkSynced H8.out nmA).mono ?_
          rintro e w9 ⟨rfl, rfl⟩
          rw [show syncedOf (fsOf [⟨nmA, g1, v1, ⟨l, s⟩⟩, ⟨nmB, g2, v2, ⟨l', 0⟩⟩]) nmA = (s : Int) from rfl]
          clear hcv hcw
          go_wp2_with (fail)
          refine (dkRead_some H8.out HL2.out nmA ⟨l, s⟩ rfl).mono ?_
          rintro e w10 ⟨g10, rfl, hg10, hr10, hb10⟩
          have H10 := Lib.hid (H8.out.below hb10)
          have HB10 : Hid (Below w.heap.size w w10) := Lib.hid (HB8.out.trans (hb10.mono HB8.out.size))
          clear hg10 hr10 hb10
          go_wp2_with (fail)
          refine (dkNames H10.out (show (2:Nat) ≤ 1099511627776 by decide)).mono ?_
          rintro e w11 ⟨A11, c11, T11, rfl, hp11, hs11, hb11⟩
          have hl11 : (List.mergeSort T11 fun x y => decide (x ≤ y)).length = 2 := by rw [sort_len, hp11.length_eq]; rfl
          rw [hl11]
          have H11 := Lib.hid (H10.out.below hb11)
          have HB11 : Hid (Below w.heap.size w w11) := Lib.hid (HB10.out.trans (hb11.mono HB10.out.size))
          clear hp11 hs11 hb11 hl11
          go_wp2_with (fail)
          have hwu : wrap64 (U : Int) = (U : Int) := IntWalk.wrap64_in _ (by have := HU.out; have := HN.out; omega)
          refine (dkUsed H11.out).mono ?_
          rintro e w12 ⟨rfl, rfl⟩
          rw [show (dMax (U : Int) (o + 1)).begin.used = (U : Int) from rfl]
          go_wp2_with (fail)
          go_ret
          exact ⟨rfl, HB11.out⟩
        · exact absurd ha (show ¬ ((0:Int) = 1) by decide)
end Go.Proofs.Ytecmadodpkfnnab
