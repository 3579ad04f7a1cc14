/- Layer 2: the example, walked. -/
import Derived.Test.YtecmadodpkfnnaaDk5
namespace Go.Proofs.Ytecmadodpkfnnaa
open Go.RowKit Go.MapKept

theorem fsOf_nil {F : List Ent} (h : fsOf F = []) : F = [] := by cases F with | nil => rfl | cons a r => cases h
theorem fsOf_one {F : List Ent} {n : ByteArray} {f : Fl} (h : fsOf F = [(n, f)]) : ∃ g v, F = [⟨n, g, v, f⟩] := by
  cases F with
  | nil => cases h
  | cons a r =>
    obtain ⟨nm, g, v, fl⟩ := a
    simp only [fsOf, List.map_cons, List.cons.injEq, Prod.mk.injEq] at h
    obtain ⟨⟨rfl, rfl⟩, h2⟩ := h
    obtain rfl := fsOf_nil h2
    exact ⟨g, v, rfl⟩
abbrev nmA : ByteArray := ⟨#[97]⟩
theorem nameA : nameD nmA = true := by decide +kernel
theorem lensNil : FileLens [] := fun e he => by cases he
abbrev dk5 (u o : Int) : Dk := ⟨5, u, o, 0, 0, 0⟩
theorem dk5_ok (u o : Int) (hu : 0 ≤ u ∧ u ≤ 5) (ho : 0 ≤ o ∧ o ≤ 10) : (dk5 u o).Ok := ⟨show (0 : Int) ≤ 5 ∧ (5 : Int) ≤ 1073741824 by decide, show 0 ≤ u ∧ u ≤ 1073741824 by omega, show 0 ≤ o ∧ o ≤ 1152921504606846976 by omega, show (0 : Int) ≤ 0 ∧ (0 : Int) ≤ 9223372036854775807 by decide, show (0 : Int) ≤ 0 ∧ (0 : Int) ≤ 9223372036854775807 by decide, show -9223372036854775808 ≤ (0 : Int) ∧ (0 : Int) ≤ 9223372036854775807 by decide⟩

set_option maxHeartbeats 4000000 in
set_option maxRecDepth 100000 in
theorem dkAlive (w : World) : Calls Try.prog 19 #[] w (True_ w) := by
  go_enter Try.func19, Try.ntmps19
  go_wp2_with (fail)
  refine (dkNew 5 (by decide) w).mono ?_
  rintro e w1 ⟨D, M, rfl, h1, hb1⟩
  have hb1' : Below w1.heap.size w1 (w1.alloc (.cells #[.int .u8 1, .int .u8 2, .int .u8 3] 5)) := (Below.refl _ _).alloc (Nat.le_refl _) _
  have H1 := Lib.hid (h1.below hb1')
  have HB1 : Hid (Below w.heap.size w (w1.alloc (.cells #[.int .u8 1, .int .u8 2, .int .u8 3] 5))) := Lib.hid (hb1.trans (hb1'.mono hb1.size))
  have HL1 : Hid (Bs (w1.alloc (.cells #[.int .u8 1, .int .u8 2, .int .u8 3] 5)) (some ⟨w1.heap.size, 0, none⟩) 3 3 [1, 2, 3]) := Lib.hid (Bs.lit w1 [1, 2, 3] 5 _ _ rfl rfl rfl (by simp [maxLen]))
  clear h1 hb1 hb1'
  go_wp2_with (fail)
  refine (dkAppend_ok H1.out (dk5_ok 0 0 (by decide) (by decide)) lensNil nmA nameA (by decide) _ 3 3 [1, 2, 3] HL1.out HB1.out.size (by decide)).mono ?_
  rintro e w2 ⟨rfl, F2, h2, hc2, hf2⟩
  obtain ⟨g, v, rfl⟩ := fsOf_one (n := nmA) (f := ⟨[1, 2, 3], 0⟩) (by rw [hf2]; kernel_rfl)
  rw [show (appN (⟨5, 0, 0, 0, 0, 0⟩ : Dk) 3 : Nat) = 3 from by kernel_rfl]
  have h2' : DkAt w2 w.heap.size D M (dk5 3 1) ([] ++ ⟨nmA, g, v, ⟨[1, 2, 3], 0⟩⟩ :: []) := h2
  have HB2 : Hid (Below w.heap.size w w2) := Lib.hid (HB1.out.trans (DkCh.below H1.out hc2 HB1.out.size))
  have H2 := Lib.hid h2'
  clear h2 h2' hc2 hf2 H1 HL1
  go_wp2_with (fail)
  refine (dkSync_go H2.out (dk5_ok 3 1 (by decide) (by decide)) (by decide) (fun x hx => by cases hx)).mono ?_
  rintro e w3 ⟨rfl, h3, hc3⟩
  have h3' : DkAt w3 w.heap.size D M (dk5 3 2) [⟨nmA, g, v, ⟨[1, 2, 3], 3⟩⟩] := h3
  have HB3 : Hid (Below w.heap.size w w3) := Lib.hid (HB2.out.trans (DkCh.below H2.out hc3 HB2.out.size))
  have hb3' : Below w3.heap.size w3 (w3.alloc (.cells #[.int .u8 4, .int .u8 5, .int .u8 6] 5)) := (Below.refl _ _).alloc (Nat.le_refl _) _
  have H3 := Lib.hid (h3'.below hb3')
  have HB4 : Hid (Below w.heap.size w (w3.alloc (.cells #[.int .u8 4, .int .u8 5, .int .u8 6] 5))) := Lib.hid (HB3.out.trans (hb3'.mono HB3.out.size))
  have HL3 : Hid (Bs (w3.alloc (.cells #[.int .u8 4, .int .u8 5, .int .u8 6] 5)) (some ⟨w3.heap.size, 0, none⟩) 3 3 [4, 5, 6]) := Lib.hid (Bs.lit w3 [4, 5, 6] 5 _ _ rfl rfl rfl (by simp [maxLen]))
  rw [show syncErr ((dk5 3 1).failIn == 1) = 0 from rfl]
  clear h3 h3' hc3 hb3' H2
  go_wp2_with (fail)
  refine (dkAppend_ok H3.out (dk5_ok 3 2 (by decide) (by decide)) (fun e he => by obtain rfl := List.mem_singleton.1 he; exact (by decide : (3 : Nat) ≤ 1073741824)) nmA nameA (by decide) _ 3 3 [4, 5, 6] HL3.out HB4.out.size (by decide)).mono ?_
  rintro e w4 ⟨rfl, F4, h4, hc4, hf4⟩
  obtain ⟨g4, v4, rfl⟩ := fsOf_one (n := nmA) (f := ⟨[1, 2, 3, 4, 5], 3⟩) (by rw [hf4]; kernel_rfl)
  rw [show (appN (dk5 3 2) 3 : Nat) = 2 from by kernel_rfl]
  have h4' : DkAt w4 w.heap.size D M (dk5 5 3) [⟨nmA, g4, v4, ⟨[1, 2, 3, 4, 5], 3⟩⟩] := h4
  have HB5 : Hid (Below w.heap.size w w4) := Lib.hid (HB4.out.trans (DkCh.below H3.out hc4 HB4.out.size))
  have H4 := Lib.hid h4'
  clear h4 h4' hc4 hf4 H3 HL3
  go_wp2_with (fail)
  refine (dkPower H4.out ⟨dk5_ok 5 3 (by decide) (by decide), rfl, fun e he => by obtain rfl := List.mem_singleton.1 he; exact (by decide : (3 : Nat) ≤ 5)⟩ 1).mono ?_
  rintro e w5 ⟨rfl, h5, hc5⟩
  have h5' : DkAt w5 w.heap.size D M (dk5 4 3) [⟨nmA, g4, cutV v4 4, ⟨[1, 2, 3, 4], 4⟩⟩] := h5
  have HB6 : Hid (Below w.heap.size w w5) := Lib.hid (HB5.out.trans (DkCh.below H4.out hc5 HB5.out.size))
  have H5 := Lib.hid h5'
  clear h5 h5' hc5 H4
  go_wp2_with (fail)
  refine (dkRead_some H5.out (fun e he => by obtain rfl := List.mem_singleton.1 he; exact (by decide : (4 : Nat) ≤ 1073741824)) nmA ⟨[1, 2, 3, 4], 4⟩ (by kernel_rfl)).mono ?_
  rintro e w6 ⟨g6, rfl, hg6, hr6, hb6⟩
  have HB7 : Hid (Below w.heap.size w w6) := Lib.hid (HB6.out.trans (hb6.mono HB6.out.size))
  have hcv := (Bs.block hr6 (n := 4) rfl (by decide)).str (P := Try.prog) 35 5 9 Try.underlying35 Try.underlying5 Try.underlying9
  clear hr6 hb6
  go_wp2_with (fail)
  go_ret
  exact ⟨rfl, HB7.out⟩
end Go.Proofs.Ytecmadodpkfnnaa
