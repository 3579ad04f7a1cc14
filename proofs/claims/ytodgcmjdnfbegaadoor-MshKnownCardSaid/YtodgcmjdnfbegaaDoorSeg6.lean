/- Layer 8: the answer's repetitions and components, walked. -/
import Derived.Test.YtodgcmjdnfbegaaDoorSegCounts
import Derived.RegionTactic
import Derived.BigRegion
import Derived.Deep.RegionHeld3
namespace Go.Proofs.YtodgcmjdnfbegaaDoor
open Go.RowKit

theorem refAgains (s : ByteArray) (d : Sgn) (w : World) (hs : s.size ≤ 1099511627000) : Calls Tryd.prog 68 #[.string s, d.v] w (RetSs w (cutAt d.c s.data.toList)) := by
  have HB0 := Lib.hid (boxSgn_below d w)
  go_enter Tryd.func68, Tryd.ntmps68
  go_wp2_with (fail)
  refine (refCut s d.c _ hs).mono ?_
  rintro e w2 ⟨A, c, rfl, hS, hb2⟩
  have HS := Lib.hid hS
  have HB2 := Lib.hid (HB0.out.trans (hb2.mono HB0.out.size))
  clear hb2 hS
  go_wp2_with (fail)
  go_ret
  exact ⟨A, c, rfl, HS.out, HB2.out⟩

theorem RetSs.nil {w w' : World} {T : List (List UInt8)} (hT : T = []) (h : Below w.heap.size w w') : RetSs w T (.returned (.slice none 0 0)) w' := by
  subst hT
  exact ⟨none, 0, rfl, Ss.nil _ _ _ (by simp [maxLen]), h⟩

set_option maxHeartbeats 4000000 in
set_option maxRecDepth 100000 in
theorem refParts (s : ByteArray) (i : Int) (d : Sgn) (w : World) (hs : s.size ≤ 1000000000) (hi : -9223372036854775808 ≤ i ∧ i ≤ 9223372036854775807) : Calls Tryd.prog 64 #[.string s, .int .i64 i, d.v] w (RetSs w (partsD s d i)) := by
  have HB0 := Lib.hid (boxSgn_below d w)
  have HX0 : Hid (BoxS d w.heap.size (boxSgn d w)) := Lib.hid (heap_alloc_new w _)
  have HI := Lib.hid hi
  have HS := Lib.hid hs
  clear hi hs
  go_enter Tryd.func64, Tryd.ntmps64
  go_wp2_with (fail)
  refine (refAgains s d _ (by have := HS.out; omega)).mono ?_
  rintro e w2 ⟨A, c, rfl, hS, hb2⟩
  have HT := Lib.hid hS
  have HX2 := Lib.hid (HX0.out.below hb2)
  have HB2 := Lib.hid (HB0.out.trans (hb2.mono HB0.out.size))
  obtain ⟨n, hn⟩ : ∃ n : Nat, n = (cutAt d.c s.data.toList).length := ⟨_, rfl⟩
  have HN := Lib.hid hn
  rw [← hn] at HT ⊢
  have HNL : Hid (n ≤ s.size + 1) := Lib.hid (by rw [hn]; exact cut_le d.c s)
  clear hS hb2 hn HX0 HB0
  by_cases h1 : i < 1
  · have d1 : decide (i < 1) = true := by simpa using h1
    have hp : partsD s d i = [] := by unfold partsD; rw [nthD_pos h1]
    have HP := Lib.hid hp
    clear hp
    go_wp2_with (fail)
    go_ret
    exact RetSs.nil HP.out HB2.out
  · have d1 : decide (i < 1) = false := by simpa using h1
    by_cases h2 : (n : Int) < i
    · have d2 : decide ((n : Int) < i) = true := by simpa using h2
      have hp : partsD s d i = [] := by unfold partsD; rw [nthD_none (by rw [← HN.out]; omega)]
      have HP := Lib.hid hp
      clear hp
      go_wp2_with (fail)
      go_ret
      exact RetSs.nil HP.out HB2.out
    · have d2 : decide ((n : Int) < i) = false := by simpa using h2
      obtain ⟨j, hji⟩ : ∃ j : Nat, i - 1 = (j : Int) := ⟨(i - 1).toNat, by omega⟩
      have hj : j < n := by omega
      obtain ⟨b, o, rfl, hbl, hcell⟩ := HT.out.read hj
      obtain ⟨x, hx⟩ : ∃ x, x = (cutAt d.c s.data.toList).getD j [] := ⟨_, rfl⟩
      rw [← hx] at hcell
      have hp : partsD s d i = cutAt d.b (txt x).data.toList := by
        unfold partsD nthD
        rw [if_pos (by omega), show (i - 1).toNat = j by omega, List.getElem?_eq_getElem (by rw [← HN.out]; exact hj)]
        rw [hx, List.getD_eq_getElem?_getD, List.getElem?_eq_getElem (by rw [← HN.out]; exact hj)]
        rfl
      have HXS : Hid ((txt x).size ≤ s.size) := Lib.hid (by rw [txt_size', hx]; exact cutAt_part_le d.c _ s.size (by simp) j)
      have ew : IntKind.i64.wrap (i - 1) = (j : Int) := by rw [IntKind.wrap_i64]; have := HNL.out; have := HS.out; omega
      have hjn : (j : Int) < (n : Int) := by omega
      have h0j : (0 : Int) ≤ (j : Int) := by omega
      have ew2 : wrap64 (i - 1) = (j : Int) := by rw [hji]; exact IntWalk.wrap64_in _ (by have := HNL.out; have := HS.out; omega)
      have tn : ((j : Nat) : Int).toNat = j := by simp
      have HP := Lib.hid hp
      obtain ⟨c0, c1, c2, c3, c4⟩ := HX2.out.cells
      have hgl : w.heap.size < w2.heap.size := (Array.getElem?_eq_some_iff.1 HX2.out).1
      clear hp hx hji
      go_wp2_with (fail)
      go_region_held3 (fun w' => w'.cell? ⟨b, o + j, none⟩ = some (.string (txt x)) ∧ w'.cell? ⟨w.heap.size, 1, none⟩ = some (.int .u8 (d.b.toNat : Int))) (first | exact ⟨hk1, hk2⟩ | go_keep)
        (first
        | (go_at_call 52; refine (refCut (txt x) d.b w2.drew (by have := HXS.out; have := HS.out; omega)).mono ?_
           rintro e w4 ⟨A4, c4', rfl, hS4, hb4⟩
           have HS4 := Lib.hid hS4
           have HB4 := Lib.hid ((HB2.out.drew).trans (hb4.mono (HB2.out.drew).size))
           have hk1 : w4.cell? ⟨b, o + j, none⟩ = some (.string (txt x)) := (hb4.cell (p := ⟨b, o + j, none⟩) hbl).trans hcell
           have hk2 : w4.cell? ⟨w.heap.size, 1, none⟩ = some (.int .u8 (d.b.toNat : Int)) := (hb4.cell (p := ⟨w.heap.size, 1, none⟩) hgl).trans c1
           clear hS4 hb4))
      go_wp2_with (fail)
      go_ret
      refine ⟨A4, c4', ?_, ?_, HB4.out⟩
      · rw [HP.out]; rfl
      · rw [HP.out]; exact HS4.out
end Go.Proofs.YtodgcmjdnfbegaaDoor
