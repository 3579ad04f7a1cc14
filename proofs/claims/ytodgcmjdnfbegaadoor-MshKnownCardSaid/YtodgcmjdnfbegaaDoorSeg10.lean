/- Layer 8: the answer's Make, Fields and Field, walked. -/
import Derived.Test.YtodgcmjdnfbegaaDoorSeg9
namespace Go.Proofs.YtodgcmjdnfbegaaDoor
open Go.RowKit

set_option maxHeartbeats 4000000 in
set_option maxRecDepth 100000 in
theorem refMake (d : Sgn) (name : ByteArray) (A : Option Addr) (n cp : Nat) (T : List (List UInt8)) (w : World) (hS : Ss w A n cp T) (hnm : name.size ≤ 1048576) (ht : Lib.lens T + T.length ≤ 1048576) : Calls Tryd.prog 33 #[d.v, .string name, .slice A n cp] w fun e w' => e = .returned (str (makeD name d.a T)) ∧ Below w.heap.size w w' := by
  have HS := Lib.hid (hS.below (boxSgn_below d w))
  have HT := Lib.hid ht
  have HNM := Lib.hid hnm
  have hmax := hS.nmax
  have HLEN := Lib.hid hS.len
  have HX0 : Hid (BoxS d w.heap.size (boxSgn d w)) := Lib.hid (heap_alloc_new w _)
  have HB0 : Hid (Below w.heap.size w (boxSgn d w)) := Lib.hid (boxSgn_below d w)
  clear hS ht hnm
  go_enter Tryd.func33, Tryd.ntmps33
  go_wp2_with (fail)
  generalize hw0 : w.alloc (.cells #[u8 d.a, u8 d.b, u8 d.c, u8 d.d, u8 d.e] 25) = w0 at *
  rw [show boxSgn d w = w0 from hw0] at HX0 HB0 HS
  clear hw0
  go_loopw [7, 8] (fun v i wr => ∃ k : Nat, k ≤ n ∧ i = .int .i64 k ∧ v = .string (txt (mkTo name d.a T k)) ∧ Below w0.heap.size w0 wr) (fun _ i _ => n - (intOf i).toNat)
  case atStart => exact ⟨0, Nat.zero_le _, rfl, rfl, Below.refl _ _⟩
  case round =>
    obtain ⟨wo, rfl⟩ : ∃ wo : World, wo = wr := ⟨_, rfl⟩
    obtain ⟨k, hk, rfl, rfl, hb⟩ := hrel
    have HB := Lib.hid hb
    have HSO := Lib.hid (HS.out.below hb)
    have HXO := Lib.hid (HX0.out.below hb)
    clear hb
    have HLN : Hid ((mkTo name d.a T k).length ≤ 2097152) := Lib.hid (by
      have h1 := mkTo_len name d.a T k (by have := HLEN.out; omega)
      have h2 := Lib.lens_take_le T k
      have h3 := HT.out
      have h4 := HNM.out
      have h5 := HLEN.out
      omega)
    by_cases hlt : k < n
    · have e1 : (k : Int) < (n : Int) := by omega
      obtain ⟨b, o, rfl, hbl, hc⟩ := HSO.out.read hlt
      obtain ⟨c0, c1, c2, c3, c4⟩ := HXO.out.cells
      obtain ⟨y, hy⟩ : ∃ y, y = T.getD k [] := ⟨_, rfl⟩
      rw [← hy] at hc
      have HMK : Hid (mkTo name d.a T (k + 1) = mkTo name d.a T k ++ sepD name d.a k ++ y) := Lib.hid (by rw [hy]; rfl)
      have HYL : Hid (y.length ≤ 1048576) := Lib.hid (by
        have h1 := lens_getD T k (by have := HLEN.out; omega)
        have h2 := Lib.lens_take_le T (k + 1)
        have h3 := HT.out
        rw [hy]; omega)
      have HLT := Lib.hid hlt
      clear hy hlt hk
      generalize mkTo name d.a T k = M at *
      by_cases hm : name = mshB ∧ k ≤ 1
      · have hs : sepD name d.a k = [] := if_pos hm
        have d1 : (name.toList == [77, 83, 72]) = true := by rw [hm.1, Go.ByteArray.toList_eq]; rfl
        have d2 : decide ((1 : Int) < (k : Int)) = false := by simp; omega
        have hk1 : k ≤ 1 := hm.2
        have HSP := Lib.hid hs
        have h1 : ¬ 9223372036854775807 < M.length + y.length := by have := HLN.out; have := HYL.out; omega
        clear hs hm
        go_wp2_with (fail)
        exact ⟨⟨k + 1, HLT.out, by go_num, by rw [HMK.out, HSP.out, List.append_nil, txt_append], HB.out⟩, by have := HLT.out; simp [intOf]; omega⟩
      · have hs : sepD name d.a k = [d.a] := if_neg hm
        have HSP := Lib.hid hs
        have h1 : ¬ 9223372036854775807 < M.length + 1 := by have := HLN.out; omega
        have h2 : ¬ 9223372036854775807 < M.length + 1 + y.length := by have := HLN.out; have := HYL.out; omega
        have hcv := (Bs.of_block (w := wo.alloc (.cells #[u8 d.a] 5)) (g := wo.heap.size) (n := 1) (c := 1) (l := [d.a]) (heap_alloc_new wo _) (by rfl) rfl (by decide) (by decide)).str (P := Tryd.prog) 22 5 9 Tryd.underlying22 Tryd.underlying5 Tryd.underlying9
        have hc2 : (wo.alloc (.cells #[u8 d.a] 5)).cell? ⟨b, o + k, none⟩ = some (str y) := (((Below.refl wo.heap.size wo).alloc (Nat.le_refl _) _).cell (p := ⟨b, o + k, none⟩) hbl).trans hc
        have HB2 : Hid (Below w0.heap.size w0 (wo.alloc (.cells #[u8 d.a] 5))) := Lib.hid (HB.out.alloc HB.out.size _)
        have h3 : ¬ 9223372036854775807 < M.length + (txt [d.a]).size := by rw [txt_size']; have := HLN.out; simp; omega
        clear hs
        by_cases hn : name = mshB
        · have hk1 : 1 < k := by
            rcases Nat.lt_or_ge 1 k with h | h
            · exact h
            · exact absurd ⟨hn, h⟩ hm
          have d1 : (name.toList == [77, 83, 72]) = true := by rw [hn, Go.ByteArray.toList_eq]; rfl
          have d2 : decide ((1 : Int) < (k : Int)) = true := by simp; omega
          clear hm hn
          go_wp2_with (fail)
          exact ⟨⟨k + 1, HLT.out, by go_num, by rw [HMK.out, HSP.out, txt_append, txt_append], HB2.out⟩, by have := HLT.out; simp [intOf]; omega⟩
        · have d1 : (name.toList == [77, 83, 72]) = false := by
            rw [Go.ByteArray.toList_eq, beq_eq_false_iff_ne]
            exact fun e => hn (ByteArray.ext (Array.toList_inj.1 e))
          clear hm hn
          go_wp2_with (fail)
          exact ⟨⟨k + 1, HLT.out, by go_num, by rw [HMK.out, HSP.out, txt_append, txt_append], HB2.out⟩, by have := HLT.out; simp [intOf]; omega⟩
    · obtain rfl : k = n := by omega
      have HMD : Hid (makeD name d.a T = mkTo name d.a T k) := Lib.hid (by unfold makeD; rw [HLEN.out])
      clear hlt hk
      go_wp2_with (fail)
      go_ret
      exact ⟨by rw [HMD.out]; rfl, HB0.out.trans (HB.out.mono HB0.out.size)⟩
end Go.Proofs.YtodgcmjdnfbegaaDoor
