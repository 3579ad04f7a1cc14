/- SegmentParts, walked. -/
import Derived.Test.YtmambhopdbomfaaSeg6
namespace Go.Proofs.Ytmambhopdbomfaa
open Go.RowKit

set_option maxHeartbeats 8000000 in
set_option maxRecDepth 100000 in
theorem segmentParts_walk (f : ByteArray) (d : Sgn) (w : World) (_hs : f.size ≤ maxLen) : Calls Try.prog 5 #[.string f, d.v] w (True_ w) := by
  have HB0 : Hid (Below w.heap.size w (boxSgn d w)) := Lib.hid (boxSgn_below d w)
  have HX0 : Hid (BoxS d w.heap.size (boxSgn d w)) := Lib.hid (heap_alloc_new w _)
  go_enter Try.func5, Try.ntmps5
  by_cases hbig : 400 < f.size
  · have d1 : decide ((400 : Int) < (f.size : Int)) = true := by simp; omega
    clear hbig
    go_wp2_with (fail)
    refine (alive_ _).mono ?_
    rintro e w3 ⟨rfl, hb3⟩
    have HB3 : Hid (Below w.heap.size w w3) := Lib.hid (HB0.out.trans (hb3.mono HB0.out.size))
    clear hb3
    go_wp2_with (fail)
    go_ret
    exact ⟨rfl, HB3.out⟩
  have d1 : decide ((400 : Int) < (f.size : Int)) = false := by simp; omega
  have HF : Hid (f.size ≤ 400) := Lib.hid (by omega)
  obtain ⟨c0, c1, c2, c3, c4⟩ := HX0.out.cells
  clear hbig
  go_wp2_with (fail)
  clear c0 c1 c2 c3 c4
  refine (refAgains f d _ (by have := HF.out; omega)).mono ?_
  rintro e w2 ⟨A, c, rfl, _, hb2⟩
  have HX2 := Lib.hid (HX0.out.below hb2)
  have HB2 := Lib.hid (HB0.out.trans (hb2.mono HB0.out.size))
  obtain ⟨N, hN⟩ : ∃ n : Nat, n = (cutAt d.c f.data.toList).length := ⟨_, rfl⟩
  have HN := Lib.hid hN
  rw [← hN]
  have HNL : Hid (N ≤ 401) := Lib.hid (by rw [hN]; have := cut_le d.c f; have := HF.out; omega)
  clear hb2 hN HX0 HB0
  go_wp2_with (fail)
  refine (alive_ _).mono ?_
  rintro e w3 ⟨rfl, hb3⟩
  have HX3 := Lib.hid (HX2.out.below hb3)
  have HB3 := Lib.hid (HB2.out.trans (hb3.mono HB2.out.size))
  clear hb3 HX2 HB2
  obtain ⟨c0, c1, c2, c3, c4⟩ := HX3.out.cells
  go_wp2_with (fail)
  refine (agains_ f d _ (by have := HF.out; omega)).mono ?_
  rintro e w4 ⟨rfl, hb4⟩
  rw [← HN.out]
  have HX4 := Lib.hid (HX3.out.below hb4)
  have HB4 := Lib.hid (HB3.out.trans (hb4.mono HB3.out.size))
  clear hb4 HX3 HB3 c0 c1 c2 c3 c4
  obtain ⟨N1, hN1⟩ : ∃ N1 : Nat, (N : Int) + 1 = (N1 : Int) := ⟨N + 1, by omega⟩
  have HN1 : Hid (N1 = N + 1 ∧ N1 ≤ 402) := Lib.hid (by have := HNL.out; omega)
  have eN2 : IntKind.i64.wrap (N1 : Int) = (N1 : Int) := by rw [IntKind.wrap_i64]; have := HN1.out; omega
  go_wp2_with (fail)
  go_loopw [6] (fun t wr => ∃ q : Nat, q ≤ N1 + 2 ∧ t = .int .i64 ((q : Int) - 1) ∧ BoxS d w.heap.size wr ∧ Below w.heap.size w wr) (fun t _ => N1 + 2 - ((intOf t) + 1).toNat)
  case atStart => exact ⟨0, by omega, by simp, HX4.out, HB4.out⟩
  case round =>
    obtain ⟨q, hq, rfl, hX, hB⟩ := hrel
    have HX := Lib.hid hX
    have HB := Lib.hid hB
    clear hX hB HX4 HB4
    obtain ⟨iv, hiv⟩ : ∃ iv : Int, iv = (q : Int) - 1 := ⟨_, rfl⟩
    have HIV := Lib.hid (And.intro hq hiv)
    rw [← hiv]
    clear hiv hq
    by_cases hle : iv ≤ (N1 : Int)
    · have dq : decide (iv ≤ (N1 : Int)) = true := by simpa using hle
      have HLE := Lib.hid hle
      have ewi : IntKind.i64.wrap (iv + 1) = ((q + 1 : Nat) : Int) - 1 := by rw [IntKind.wrap_i64]; have := HIV.out; have := HN1.out; omega
      obtain ⟨c0, c1, c2, c3, c4⟩ := HX.out.cells
      go_wp2_with (fail)
      refine (refParts f iv d _ (by have := HF.out; omega) (by have h1 := HIV.out; have h2 := HN1.out; omega)).mono ?_
      rintro e w5 ⟨A5, c5, rfl, hS5, hb5⟩
      have HX5 := Lib.hid (HX.out.below hb5)
      have HB5 := Lib.hid (HB.out.trans (hb5.mono HB.out.size))
      have HS5 := Lib.hid hS5
      obtain ⟨T, hT⟩ : ∃ T, T = partsD f d iv := ⟨_, rfl⟩
      have HT := Lib.hid hT
      have HTL : Hid (T.length ≤ 401) := Lib.hid (by
        rw [hT]
        unfold partsD
        split
        · simp
        · rename_i x hx
          have h1 := told_size hx
          have h2 := cutAt_length d.b x
          have h3 := List.count_le_length (a := d.b) (l := x)
          have h4 := HF.out
          omega)
      rw [← hT] at HS5 ⊢
      obtain ⟨M, hM⟩ : ∃ M, M = T.length := ⟨_, rfl⟩
      have HM := Lib.hid hM
      rw [← hM] at HS5 ⊢
      clear hb5 hS5 hT hM c0 c1 c2 c3 c4 HX HB
      obtain ⟨c0, c1, c2, c3, c4⟩ := HX5.out.cells
      go_wp2_with (fail)
      refine (parts_ f iv d _ (by have := HF.out; omega)).mono ?_
      rintro e w6 ⟨rfl, hb6⟩
      rw [← HT.out, ← HM.out]
      have HX6 := Lib.hid (HX5.out.below hb6)
      have HB6 := Lib.hid (HB5.out.trans (hb6.mono HB5.out.size))
      have HS6 := Lib.hid (HS5.out.below hb6)
      clear hb6 c0 c1 c2 c3 c4 HX5 HB5 HS5
      obtain ⟨M1, hM1⟩ : ∃ M1 : Nat, (M : Int) + 1 = (M1 : Int) := ⟨M + 1, by omega⟩
      have HM1 : Hid (M1 = M + 1 ∧ M1 ≤ 402) := Lib.hid (by have := HTL.out; have := HM.out; omega)
      have eM2 : IntKind.i64.wrap (M1 : Int) = (M1 : Int) := by rw [IntKind.wrap_i64]; have := HM1.out; omega
      go_wp2_with (fail)
      go_loopw [8] (fun t wr => ∃ r : Nat, r ≤ M1 + 2 ∧ t = .int .i64 ((r : Int) - 1) ∧ BoxS d w.heap.size wr ∧ Below w.heap.size w wr ∧ Ss wr A5 M c5 T) (fun t _ => M1 + 2 - ((intOf t) + 1).toNat)
      case atStart => exact ⟨0, by omega, by simp, HX6.out, HB6.out, HS6.out⟩
      case round =>
        obtain ⟨r, hr, rfl, hX, hB, hS⟩ := hrel
        have HX := Lib.hid hX
        have HB := Lib.hid hB
        have HS := Lib.hid hS
        clear hX hB hS HX6 HB6 HS6
        obtain ⟨kv, hkv⟩ : ∃ kv : Int, kv = (r : Int) - 1 := ⟨_, rfl⟩
        have HKV := Lib.hid (And.intro hr hkv)
        rw [← hkv]
        clear hkv hr
        by_cases hle2 : kv ≤ (M1 : Int)
        · have dr : decide (kv ≤ (M1 : Int)) = true := by simpa using hle2
          have HLE2 := Lib.hid hle2
          have ew : IntKind.i64.wrap (kv + 1) = ((r + 1 : Nat) : Int) - 1 := by rw [IntKind.wrap_i64]; have := HKV.out; have := HM1.out; omega
          obtain ⟨c0, c1, c2, c3, c4⟩ := HX.out.cells
          go_wp2_with (fail)
          refine (part_ f iv kv d _ (by have := HF.out; omega)).mono ?_
          rintro e w7 ⟨rfl, hb7⟩
          rw [← HT.out]
          have HX7 := Lib.hid (HX.out.below hb7)
          have HB7 := Lib.hid (HB.out.trans (hb7.mono HB.out.size))
          have HS7 := Lib.hid (HS.out.below hb7)
          clear hb7 c0 c1 c2 c3 c4 HX HB HS
          by_cases hk1 : kv < 1
          · have dk : decide (kv < 1) = true := by simpa using hk1
            rw [nthD_pos hk1]
            go_wp2_with (fail)
            exact ⟨⟨r + 1, by have := HKV.out; have := HLE2.out; omega, by rw [Int.natCast_add]; simp, HX7.out, HB7.out, HS7.out⟩, by have := HKV.out; have := HLE2.out; simp [intOf]; omega⟩
          · have dk : decide (kv < 1) = false := by simpa using hk1
            by_cases hk2 : (M : Int) < kv
            · have dk2 : decide ((M : Int) < kv) = true := by simpa using hk2
              rw [nthD_none (by rw [← HM.out]; omega)]
              go_wp2_with (fail)
              exact ⟨⟨r + 1, by have := HKV.out; have := HLE2.out; omega, by rw [Int.natCast_add]; simp, HX7.out, HB7.out, HS7.out⟩, by have := HKV.out; have := HLE2.out; simp [intOf]; omega⟩
            · have dk2 : decide ((M : Int) < kv) = false := by simpa using hk2
              obtain ⟨j, hj⟩ : ∃ j : Nat, (j : Int) = kv - 1 := ⟨(kv - 1).toNat, by omega⟩
              have hjM : j < M := by omega
              obtain ⟨b, o, rfl, hbl, hcell⟩ := HS7.out.read hjM
              obtain ⟨x, hx⟩ : ∃ x, x = T.getD j [] := ⟨_, rfl⟩
              rw [← hx] at hcell
              have hnx : nthD T kv = some x := by
                unfold nthD
                rw [if_pos (by omega), show (kv - 1).toNat = j by omega, hx, List.getD_eq_getElem?_getD, List.getElem?_eq_getElem (by rw [← HM.out]; exact hjM)]
                rfl
              have ej : IntKind.i64.wrap (kv - 1) = (j : Int) := by rw [IntKind.wrap_i64]; have := HTL.out; have := HM.out; omega
              have hjn : (j : Int) < (M : Int) := by omega
              have hst : ((txt x).toList == (txt x).toList) = true := by simp
              rw [hnx]
              clear hx hnx hj
              go_wp2_with (fail)
              exact ⟨⟨r + 1, by have := HKV.out; have := HLE2.out; omega, by rw [Int.natCast_add]; simp, HX7.out, HB7.out, HS7.out⟩, by have := HKV.out; have := HLE2.out; simp [intOf]; omega⟩
        · have dr : decide (kv ≤ (M1 : Int)) = false := by simpa using hle2
          go_wp2_with (fail)
          exact ⟨⟨q + 1, by have := HIV.out; have := HLE.out; omega, by rw [Int.natCast_add]; simp, HX.out, HB.out⟩, by have := HIV.out; have := HLE.out; simp [intOf]; omega⟩
    · have dq : decide (iv ≤ (N1 : Int)) = false := by simpa using hle
      go_wp2_with (fail)
      go_ret
      exact ⟨rfl, HB.out⟩
end Go.Proofs.Ytmambhopdbomfaa
