/- SegmentCounts, walked. -/
import Derived.Test.YtmambhopdbomfaaSegAlive
import Derived.LoopTactic
namespace Go.Proofs.Ytmambhopdbomfaa
open Go.RowKit

set_option maxHeartbeats 4000000 in
/-- Count of whatever text -/
theorem count_any (s : ByteArray) (d : Sgn) (w : World) (hs : s.size ≤ 9223372036854775807) : Calls Try.prog 20 #[.string s, d.v] w fun e w' => (∃ v, e = .returned (.int .i64 v)) ∧ Below w.heap.size w w' := by
  have HS := Lib.hid hs
  have HB0 := Lib.hid (boxSgn_below d w)
  by_cases hm : nameS s = mshB
  · cases hb : behD s d.a with
    | none =>
      have hf : fieldsD s d.a = [] := by unfold fieldsD; rw [if_pos hm, hb]
      have d1 := name_t hm
      have HB := Lib.hid hb
      clear hb hm hf hs
      go_enter Try.func20, Try.ntmps20
      go_wp2_with (fail)
      refine (nameS_ s _).mono ?_
      rintro e w1 ⟨rfl, rfl⟩
      go_wp2_with (fail)
      refine (behind_ s d.a _).mono ?_
      rintro e w1 ⟨rfl, rfl⟩
      rw [HB.out]
      go_wp2_with (fail)
      go_ret
      exact ⟨⟨_, rfl⟩, HB0.out⟩
    | some r =>
      have d1 := name_t hm
      have hrs := behD_size hb
      have HR : Hid (r.size ≤ 9223372036854775806) := Lib.hid (by omega)
      have HB := Lib.hid hb
      clear hb hm hrs hs
      go_enter Try.func20, Try.ntmps20
      go_wp2_with (fail)
      refine (nameS_ s _).mono ?_
      rintro e w1 ⟨rfl, rfl⟩
      go_wp2_with (fail)
      refine (behind_ s d.a _).mono ?_
      rintro e w1 ⟨rfl, rfl⟩
      rw [HB.out]
      go_wp2_with (fail)
      refine (howMany_ r d.a _ HR.out).mono ?_
      rintro e w2 ⟨rfl, hb2⟩
      have HB2 := Lib.hid (HB0.out.trans (hb2.mono HB0.out.size))
      clear hb2
      go_wp2_with (fail)
      go_ret
      exact ⟨⟨_, rfl⟩, HB2.out⟩
  · have d1 := name_f hm
    clear hm hs
    go_enter Try.func20, Try.ntmps20
    go_wp2_with (fail)
    refine (nameS_ s _).mono ?_
    rintro e w1 ⟨rfl, rfl⟩
    go_wp2_with (fail)
    refine (howMany_w s d.a _ HS.out).mono ?_
    rintro e w2 ⟨rfl, hb2⟩
    have HB2 := Lib.hid (HB0.out.trans (hb2.mono HB0.out.size))
    clear hb2
    go_wp2_with (fail)
    go_ret
    exact ⟨⟨_, rfl⟩, HB2.out⟩

/-- k signs behind -/
def bars (s : ByteArray) (k : Nat) : ByteArray := txt (s.data.toList ++ List.replicate k 124)
theorem bars_zero (s : ByteArray) : bars s 0 = s := by unfold bars; simp
theorem bars_size (s : ByteArray) (k : Nat) : (bars s k).size = s.size + k := by
  unfold bars; rw [txt_size']; simp
theorem bars_succ (s : ByteArray) (k : Nat) : bars s k ++ ⟨#[124]⟩ = bars s (k + 1) := by
  unfold bars
  rw [txt_append, List.replicate_succ', List.append_assoc]
theorem bars_list (s : ByteArray) (k : Nat) : (bars s k).data.toList = s.data.toList ++ List.replicate k 124 := by unfold bars; simp
theorem ex_list (s : ByteArray) (i j : Nat) : (s.extract i j).data.toList = (s.data.toList.drop i).take (j - i) := by
  rw [ByteArray.data_extract, Array.toList_extract, List.extract_eq_take_drop]
theorem ba_ext {a b : ByteArray} (h : a.data.toList = b.data.toList) : a = b := ByteArray.ext (Array.toList_inj.1 h)
theorem name_bars (s : ByteArray) (k : Nat) (h : 3 ≤ s.size) : nameS (bars s k) = nameS s := by
  have hl : s.data.toList.length = s.size := by simp
  unfold nameS
  rw [bars_size, show min (s.size + k) 3 = 3 by omega, show min s.size 3 = 3 by omega]
  apply ba_ext
  rw [ex_list, ex_list, bars_list, List.drop_zero, List.drop_zero, List.take_append_of_le_length (by omega)]
theorem cut_bars (l : List UInt8) : ∀ k, cutAt 124 (l ++ List.replicate k 124) = cutAt 124 l ++ List.replicate k []
  | 0 => by simp
  | k + 1 => by rw [List.replicate_succ', ← List.append_assoc, cutAt_snoc_eq, cut_bars l k, List.append_assoc, ← List.replicate_succ']
theorem fields_bars (s : ByteArray) (k : Nat) (h : 3 ≤ s.size) (hn : ¬ (nameS s = mshB ∧ fieldsD s 124 = [])) : fieldsD (bars s k) 124 = fieldsD s 124 ++ List.replicate k [] := by
  have hl : s.data.toList.length = s.size := by simp
  by_cases hm : nameS s = mshB
  · have hb : ∃ r, behD s 124 = some r := by
      cases hb : behD s 124 with
      | some r => exact ⟨r, rfl⟩
      | none => exact absurd ⟨hm, by unfold fieldsD; rw [if_pos hm, hb]⟩ hn
    obtain ⟨r, hb⟩ := hb
    have h4 : 3 < s.size ∧ s.data.toList.getD 3 0 = 124 := by
      unfold behD at hb
      split at hb
      · assumption
      · cases hb
    have hr : r = s.extract 4 s.size := by
      unfold behD at hb
      rw [if_pos h4] at hb
      injection hb with hb
      exact hb.symm
    have hb2 : behD (bars s k) 124 = some (bars r k) := by
      unfold behD
      rw [bars_size, bars_list, if_pos ⟨by omega, by rw [List.getD_eq_getElem?_getD, List.getElem?_append_left (by omega), ← List.getD_eq_getElem?_getD]; exact h4.2⟩]
      congr 1
      apply ba_ext
      rw [ex_list, bars_list, bars_list, hr, ex_list, List.drop_append_of_le_length (by omega), List.take_of_length_le, List.take_of_length_le]
      · rw [List.length_drop]; omega
      · rw [List.length_append, List.length_drop, List.length_replicate]; omega
    unfold fieldsD
    rw [name_bars s k h, if_pos hm, if_pos hm, hb, hb2]
    show [124] :: cutAt 124 (bars r k).data.toList = ([124] :: cutAt 124 r.data.toList) ++ _
    rw [bars_list, cut_bars]
    rfl
  · unfold fieldsD
    rw [name_bars s k h, if_neg hm, if_neg hm, bars_list, cut_bars, List.tail_append_of_ne_nil (cutAt_ne _ _)]
theorem nth_front (T : List (List UInt8)) (k i : Nat) (h1 : 1 ≤ i) (h2 : i ≤ T.length) : nthD (T ++ List.replicate k []) (i : Int) = nthD T (i : Int) := by
  unfold nthD
  rw [if_pos (by omega), if_pos (by omega), List.getElem?_append_left (by omega)]
theorem nth_in (T : List (List UInt8)) (i : Nat) (h1 : 1 ≤ i) (h2 : i ≤ T.length) : ∃ x, nthD T (i : Int) = some x := by
  unfold nthD
  rw [if_pos (by omega)]
  exact ⟨_, List.getElem?_eq_getElem (by omega)⟩
theorem nth_back (T : List (List UInt8)) (k i : Nat) (h1 : T.length < i) (h2 : i ≤ T.length + k) : nthD (T ++ List.replicate k []) (i : Int) = some [] := by
  unfold nthD
  rw [if_pos (by omega), List.getElem?_append_right (by omega), List.getElem?_replicate, if_pos (by omega)]

/-- signs in a block of their own -/
def BoxS (d : Sgn) (g : Nat) (w : World) : Prop := w.heap[g]? = some (.cells #[u8 d.a, u8 d.b, u8 d.c, u8 d.d, u8 d.e] 33)
theorem BoxS.cells {d : Sgn} {g : Nat} {w : World} (h : BoxS d g w) : w.cell? ⟨g, 0, none⟩ = some (u8 d.a) ∧ w.cell? ⟨g, 1, none⟩ = some (u8 d.b) ∧ w.cell? ⟨g, 2, none⟩ = some (u8 d.c) ∧ w.cell? ⟨g, 3, none⟩ = some (u8 d.d) ∧ w.cell? ⟨g, 4, none⟩ = some (u8 d.e) :=
  ⟨cell_of_row w g 0 _ _ _ h, cell_of_row w g 1 _ _ _ h, cell_of_row w g 2 _ _ _ h, cell_of_row w g 3 _ _ _ h, cell_of_row w g 4 _ _ _ h⟩
theorem BoxS.below {d : Sgn} {g : Nat} {w w' : World} (h : BoxS d g w) (hb : Below w.heap.size w w') : BoxS d g w' := (hb.block g (Array.getElem?_eq_some_iff.1 h).1).trans h

set_option maxHeartbeats 8000000 in
set_option maxRecDepth 100000 in
theorem segmentCounts_walk (s : ByteArray) (more : Int) (w : World) (hs : s.size ≤ maxLen) (hm : (Lit.int .u8 more).wf = true) : Calls Try.prog 8 #[.string s, .int .u8 more] w (True_ w) := by
  have HM := Lib.hid (bounds_u8 hm)
  have HS : Hid (s.size ≤ 9223372036854775807) := Lib.hid (by unfold maxLen at hs; omega)
  clear hs hm
  go_enter Try.func8, Try.ntmps8
  go_wp2_with (fail)
  refine (plain_ w).mono ?_
  rintro e w1 ⟨rfl, hb1⟩
  have HB1 : Hid (Below w.heap.size w (boxSgn plainS w1)) := Lib.hid (hb1.trans ((boxSgn_below plainS w1).mono hb1.size))
  have HX1 : Hid (BoxS plainS w1.heap.size (boxSgn plainS w1)) := Lib.hid (heap_alloc_new w1 _)
  clear hb1
  go_wp2_with (fail)
  rw [show w1.alloc _ = boxSgn plainS w1 from rfl]
  generalize w1.heap.size = g at *
  generalize boxSgn plainS w1 = wd at *
  by_cases hbig : 1000 < s.size
  · have d1 : decide ((1000 : Int) < (s.size : Int)) = true := by simp; omega
    refine (count_any s plainS wd HS.out).mono ?_
    rintro e w2 ⟨⟨v, rfl⟩, hb2⟩
    have HB2 := Lib.hid (HB1.out.trans (hb2.mono HB1.out.size))
    clear hb2 hbig
    go_wp2_with (fail)
    refine (alive_ w2).mono ?_
    rintro e w3 ⟨rfl, hb3⟩
    have HB3 := Lib.hid (HB2.out.trans (hb3.mono HB2.out.size))
    clear hb3
    go_wp2_with (fail)
    refine (alive_ w3).mono ?_
    rintro e w4 ⟨rfl, hb4⟩
    have HB4 := Lib.hid (HB3.out.trans (hb4.mono HB3.out.size))
    clear hb4
    go_wp2_with (fail)
    go_ret
    exact ⟨rfl, HB4.out⟩
  have d1 : decide ((1000 : Int) < (s.size : Int)) = false := by simp; omega
  have HSZ : Hid (s.size ≤ 1000) := Lib.hid (by omega)
  refine (count_ s plainS wd (by omega)).mono ?_
  rintro e w2 ⟨rfl, hb2⟩
  have HX2 := Lib.hid (HX1.out.below hb2)
  have HB2 := Lib.hid (HB1.out.trans (hb2.mono HB1.out.size))
  clear hb2 hbig HX1 HB1
  have HFL : Hid ((fieldsD s 124).length ≤ s.size + 1) := Lib.hid (by
    have h1 := cut_le 124 s
    unfold fieldsD
    split
    · split
      · simp
      · rename_i r hb
        have h2 := behD_size hb
        have h3 := cut_le 124 r
        simp; omega
    · rw [List.length_tail]; omega)
  obtain ⟨n, hn⟩ : ∃ n : Nat, n = (fieldsD s plainS.a).length := ⟨_, rfl⟩
  have HN : Hid (n = (fieldsD s 124).length) := Lib.hid hn
  rw [← hn]
  clear hn
  go_wp2_with (fail)
  refine (alive_ w2).mono ?_
  rintro e w3 ⟨rfl, hb3⟩
  have HX3 := Lib.hid (HX2.out.below hb3)
  have HB3 := Lib.hid (HB2.out.trans (hb3.mono HB2.out.size))
  clear hb3 HX2 HB2
  by_cases hmsh : nameS s = mshB
  · have d2 := name_t hmsh
    by_cases h0 : n = 0
    · have d3 : ((n : Int) == 0) = true := by simp; omega
      clear h0 hmsh
      go_wp2_with (fail)
      refine (nameS_ s _).mono ?_
      rintro e w4 ⟨rfl, rfl⟩
      go_wp2_with (fail)
      refine (alive_ _).mono ?_
      rintro e w5 ⟨rfl, hb4⟩
      have HB4 := Lib.hid (HB3.out.trans (hb4.mono HB3.out.size))
      clear hb4
      go_wp2_with (fail)
      go_ret
      exact ⟨rfl, HB4.out⟩
    · have d3 : ((n : Int) == 0) = false := by simp; omega
      have HNE : Hid (3 ≤ s.size ∧ ¬ (nameS s = mshB ∧ fieldsD s 124 = [])) := Lib.hid ⟨by
        have h3 : (nameS s).size = 3 := by rw [hmsh]; rfl
        unfold nameS at h3
        rw [ByteArray.size_extract] at h3
        omega, fun h => h0 (by rw [HN.out, h.2]; rfl)⟩
      have d4 : decide ((s.size : Int) < 3) = false := by have := HNE.out.1; simp; omega
      clear h0 hmsh
      obtain ⟨k, hk⟩ : ∃ k : Nat, (k : Int) = more % 20 := ⟨(more % 20).toNat, by have := HM.out; omega⟩
      have HK : Hid (k < 20) := Lib.hid (by omega)
      have e1 : more.tmod 20 = (k : Int) := by rw [hk, Int.tmod_eq_emod_of_nonneg HM.out.1]
      have e2 : IntKind.u8.wrap (k : Int) = (k : Int) := by rw [IntKind.wrap_u8]; have := HK.out; omega
      have e3 : IntKind.i64.wrap (k : Int) = (k : Int) := by rw [IntKind.wrap_i64]; have := HK.out; omega
      have hk2 : more % 20 = (k : Int) := hk.symm
      clear hk
      go_wp2_with (fail)
      refine (nameS_ s _).mono ?_
      rintro e w4 ⟨rfl, rfl⟩
      go_wp2_with (fail)
      go_loopw [8, 45] (fun t j wr => ∃ i : Nat, i ≤ k ∧ t = .string (bars s i) ∧ j = .int .i64 (i : Int) ∧ wr = w4) (fun _ j _ => k - (intOf j).toNat)
      case atStart => exact ⟨0, Nat.zero_le _, by rw [bars_zero], rfl, rfl⟩
      case round =>
        obtain ⟨i, hi, rfl, rfl, rfl⟩ := hrel
        by_cases hlt : i < k
        · have dl : decide ((i : Int) < (k : Int)) = true := by simp; omega
          have hadd := fun W => add_run (bars s i) ⟨#[124]⟩ (by rw [bars_size]; have h1 := HSZ.out; have h2 := HK.out; show s.size + i + 1 ≤ _; omega) W
          have hno : ¬ 9223372036854775807 < (bars s i).size + 1 := by rw [bars_size]; have h1 := HSZ.out; have h2 := HK.out; omega
          go_wp2_with (fail)
          exact ⟨⟨i + 1, by omega, by rw [bars_succ], by go_num, trivial⟩, by simp [intOf]; omega⟩
        · obtain rfl : i = k := by omega
          have dl : decide ((i : Int) < (i : Int)) = false := by simp
          obtain ⟨c0, c1, c2, c3, c4⟩ := HX3.out.cells
          have HFB : Hid (fieldsD (bars s i) plainS.a = fieldsD s 124 ++ List.replicate i []) := Lib.hid (fields_bars s i HNE.out.1 HNE.out.2)
          have HZI : Hid ((bars s i).size ≤ 9223372036854775806) := Lib.hid (by rw [bars_size]; have h1 := HSZ.out; have h2 := HK.out; omega)
          clear hlt hi
          go_wp2_with (fail)
          refine (count_ (bars s i) plainS _ HZI.out).mono ?_
          rintro e w5 ⟨rfl, hb5⟩
          rw [HFB.out, List.length_append, List.length_replicate, ← HN.out]
          have HX5 := Lib.hid (HX3.out.below hb5)
          have HB5 := Lib.hid (HB3.out.trans (hb5.mono HB3.out.size))
          obtain ⟨N, hN⟩ : ∃ N : Nat, (N : Int) = (n : Int) + (i : Int) := ⟨n + i, by omega⟩
          rw [show ((n + i : Nat) : Int) = (N : Int) by omega]
          have eN : (n : Int) + (i : Int) = (N : Int) := hN.symm
          have HNN : Hid (N = n + i ∧ N ≤ 1100) := Lib.hid (by have h1 := HFL.out; have h2 := HSZ.out; have h3 := HK.out; have h4 := HN.out; omega)
          have eN2 : IntKind.i64.wrap (N : Int) = (N : Int) := by rw [IntKind.wrap_i64]; have := HNN.out; omega
          have hNle : (N : Int) ≤ 9223372036854775807 := by have := HNN.out; omega
          clear hb5 c0 c1 c2 c3 c4 hN
          go_wp2_with (fail)
          go_loopw [9] (fun j wr => ∃ q : Nat, 1 ≤ q ∧ q ≤ N + 1 ∧ j = .int .i64 (q : Int) ∧ BoxS plainS g wr ∧ Below w.heap.size w wr) (fun j _ => N + 1 - (intOf j).toNat)
          case atStart => exact ⟨1, by omega, by omega, rfl, HX5.out, HB5.out⟩
          case round =>
            obtain ⟨q, hq1, hq2, rfl, hX, hB⟩ := hrel
            have HX := Lib.hid hX
            have HB := Lib.hid hB
            clear hX hB
            by_cases hle : q ≤ N
            · have dq : decide ((q : Int) ≤ (N : Int)) = true := by simp; omega
              have HQ := Lib.hid (And.intro hq1 hle)
              have ew : IntKind.i64.wrap ((q : Int) + 1) = ((q + 1 : Nat) : Int) := by rw [IntKind.wrap_i64]; have := HNN.out; omega
              clear hq1 hq2
              obtain ⟨c0, c1, c2, c3, c4⟩ := HX.out.cells
              go_wp2_with (fail)
              refine (field_ (bars s i) (q : Int) plainS _ HZI.out (by have h1 := HQ.out; have h2 := HNN.out; omega) (by omega)).mono ?_
              rintro e w6 ⟨rfl, hb6⟩
              rw [HFB.out]
              have HX6 := Lib.hid (HX.out.below hb6)
              have HB6 := Lib.hid (HB.out.trans (hb6.mono HB.out.size))
              clear hb6 c0 c1 c2 c3 c4
              obtain ⟨c0, c1, c2, c3, c4⟩ := HX6.out.cells
              have hF : (fieldsD s 124).length = n := HN.out.symm
              by_cases hqn : q ≤ n
              · obtain ⟨x, hx⟩ := nth_in (fieldsD s 124) q HQ.out.1 (by omega)
                have HXX : Hid (nthD (fieldsD s plainS.a) (q : Int) = some x) := Lib.hid hx
                rw [nth_front _ i q HQ.out.1 (by omega), hx]
                have dn : decide ((q : Int) ≤ (n : Int)) = true := by simp; omega
                have hst : ((txt x).toList == (txt x).toList) = true := by simp
                clear hx hF
                go_wp2_with (fail)
                refine (field_ s (q : Int) plainS _ (by have := HSZ.out; omega) (by have h1 := HQ.out; have h2 := HNN.out; omega) (by omega)).mono ?_
                rintro e w7 ⟨rfl, hb7⟩
                rw [HXX.out]
                have HX7 := Lib.hid (HX6.out.below hb7)
                have HB7 := Lib.hid (HB6.out.trans (hb7.mono HB6.out.size))
                clear hb7 c0 c1 c2 c3 c4
                go_wp2_with (fail)
                exact ⟨⟨q + 1, by omega, by have := HQ.out; omega, by go_num, HX7.out, HB7.out⟩, by have := HQ.out; simp [intOf]; omega⟩
              · rw [nth_back _ i q (by omega) (by have h1 := HQ.out; have h2 := HNN.out; omega)]
                have HXX : Hid (nthD (fieldsD s plainS.a) (q : Int) = none) := Lib.hid (nthD_none (by rw [show fieldsD s plainS.a = fieldsD s 124 from rfl]; omega))
                have dn : decide ((q : Int) ≤ (n : Int)) = false := by simp; omega
                have hst : ((txt []).toList == (txt []).toList) = true := by simp
                have hqn2 : n < q := by omega
                clear hF
                go_wp2_with (fail)
                refine (field_ s (q : Int) plainS _ (by have := HSZ.out; omega) (by have h1 := HQ.out; have h2 := HNN.out; omega) (by omega)).mono ?_
                rintro e w7 ⟨rfl, hb7⟩
                rw [HXX.out]
                have HX7 := Lib.hid (HX6.out.below hb7)
                have HB7 := Lib.hid (HB6.out.trans (hb7.mono HB6.out.size))
                clear hb7 c0 c1 c2 c3 c4
                go_wp2_with (fail)
                exact ⟨⟨q + 1, by omega, by have := HQ.out; omega, by go_num, HX7.out, HB7.out⟩, by have := HQ.out; simp [intOf]; omega⟩
            · have dq : decide ((q : Int) ≤ (N : Int)) = false := by simp; omega
              clear hq1 hq2
              go_wp2_with (fail)
              go_ret
              exact ⟨rfl, HB.out⟩
  · have d2 := name_f hmsh
    by_cases h3 : s.size < 3
    · have d4 : decide ((s.size : Int) < 3) = true := by simp; omega
      clear hmsh h3
      go_wp2_with (fail)
      refine (nameS_ s _).mono ?_
      rintro e w4 ⟨rfl, rfl⟩
      go_wp2_with (fail)
      refine (alive_ _).mono ?_
      rintro e w5 ⟨rfl, hb4⟩
      have HB4 := Lib.hid (HB3.out.trans (hb4.mono HB3.out.size))
      clear hb4
      go_wp2_with (fail)
      go_ret
      exact ⟨rfl, HB4.out⟩
    · have d4 : decide ((s.size : Int) < 3) = false := by simp; omega
      have HNE : Hid (3 ≤ s.size ∧ ¬ (nameS s = mshB ∧ fieldsD s 124 = [])) := Lib.hid ⟨by omega, fun h => hmsh h.1⟩
      clear hmsh h3
      obtain ⟨k, hk⟩ : ∃ k : Nat, (k : Int) = more % 20 := ⟨(more % 20).toNat, by have := HM.out; omega⟩
      have HK : Hid (k < 20) := Lib.hid (by omega)
      have e1 : more.tmod 20 = (k : Int) := by rw [hk, Int.tmod_eq_emod_of_nonneg HM.out.1]
      have e2 : IntKind.u8.wrap (k : Int) = (k : Int) := by rw [IntKind.wrap_u8]; have := HK.out; omega
      have e3 : IntKind.i64.wrap (k : Int) = (k : Int) := by rw [IntKind.wrap_i64]; have := HK.out; omega
      have hk2 : more % 20 = (k : Int) := hk.symm
      clear hk
      go_wp2_with (fail)
      refine (nameS_ s _).mono ?_
      rintro e w4 ⟨rfl, rfl⟩
      go_wp2_with (fail)
      go_loopw [8, 45] (fun t j wr => ∃ i : Nat, i ≤ k ∧ t = .string (bars s i) ∧ j = .int .i64 (i : Int) ∧ wr = w4) (fun _ j _ => k - (intOf j).toNat)
      case atStart => exact ⟨0, Nat.zero_le _, by rw [bars_zero], rfl, rfl⟩
      case round =>
        obtain ⟨i, hi, rfl, rfl, rfl⟩ := hrel
        by_cases hlt : i < k
        · have dl : decide ((i : Int) < (k : Int)) = true := by simp; omega
          have hadd := fun W => add_run (bars s i) ⟨#[124]⟩ (by rw [bars_size]; have h1 := HSZ.out; have h2 := HK.out; show s.size + i + 1 ≤ _; omega) W
          have hno : ¬ 9223372036854775807 < (bars s i).size + 1 := by rw [bars_size]; have h1 := HSZ.out; have h2 := HK.out; omega
          go_wp2_with (fail)
          exact ⟨⟨i + 1, by omega, by rw [bars_succ], by go_num, trivial⟩, by simp [intOf]; omega⟩
        · obtain rfl : i = k := by omega
          have dl : decide ((i : Int) < (i : Int)) = false := by simp
          obtain ⟨c0, c1, c2, c3, c4⟩ := HX3.out.cells
          have HFB : Hid (fieldsD (bars s i) plainS.a = fieldsD s 124 ++ List.replicate i []) := Lib.hid (fields_bars s i HNE.out.1 HNE.out.2)
          have HZI : Hid ((bars s i).size ≤ 9223372036854775806) := Lib.hid (by rw [bars_size]; have h1 := HSZ.out; have h2 := HK.out; omega)
          clear hlt hi
          go_wp2_with (fail)
          refine (count_ (bars s i) plainS _ HZI.out).mono ?_
          rintro e w5 ⟨rfl, hb5⟩
          rw [HFB.out, List.length_append, List.length_replicate, ← HN.out]
          have HX5 := Lib.hid (HX3.out.below hb5)
          have HB5 := Lib.hid (HB3.out.trans (hb5.mono HB3.out.size))
          obtain ⟨N, hN⟩ : ∃ N : Nat, (N : Int) = (n : Int) + (i : Int) := ⟨n + i, by omega⟩
          rw [show ((n + i : Nat) : Int) = (N : Int) by omega]
          have eN : (n : Int) + (i : Int) = (N : Int) := hN.symm
          have HNN : Hid (N = n + i ∧ N ≤ 1100) := Lib.hid (by have h1 := HFL.out; have h2 := HSZ.out; have h3 := HK.out; have h4 := HN.out; omega)
          have eN2 : IntKind.i64.wrap (N : Int) = (N : Int) := by rw [IntKind.wrap_i64]; have := HNN.out; omega
          have hNle : (N : Int) ≤ 9223372036854775807 := by have := HNN.out; omega
          clear hb5 c0 c1 c2 c3 c4 hN
          go_wp2_with (fail)
          go_loopw [9] (fun j wr => ∃ q : Nat, 1 ≤ q ∧ q ≤ N + 1 ∧ j = .int .i64 (q : Int) ∧ BoxS plainS g wr ∧ Below w.heap.size w wr) (fun j _ => N + 1 - (intOf j).toNat)
          case atStart => exact ⟨1, by omega, by omega, rfl, HX5.out, HB5.out⟩
          case round =>
            obtain ⟨q, hq1, hq2, rfl, hX, hB⟩ := hrel
            have HX := Lib.hid hX
            have HB := Lib.hid hB
            clear hX hB
            by_cases hle : q ≤ N
            · have dq : decide ((q : Int) ≤ (N : Int)) = true := by simp; omega
              have HQ := Lib.hid (And.intro hq1 hle)
              have ew : IntKind.i64.wrap ((q : Int) + 1) = ((q + 1 : Nat) : Int) := by rw [IntKind.wrap_i64]; have := HNN.out; omega
              clear hq1 hq2
              obtain ⟨c0, c1, c2, c3, c4⟩ := HX.out.cells
              go_wp2_with (fail)
              refine (field_ (bars s i) (q : Int) plainS _ HZI.out (by have h1 := HQ.out; have h2 := HNN.out; omega) (by omega)).mono ?_
              rintro e w6 ⟨rfl, hb6⟩
              rw [HFB.out]
              have HX6 := Lib.hid (HX.out.below hb6)
              have HB6 := Lib.hid (HB.out.trans (hb6.mono HB.out.size))
              clear hb6 c0 c1 c2 c3 c4
              obtain ⟨c0, c1, c2, c3, c4⟩ := HX6.out.cells
              have hF : (fieldsD s 124).length = n := HN.out.symm
              by_cases hqn : q ≤ n
              · obtain ⟨x, hx⟩ := nth_in (fieldsD s 124) q HQ.out.1 (by omega)
                have HXX : Hid (nthD (fieldsD s plainS.a) (q : Int) = some x) := Lib.hid hx
                rw [nth_front _ i q HQ.out.1 (by omega), hx]
                have dn : decide ((q : Int) ≤ (n : Int)) = true := by simp; omega
                have hst : ((txt x).toList == (txt x).toList) = true := by simp
                clear hx hF
                go_wp2_with (fail)
                refine (field_ s (q : Int) plainS _ (by have := HSZ.out; omega) (by have h1 := HQ.out; have h2 := HNN.out; omega) (by omega)).mono ?_
                rintro e w7 ⟨rfl, hb7⟩
                rw [HXX.out]
                have HX7 := Lib.hid (HX6.out.below hb7)
                have HB7 := Lib.hid (HB6.out.trans (hb7.mono HB6.out.size))
                clear hb7 c0 c1 c2 c3 c4
                go_wp2_with (fail)
                exact ⟨⟨q + 1, by omega, by have := HQ.out; omega, by go_num, HX7.out, HB7.out⟩, by have := HQ.out; simp [intOf]; omega⟩
              · rw [nth_back _ i q (by omega) (by have h1 := HQ.out; have h2 := HNN.out; omega)]
                have HXX : Hid (nthD (fieldsD s plainS.a) (q : Int) = none) := Lib.hid (nthD_none (by rw [show fieldsD s plainS.a = fieldsD s 124 from rfl]; omega))
                have dn : decide ((q : Int) ≤ (n : Int)) = false := by simp; omega
                have hst : ((txt []).toList == (txt []).toList) = true := by simp
                have hqn2 : n < q := by omega
                clear hF
                go_wp2_with (fail)
                refine (field_ s (q : Int) plainS _ (by have := HSZ.out; omega) (by have h1 := HQ.out; have h2 := HNN.out; omega) (by omega)).mono ?_
                rintro e w7 ⟨rfl, hb7⟩
                rw [HXX.out]
                have HX7 := Lib.hid (HX6.out.below hb7)
                have HB7 := Lib.hid (HB6.out.trans (hb7.mono HB6.out.size))
                clear hb7 c0 c1 c2 c3 c4
                go_wp2_with (fail)
                exact ⟨⟨q + 1, by omega, by have := HQ.out; omega, by go_num, HX7.out, HB7.out⟩, by have := HQ.out; simp [intOf]; omega⟩
            · have dq : decide ((q : Int) ≤ (N : Int)) = false := by simp; omega
              clear hq1 hq2
              go_wp2_with (fail)
              go_ret
              exact ⟨rfl, HB.out⟩
end Go.Proofs.Ytmambhopdbomfaa
