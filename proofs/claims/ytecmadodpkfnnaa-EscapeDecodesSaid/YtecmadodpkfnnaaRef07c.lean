/- Layer 7: the document's Decode, walked. -/
import Derived.Test.YtecmadodpkfnnaaRef07b
namespace Go.Proofs.Ytecmadodpkfnnaa
open Go.RowKit Go.MapKept

theorem refInsideE (x : ByteArray) (hxm : x.size ≤ 1000000) (s : Sgn) (w : World) : Calls Try.prog 36 #[.string x, s.v] w fun e w' => e = .returned (.tuple #[strV ((insideD s x.data.toList).getD []), .bool (insideD s x.data.toList).isSome]) ∧ Below w.heap.size w w' := refInside x hxm s w
theorem idxb_at (c : UInt8) (t : List UInt8) (h : c ∉ t) (k : List UInt8) : Lib.indexByte (t ++ c :: k) c = (t.length : Int) := by
  induction t with
  | nil => simp [Lib.indexByte]
  | cons b r ih =>
    simp only [List.mem_cons, not_or] at h
    rw [List.cons_append, Lib.indexByte, if_neg (by simpa using Ne.symm h.1), ih h.2, if_neg (by simp), List.length_cons]
    omega
theorem idxb_none (c : UInt8) (t : List UInt8) (h : c ∉ t) : Lib.indexByte t c = -1 := by
  induction t with
  | nil => rfl
  | cons b r ih =>
    simp only [List.mem_cons, not_or] at h
    rw [Lib.indexByte, if_neg (by simpa using Ne.symm h.1), ih h.2]
    rfl
theorem not_in_take (l : List UInt8) (c : UInt8) (a j : Nat) (hj : j ≤ l.length) (h : ∀ t, a ≤ t → t < j → l.getD t 0 ≠ c) : c ∉ (l.drop a).take (j - a) := by
  intro hm
  obtain ⟨t, ht, e⟩ := List.mem_take_iff_getElem.1 hm
  have h1 : t < j - a := by omega
  refine h (a + t) (by omega) (by omega) ?_
  rw [List.getD_eq_getElem?_getD, List.getElem?_eq_getElem (by omega)]
  rw [List.getElem_drop] at e
  exact e
/-- no sign behind it -/
theorem first_no {s : Sgn} {l : List UInt8} {i : Nat} (hi : i < l.length) (hd : l.getD i 0 = s.d) (h : ∀ t, i + 1 ≤ t → t < l.length → l.getD t 0 ≠ s.d) : firstD s (l.drop i) = none := by
  have e : l.drop i = s.d :: l.drop (i + 1) := by
    rw [List.drop_eq_getElem_cons hi, ← hd, List.getD_eq_getElem?_getD, List.getElem?_eq_getElem hi]; rfl
  have hn := not_in_take l s.d (i + 1) l.length (Nat.le_refl _) h
  rw [List.take_of_length_le (by simp)] at hn
  rw [e]
  unfold firstD
  simp only [List.drop_succ_cons, List.drop_zero, List.getD_cons_zero]
  rw [idxb_none s.d _ hn, if_pos (by omega)]
/-- a sign behind it -/
theorem first_yes {s : Sgn} {l : List UInt8} {i j : Nat} (hi : i + 1 ≤ j) (hj : j < l.length) (hd : l.getD i 0 = s.d) (h : ∀ t, i + 1 ≤ t → t < j → l.getD t 0 ≠ s.d) (hjd : l.getD j 0 = s.d) : firstD s (l.drop i) = (insideD s ((l.take j).drop (i + 1))).map fun t => (t, j + 1 - i) := by
  have e : l.drop i = s.d :: l.drop (i + 1) := by
    rw [List.drop_eq_getElem_cons (by omega), ← hd, List.getD_eq_getElem?_getD, List.getElem?_eq_getElem (by omega)]; rfl
  have hn := not_in_take l s.d (i + 1) j (by omega) h
  have e2 : l.drop (i + 1) = (l.drop (i + 1)).take (j - (i + 1)) ++ s.d :: l.drop (j + 1) := by
    conv => lhs; rw [← List.take_append_drop (j - (i + 1)) (l.drop (i + 1)), List.drop_drop, show i + 1 + (j - (i + 1)) = j by omega]
    rw [List.drop_eq_getElem_cons hj, ← hjd, List.getD_eq_getElem?_getD, List.getElem?_eq_getElem hj]; rfl
  have hl : ((l.drop (i + 1)).take (j - (i + 1))).length = j - (i + 1) := by rw [List.length_take, List.length_drop]; omega
  have hx : Lib.indexByte (l.drop (i + 1)) s.d = ((j - (i + 1) : Nat) : Int) := by
    rw [e2, idxb_at s.d _ hn, hl]
  rw [e]
  unfold firstD
  simp only [List.drop_succ_cons, List.drop_zero, List.getD_cons_zero]
  rw [hx, if_neg (by omega)]
  simp only [Int.toNat_natCast]
  rw [List.drop_take]
  rw [show j - (i + 1) + 2 = j + 1 - i by omega]

set_option maxHeartbeats 4000000 in
set_option maxRecDepth 100000 in
theorem refDecode (x : ByteArray) (hx : x.size ≤ 1000000) (s : Sgn) (w : World) : Calls Try.prog 17 #[.string x, s.v] w fun e w' => e = .returned (.tuple #[strV (decText (decD s x.data.toList)), .int .i64 (decPos (decD s x.data.toList) x.data.toList.length), .int .i64 (decErr (decD s x.data.toList))]) ∧ Below w.heap.size w w' := by
  have HX := Lib.hid (Box5.new s w)
  have HXL : Hid (x.data.toList.length = x.size) := Lib.hid (by simp)
  have HB0 : Hid (Below w.heap.size w (w.alloc (dobj7 s))) := Lib.hid ((Below.refl _ _).alloc (Nat.le_refl _) _)
  go_enter Try.func17, Try.ntmps17
  go_wp2_with (fail)
  go_loopw [7, 8, 9, 10, 11] (fun v i _ _ _ wr => ∃ (k : Nat) (out : List UInt8), k ≤ x.size ∧ i = .int .i64 k ∧ v = strV out ∧ Box5 s w.heap.size wr ∧ Below w.heap.size w wr ∧ out.length ≤ k ∧ decD s x.data.toList = (decFrom s x.data.toList k).map (out ++ ·)) (fun _ i _ _ _ _ => x.size - (intOf i).toNat)
  case atStart => exact ⟨0, [], Nat.zero_le _, rfl, rfl, HX.out, HB0.out, Nat.zero_le _, decD_start s x.data.toList⟩
  case round =>
    clear HX HB0
    obtain ⟨k, out, hk, rfl, rfl, hx, hb, hol, hdec⟩ := hrel
    have HX := Lib.hid hx
    have HB := Lib.hid hb
    have HOL := Lib.hid hol
    have HD := Lib.hid hdec
    clear hx hb hol hdec
    obtain ⟨x0, x1, x2, x3, x4⟩ := HX.out.cells
    by_cases hlt : k < x.size
    · have e1 : (k : Int) < (x.size : Int) := by omega
      have hgi := getD_idx x k hlt
      have ix := fun W => strIdx x k hlt (k : Int) rfl W
      by_cases hc : x[k] = s.d
      case neg =>
        have hne : ((x[k].toNat : Int) != (s.d.toNat : Int)) = true := by
          rw [bne_iff_ne]
          intro h
          exact hc (UInt8.toNat_inj.1 (by omega))
        have HDN : Hid (decD s x.data.toList = (decFrom s x.data.toList (k + 1)).map ((out ++ [x[k]]) ++ ·)) := Lib.hid (by
          rw [HD.out, decFrom_byte s _ k (by simpa using hlt) (by rw [hgi]; exact hc), map_map_cons, hgi])
        obtain ⟨e3, he3⟩ : ∃ e3, e3 = out ++ [x[k]] := ⟨_, rfl⟩
        have t3 : txt out ++ x.extract k (k + 1) = txt e3 := by rw [txt_ext out x k hlt, he3]
        have hsz : (x.extract k (k + 1)).size = 1 := by rw [ByteArray.size_extract]; omega
        have hn3 : ¬ (9223372036854775807 < (out.length : Int) + 1) := by have := HOL.out; omega
        have HE3 : Hid (e3.length ≤ k + 1) := Lib.hid (by rw [he3, List.length_append, List.length_singleton]; have := HOL.out; omega)
        rw [← he3] at HDN
        clear hc hgi he3
        go_wp2_with (fail)
        go_quiet (fail)
        go_wp2_with (fail)
        have HDR : Hid (Below wr.heap.size wr (wr.drewN nq)) := Lib.hid (drawN_below (Below.refl _ _) _)
        exact ⟨⟨k + 1, e3, by omega, by go_num, rfl, HX.out.below HDR.out, HB.out.trans (HDR.out.mono HB.out.size), HE3.out, HDN.out⟩, by simp [intOf]; omega⟩
      have hne : ((x[k].toNat : Int) != (s.d.toNat : Int)) = false := by rw [hc]; simp
      have HC : Hid (x.data.toList.getD k 0 = s.d) := Lib.hid (by rw [hgi, hc])
      clear hc hgi
      go_wp2_with (fail)
      go_quiet (fail)
      go_wp2_with (fail)
      have HDR : Hid (Below wr.heap.size wr (wr.drewN nq)) := Lib.hid (drawN_below (Below.refl _ _) _)
      have HX2 := Lib.hid (HX.out.below HDR.out)
      have HB2 : Hid (Below w.heap.size w (wr.drewN nq)) := Lib.hid (HB.out.trans (HDR.out.mono HB.out.size))
      clear x0 x1 x2 x3 x4 hne
      generalize wr.drewN nq = w2 at *
      go_loopw [9] (fun v wi => ∃ j : Nat, v = .int .i64 j ∧ k + 1 ≤ j ∧ j ≤ x.size ∧ (∀ t, k + 1 ≤ t → t < j → x.data.toList.getD t 0 ≠ s.d) ∧ Box5 s w.heap.size wi ∧ Below w.heap.size w wi) (fun v _ => x.size - (intOf v).toNat)
      case atStart => exact ⟨k + 1, by go_num, by omega, by omega, fun t h1 h2 => by omega, HX2.out, HB2.out⟩
      case round =>
        obtain ⟨j, rfl, hkj, hj, hnd, hxi, hbi⟩ := hrel
        have HND := Lib.hid hnd
        have HXi := Lib.hid hxi
        have HBi := Lib.hid hbi
        clear hnd hxi hbi
        obtain ⟨x0, x1, x2, x3, x4⟩ := HXi.out.cells
        by_cases hjl : j < x.size
        · have d1 : decide ((j : Int) < (x.size : Int)) = true := by rw [decide_eq_true_iff]; omega
          have ix := fun W => strIdx x j hjl (j : Int) rfl W
          have hgj := getD_idx x j hjl
          by_cases hc : x[j] = s.d
          · have hne : ((x[j].toNat : Int) != (s.d.toNat : Int)) = false := by rw [hc]; simp
            have HJD : Hid (x.data.toList.getD j 0 = s.d) := Lib.hid (by rw [hgj, hc])
            have HF := Lib.hid (first_yes (s := s) hkj (by simpa using hjl) HC.out HND.out HJD.out)
            have hns : ((j : Int) == (x.size : Int)) = false := by rw [beq_eq_false_iff_ne]; omega
            clear hc hgj
            go_wp2_with (fail)
            go_quiet (fail)
            go_wp2_with (fail)
            have HDR2 : Hid (Below wr.heap.size wr (wr.drewN nq)) := Lib.hid (drawN_below (Below.refl _ _) _)
            have HX3 := Lib.hid (HXi.out.below HDR2.out)
            have HB3 : Hid (Below w.heap.size w (wr.drewN nq)) := Lib.hid (HBi.out.trans (HDR2.out.mono HBi.out.size))
            clear x0 x1 x2 x3 x4 hne
            generalize wr.drewN nq = w3 at *
            have L : ∀ (k : Nat) (x : Value), (#[Value.int .u8 (s.a.toNat : Int), Value.int .u8 (s.b.toNat : Int), Value.int .u8 (s.c.toNat : Int), Value.int .u8 (s.d.toNat : Int), Value.int .u8 (s.e.toNat : Int)] : Array Value)[k]? = some x → ∀ n : Later w3, n.u.cell? ⟨w.heap.size, k, none⟩ = some x := fun k x hx n => by
              rw [cell_of_row _ _ _ _ _ _ (HX3.out.below n.h)]; exact hx
            have L0 := L 0 _ rfl
            have L1 := L 1 _ rfl
            have L2 := L 2 _ rfl
            have L3 := L 3 _ rfl
            have L4 := L 4 _ rfl
            clear L
            have b1 : (k : Int) + 1 ≤ (j : Int) := by omega
            have b2 : (j : Int) ≤ (x.size : Int) := by omega
            have HES : Hid ((x.extract (k + 1) j).size ≤ 1000000) := Lib.hid (by rw [ByteArray.size_extract]; omega)
            have HEX := Lib.hid (ext_list x (k + 1) j)
            have hw1 : IntKind.i64.wrap ((k : Int) + 1) = (k : Int) + 1 := IntWalk.i64_in _ (by omega)
            have HCI := Lib.hid (fun W => refInsideE (x.extract (k + 1) j) HES.out s W)
            rw [HEX.out] at HCI
            cases hin : insideD s ((x.data.toList.take j).drop (k + 1)) with
            | none =>
              rw [hin] at HCI
              simp only [Option.getD_none, Option.isSome_none] at HCI
              have HE : Hid (decD s x.data.toList = .error k) := Lib.hid (by
                rw [HD.out, decFrom_bad s _ k (by simpa using hlt) HC.out (by rw [HF.out, hin]; rfl)]; rfl)
              clear hin
              refine region_later (by kernel_rfl) (by kernel_rfl) ?_
              repeat (go_big_quiet_step ((first | (go_at_call 36; exact Calls.later (HCI.out _)))))
              refine wpQuiet_nil ?_
              intro nq2
              have HX4 := Lib.hid (HX3.out.below nq2.h)
              have HB4 : Hid (Below w.heap.size w nq2.u) := Lib.hid (HB3.out.trans (nq2.h.mono HB3.out.size))
              clear L0 L1 L2 L3 L4
              generalize nq2.u = w4 at *
              go_wp2_with (fail)
              go_ret3
              exact ⟨by rw [HE.out]; rfl, HB4.out⟩
            | some tl =>
              rw [hin] at HCI
              simp only [Option.getD_some, Option.isSome_some] at HCI
              have HFS : Hid (firstD s (x.data.toList.drop k) = some (tl, j + 1 - k)) := Lib.hid (by rw [HF.out, hin]; rfl)
              have HDN : Hid (decD s x.data.toList = (decFrom s x.data.toList (j + 1)).map ((out ++ tl) ++ ·)) := Lib.hid (by
                rw [HD.out, decFrom_esc s _ k (by simpa using hlt) HC.out HFS.out, map_map_app, show k + (j + 1 - k) = j + 1 by omega])
              have HTL := Lib.hid (firstD_short HFS.out)
              obtain ⟨e3, he3⟩ : ∃ e3, e3 = out ++ tl := ⟨_, rfl⟩
              have t3 : txt out ++ txt tl = txt e3 := by rw [txt_app, he3]
              have hn3 : ¬ (9223372036854775807 < (out.length : Int) + (tl.length : Int)) := by have := HOL.out; have := HTL.out; omega
              have HE3 : Hid (e3.length ≤ j + 1) := Lib.hid (by rw [he3, List.length_append]; have := HOL.out; have := HTL.out; omega)
              rw [← he3] at HDN
              clear hin he3
              refine region_later (by kernel_rfl) (by kernel_rfl) ?_
              repeat (go_big_quiet_step ((first | (go_at_call 36; exact Calls.later (HCI.out _)))))
              refine wpQuiet_nil ?_
              intro nq2
              have HX4 := Lib.hid (HX3.out.below nq2.h)
              have HB4 : Hid (Below w.heap.size w nq2.u) := Lib.hid (HB3.out.trans (nq2.h.mono HB3.out.size))
              clear L0 L1 L2 L3 L4
              generalize nq2.u = w4 at *
              go_wp2_with (fail)
              exact ⟨⟨j + 1, e3, by omega, by go_num, rfl, HX4.out, HB4.out, HE3.out, HDN.out⟩, by simp [intOf]; omega⟩
          · have hne : ((x[j].toNat : Int) != (s.d.toNat : Int)) = true := by
              rw [bne_iff_ne]
              intro h
              exact hc (UInt8.toNat_inj.1 (by omega))
            have HNJ : Hid (x.data.toList.getD j 0 ≠ s.d) := Lib.hid (by rw [hgj]; exact hc)
            clear hc hgj
            go_wp2_with (fail)
            go_quiet (fail)
            go_wp2_with (fail)
            have HDR2 : Hid (Below wr.heap.size wr (wr.drewN nq)) := Lib.hid (drawN_below (Below.refl _ _) _)
            exact ⟨⟨j + 1, by go_num, by omega, by omega, fun t h1 h2 => by
              rcases Nat.lt_or_ge t j with h | h
              · exact HND.out t h1 h
              · rw [show t = j by omega]; exact HNJ.out, HXi.out.below HDR2.out, HBi.out.trans (HDR2.out.mono HBi.out.size)⟩, by simp [intOf]; omega⟩
        · obtain rfl : j = x.size := by omega
          have d1 : decide ((x.size : Int) < (x.size : Int)) = false := by simp
          have HE : Hid (decD s x.data.toList = .error k) := Lib.hid (by
            rw [HD.out, decFrom_bad s _ k (by simpa using hlt) HC.out (first_no (by simpa using hlt) HC.out (fun t h1 h2 => HND.out t h1 (by simpa using h2)))]; rfl)
          go_wp2_with (fail)
          go_quiet (fail)
          go_wp2_with (fail)
          have HDR2 : Hid (Below wr.heap.size wr (wr.drewN nq)) := Lib.hid (drawN_below (Below.refl _ _) _)
          go_ret3
          exact ⟨by rw [HE.out]; rfl, HBi.out.trans (HDR2.out.mono HBi.out.size)⟩
    · obtain rfl : k = x.size := by omega
      clear hlt
      have HE : Hid (decD s x.data.toList = .ok out) := Lib.hid (by rw [HD.out, ← HXL.out, decFrom_end]; simp [Except.map])
      go_wp2_with (fail)
      go_ret3
      exact ⟨by rw [HE.out]; rfl, HB.out⟩
end Go.Proofs.Ytecmadodpkfnnaa
