/- Layer 7: an escape's inside, walked. -/
import Derived.Test.YtecmadodpkfnnaaDecMath
import Derived.Test.YtecmadodpkfnnaaEsc3
namespace Go.Proofs.Ytecmadodpkfnnaa
open Go.RowKit Go.MapKept

theorem idxHex (c : UInt8) (w : World) : Calls Try.prog 64 #[.string ⟨#[48, 49, 50, 51, 52, 53, 54, 55, 56, 57, 65, 66, 67, 68, 69, 70]⟩, .int .u8 (c.toNat : Int)] w fun e w' => e = .returned (.int .i64 (hexV c)) ∧ w' = w := by
  have := Try.strings_IndexByte ⟨#[48, 49, 50, 51, 52, 53, 54, 55, 56, 57, 65, 66, 67, 68, 69, 70]⟩ (c.toNat : Int) w
  have e : ((c.toNat : Int).toNat.toUInt8) = c := by simp
  rw [e] at this
  exact this
theorem getD_idx (x : ByteArray) (k : Nat) (h : k < x.size) : x.data.toList.getD k 0 = x[k] := by
  rw [List.getD_eq_getElem?_getD, List.getElem?_eq_getElem (by simpa using h)]
  rfl
/-- what a call gives that answers a text and whether there is one -/
def RetI (r : Option (List UInt8)) (w : World) (e : Ending) (w' : World) : Prop :=
  e = .returned (.tuple #[strV (r.getD []), .bool r.isSome]) ∧ Below w.heap.size w w'

set_option maxHeartbeats 4000000 in
set_option maxRecDepth 100000 in
theorem escInside_one (x : ByteArray) (hx : x.size = 1) (s : Sgn) (M : Nat) (w : World) (hm : MapIs u8 w M (sgnL s)) : Calls Try.prog 66 #[.string x, .map (some M)] w (RetI (insideD s x.data.toList) w) := by
  have h0 : 0 < x.size := by omega
  have hr : insideD s x.data.toList = (signOf s x[0]).map fun c => [c] := by
    unfold insideD
    rw [if_pos (by simpa using hx), getD_idx x 0 h0]
  rw [hr]
  have hz : (zeroValue 5).run Try.prog w = .ok (.int .u8 0) w := by kernel_rfl
  have HM := Lib.hid hm
  have HA := Lib.hid (aget_sgn s x[0])
  clear hr hm
  cases he : signOf s x[0] with
  | none =>
    rw [he] at HA
    clear he
    have tok1 : Hid True := Lib.hid trivial
    go_enter Try.func66, Try.ntmps66
    go_wp2_with (at_lookup; have _t := tok1; refine wpList_lookupL rfl keyU8 (.tmp 16) (.tmp 18) 74 5 true rfl Try.underlying74 M (sgnL s) rfl HM.out x[0] rfl (.int .u8 0) hz ?_; rw [HA.out]; simp only [if_true, Option.map_none, Option.getD_none, Option.isSome_none]; clear tok1 _t)
    go_ret2
    exact ⟨rfl, Below.refl _ _⟩
  | some c =>
    rw [he] at HA
    clear he
    have hcv := (Bs.lit w [c] 5 #[u8 c] w.heap.size rfl rfl rfl (by simp [maxLen])).str (P := Try.prog) 35 5 9 Try.underlying35 Try.underlying5 Try.underlying9
    simp only [List.length_cons, List.length_nil] at hcv
    have tok1 : Hid True := Lib.hid trivial
    go_enter Try.func66, Try.ntmps66
    go_wp2_with (at_lookup; have _t := tok1; refine wpList_lookupL rfl keyU8 (.tmp 16) (.tmp 18) 74 5 true rfl Try.underlying74 M (sgnL s) rfl HM.out x[0] rfl (.int .u8 0) hz ?_; rw [HA.out]; simp only [if_true, Option.map_some, Option.getD_some, Option.isSome_some]; clear tok1 _t)
    go_ret2
    exact ⟨rfl, (Below.refl _ _).alloc (Nat.le_refl _) _⟩

set_option maxHeartbeats 4000000 in
set_option maxRecDepth 100000 in
theorem escInside_bad (x : ByteArray) (h1 : x.size ≠ 1) (hxm : x.size ≤ 1000000) (hbad : x.size < 3 ∨ x.size % 2 = 0 ∨ x.data.toList.getD 0 0 ≠ 88) (s : Sgn) (M : Nat) (w : World) : Calls Try.prog 66 #[.string x, .map (some M)] w (RetI (insideD s x.data.toList) w) := by
  have hr : insideD s x.data.toList = none := by
    unfold insideD
    rw [if_neg (by simpa using h1), if_pos (by simpa using hbad)]
  rw [hr]
  have e1 : ((x.size : Int) == 1) = false := by rw [beq_eq_false_iff_ne]; omega
  clear hr
  by_cases h3 : x.size < 3
  · clear hbad h1
    have e3 : decide ((x.size : Int) < 3) = true := by rw [decide_eq_true_iff]; omega
    go_enter Try.func66, Try.ntmps66
    go_wp2_with (fail)
    go_ret2
    exact ⟨rfl, Below.refl _ _⟩
  have e3 : decide ((x.size : Int) < 3) = false := by rw [decide_eq_false_iff_not]; omega
  by_cases h2 : x.size % 2 = 0
  · clear hbad h1
    have e2 : ((x.size : Int) % 2 == 0) = true := by rw [beq_iff_eq]; omega
    clear h2
    go_enter Try.func66, Try.ntmps66
    go_wp2_with (fail)
    go_ret2
    exact ⟨rfl, Below.refl _ _⟩
  have e2 : ((x.size : Int) % 2 == 0) = false := by rw [beq_eq_false_iff_ne]; omega
  have h0 : 0 < x.size := by omega
  have h88 : x[0] ≠ 88 := by
    rcases hbad with h | h | h
    · exact absurd h h3
    · exact absurd h h2
    · rwa [getD_idx x 0 h0] at h
  have e88 : ((x[0].toNat : Int) != 88) = true := by
    rw [bne_iff_ne]
    intro h
    exact h88 (UInt8.toNat_inj.1 (by simpa using (by omega : x[0].toNat = 88)))
  clear hbad h1 h2 h88
  go_enter Try.func66, Try.ntmps66
  go_wp2_with (fail)
  go_ret2
  exact ⟨rfl, Below.refl _ _⟩

theorem strIdx (x : ByteArray) (j : Nat) (h : j < x.size) (z : Int) (hz : z = (j : Int)) (W : World) : (Instr.index 9 (.string x) (.int .i64 z)).run Try.prog W = .ok (u8 x[j]) W := by
  subst hz
  simp [Instr.index, asIntOf, run_underlying Try.underlying9, go_sem, h]
theorem pairsD_two (l : List UInt8) (i : Nat) (h : i + 1 < l.length) : pairsD (l.drop i) = if hexV (l.getD i 0) < 0 ∨ hexV (l.getD (i + 1) 0) < 0 then none else (pairsD (l.drop (i + 2))).map (hexB (l.getD i 0) (l.getD (i + 1) 0) :: ·) := by
  have e : l.drop i = l.getD i 0 :: l.getD (i + 1) 0 :: l.drop (i + 2) := by
    rw [List.drop_eq_getElem_cons (by omega), List.drop_eq_getElem_cons (by omega), List.getD_eq_getElem?_getD, List.getElem?_eq_getElem (by omega), List.getD_eq_getElem?_getD, List.getElem?_eq_getElem h]
    rfl
  rw [e, pairsD]
theorem or16 : ∀ h l : Fin 16, bits BinOp.or IntKind.i64 (((h.val : Nat) : Int) * 16) ((l.val : Nat) : Int) = ((h.val * 16 + l.val : Nat) : Int) := by decide +kernel

set_option maxHeartbeats 4000000 in
set_option maxRecDepth 100000 in
theorem escInside_hex (x : ByteArray) (h3 : 3 ≤ x.size) (hxm : x.size ≤ 1000000) (h2 : x.size % 2 = 1) (h88 : x.data.toList.getD 0 0 = 88) (s : Sgn) (M : Nat) (w : World) : Calls Try.prog 66 #[.string x, .map (some M)] w (RetI (insideD s x.data.toList) w) := by
  have hr : insideD s x.data.toList = pairsD (x.data.toList.drop 1) := by
    unfold insideD
    rw [if_neg (by simp; omega), if_neg]
    simp only [not_or, ne_eq, Decidable.not_not]
    exact ⟨by simp; omega, by simp; omega, h88⟩
  rw [hr]
  have h0 : 0 < x.size := by omega
  have e1 : ((x.size : Int) == 1) = false := by rw [beq_eq_false_iff_ne]; omega
  have e3 : decide ((x.size : Int) < 3) = false := by rw [decide_eq_false_iff_not]; omega
  have e2 : ((x.size : Int) % 2 == 0) = false := by rw [beq_eq_false_iff_ne]; omega
  have e88 : ((x[0].toNat : Int) != 88) = false := by
    rw [getD_idx x 0 h0] at h88
    rw [h88]; rfl
  have HBU : Hid (Bu w.heap.size w.heap.size [] (w.alloc (.cells #[.pointer none, .slice none 0 0] TB))) := Lib.hid (Bu.new (Nat.le_refl _))
  have HBA : Hid (Below w.heap.size w (w.alloc (.cells #[.pointer none, .slice none 0 0] TB))) := Lib.hid ((Below.refl _ _).alloc (Nat.le_refl _) _)
  have H2 := Lib.hid h2
  clear hr h88 h2
  go_enter Try.func66, Try.ntmps66
  go_wp2_with (fail)
  go_loopw [9, 10, 11] (fun i _ _ wr => ∃ (q : Nat) (out : List UInt8), 1 + 2 * q ≤ x.size ∧ i = .int .i64 ((1 + 2 * q : Nat) : Int) ∧ Bu w.heap.size w.heap.size out wr ∧ Below w.heap.size w wr ∧ out.length = q ∧ pairsD (x.data.toList.drop 1) = (pairsD (x.data.toList.drop (1 + 2 * q))).map (out ++ ·)) (fun i _ _ _ => x.size - (intOf i).toNat)
  case atStart => exact ⟨0, [], by omega, rfl, HBU.out, HBA.out, rfl, by simp⟩
  case round =>
    clear HBU HBA
    obtain ⟨wo, rfl⟩ : ∃ wo : World, wo = wr := ⟨_, rfl⟩
    obtain ⟨q, out, hq, rfl, hbu, hb, hol, hp⟩ := hrel
    obtain ⟨i, hi⟩ : ∃ i, i = 1 + 2 * q := ⟨_, rfl⟩
    rw [← hi] at hq hp
    have HI := Lib.hid hi
    rw [show (((1 + 2 * q : Nat)) : Int) = (i : Int) from by omega]
    have HBU := Lib.hid hbu
    have HB := Lib.hid hb
    have HP := Lib.hid hp
    have HOL := Lib.hid hol
    clear hbu hb hp hi hol
    by_cases hlt : i < x.size
    · have hi1 : i + 1 < x.size := by have := H2.out; have := HI.out; omega
      have ei : (i : Int) < (x.size : Int) := by omega
      have hw1 : IntKind.i64.wrap ((i : Int) + 1) = (i : Int) + 1 := IntWalk.i64_in _ (by omega)
      have ix1 := fun W => strIdx x i hlt (i : Int) rfl W
      have ix2 := fun W => strIdx x (i + 1) hi1 ((i : Int) + 1) (by omega) W
      have HP2 := Lib.hid (pairsD_two x.data.toList i (by simpa using hi1))
      rw [getD_idx x i hlt, getD_idx x (i + 1) hi1] at HP2
      have hba := hexV_bd x[i]
      have hbb := hexV_bd x[i + 1]
      have IDX := Lib.hid (fun c W => idxHex c W)
      by_cases hbad : hexV x[i] < 0 ∨ hexV x[i + 1] < 0
      · have HN : Hid (pairsD (x.data.toList.drop 1) = none) := Lib.hid (by rw [HP.out, HP2.out, if_pos hbad]; rfl)
        by_cases ha : hexV x[i] < 0
        · clear hbad hba hbb
          go_wp2_with (fail)
          go_quiet ((go_at_call 64; exact Calls.quiet_of_same (IDX.out _ _)))
          go_wp2_with (fail)
          go_ret2
          exact ⟨by rw [HN.out]; rfl, drawN_below HB.out _⟩
        · have hb0 : hexV x[i + 1] < 0 := by omega
          clear hbad hba hbb
          go_wp2_with (fail)
          go_quiet ((go_at_call 64; exact Calls.quiet_of_same (IDX.out _ _)))
          go_wp2_with (fail)
          go_ret2
          exact ⟨by rw [HN.out]; rfl, drawN_below HB.out _⟩
      · have ha : 0 ≤ hexV x[i] := by omega
        have hb0 : 0 ≤ hexV x[i + 1] := by omega
        obtain ⟨na, hna⟩ : ∃ na : Nat, hexV x[i] = (na : Int) := ⟨(hexV x[i]).toNat, by omega⟩
        obtain ⟨nb, hnb⟩ : ∃ nb : Nat, hexV x[i + 1] = (nb : Int) := ⟨(hexV x[i + 1]).toNat, by omega⟩
        have hor := or16 ⟨na, by omega⟩ ⟨nb, by omega⟩
        simp only at hor
        have hwr : wrap64 (hexV x[i] * 16) = hexV x[i] * 16 := IntWalk.wrap64_in _ (by omega)
        have HV : Hid (bits BinOp.or IntKind.i64 (wrap64 (hexV x[i] * 16)) (hexV x[i + 1]) % 256 = ((hexB x[i] x[i + 1]).toNat : Int)) := Lib.hid (by
          rw [hwr, hna, hnb, hor]
          unfold hexB
          rw [hna, hnb]
          have e : ((na : Int) * 16 + (nb : Int)).toNat = na * 16 + nb := by omega
          rw [e]
          simp)
        have HN : Hid (pairsD (x.data.toList.drop 1) = (pairsD (x.data.toList.drop (i + 2))).map ((out ++ [hexB x[i] x[i + 1]]) ++ ·)) := Lib.hid (by
          rw [HP.out, HP2.out, if_neg hbad]
          cases pairsD (x.data.toList.drop (i + 2)) <;> simp)
        clear hor hwr hna hnb hbad hba hbb
        go_wp2_with (fail)
        go_quiet ((go_at_call 64; exact Calls.quiet_of_same (IDX.out _ _)))
        go_wp2_with (fail)
        rw [HV.out]
        have HD : Hid (Below wo.heap.size wo (wo.drewN nq)) := Lib.hid (drawN_below (Below.refl _ _) _)
        have HB2 : Hid (Below w.heap.size w (wo.drewN nq)) := Lib.hid (drawN_below HB.out _)
        generalize wo.drewN nq = w2 at *
        refine (buByte w.heap.size w.heap.size out (hexB x[i] x[i + 1]) w2 (HBU.out.below HD.out) (by have := HOL.out; have := HI.out; omega) HB2.out.size).mono ?_
        rintro e w3 ⟨rfl, hbu3, hb3⟩
        have HBU3 := Lib.hid hbu3
        have HB3 : Hid (Below w.heap.size w w3) := Lib.hid (HB2.out.trans hb3)
        clear hbu3 hb3
        go_wp2_with (fail)
        refine ⟨⟨q + 1, out ++ [hexB x[i] x[i + 1]], by have := HI.out; omega, congrArg (Value.int .i64) (by have := HI.out; omega), HBU3.out, HB3.out, by rw [List.length_append, HOL.out]; rfl, ?_⟩, by simp [intOf]; omega⟩
        rw [show 1 + 2 * (q + 1) = i + 2 from by have := HI.out; omega]
        exact HN.out
    · obtain rfl : i = x.size := by omega
      clear hlt
      have HN : Hid (pairsD (x.data.toList.drop 1) = some out) := Lib.hid (by
        rw [HP.out, List.drop_of_length_le (by simp)]
        simp [pairsD])
      go_wp2_with (fail)
      refine (Try.Builder_String_any w.heap.size w.heap.size out wo HBU.out HB.out.size).mono ?_
      rintro e w4 ⟨rfl, hb4⟩
      have HB4 : Hid (Below w.heap.size w w4) := Lib.hid (HB.out.trans hb4)
      clear hb4
      go_wp2_with (fail)
      go_ret2
      exact ⟨by rw [HN.out]; rfl, HB4.out⟩

theorem escInside (x : ByteArray) (hxm : x.size ≤ 1000000) (s : Sgn) (M : Nat) (w : World) (hm : MapIs u8 w M (sgnL s)) : Calls Try.prog 66 #[.string x, .map (some M)] w (RetI (insideD s x.data.toList) w) := by
  by_cases h1 : x.size = 1
  · exact escInside_one x h1 s M w hm
  by_cases hbad : x.size < 3 ∨ x.size % 2 = 0 ∨ x.data.toList.getD 0 0 ≠ 88
  · exact escInside_bad x h1 hxm hbad s M w
  · simp only [not_or, ne_eq, Decidable.not_not] at hbad
    exact escInside_hex x (by omega) hxm (by omega) hbad.2.2 s M w
end Go.Proofs.Ytecmadodpkfnnaa
