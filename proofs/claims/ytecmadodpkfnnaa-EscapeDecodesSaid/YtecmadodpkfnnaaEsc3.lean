/- Layer 7: Encode, walked. -/
import Derived.Test.YtecmadodpkfnnaaEsc2
import Derived.Test.YtecmadodpkfnnaaShelf
namespace Go.Proofs.Ytecmadodpkfnnaa
open Go.RowKit Go.MapKept

theorem take_snocB (x : ByteArray) (k : Nat) (h : k < x.size) : x.data.toList.take (k + 1) = x.data.toList.take k ++ [x[k]] := by
  rw [List.take_succ_eq_append_getElem (by simpa using h)]; rfl
theorem MapIs.low {κ : Type} {kv : κ → Value} {w w' : World} {M B : Nat} {L : List (κ × Value)} (h : MapIs kv w M L) (hb : Below B w w') (hM : M < B) : MapIs kv w' M L := h.row (hb.block M hM)

set_option maxHeartbeats 2000000 in
set_option maxRecDepth 100000 in
theorem escEncode_no (x : ByteArray) (s : Sgn) (hg : s.good = false) (w : World) : Calls Try.prog 11 #[.string x, s.v] w fun e w' => e = .returned (.tuple #[.string ⟨#[]⟩, .int .i64 11]) ∧ Below w.heap.size w w' := by
  have HX := Lib.hid (Box5.new s w)
  have HB0 : Hid (Below w.heap.size w (w.alloc (.cells #[u8 s.a, u8 s.b, u8 s.c, u8 s.d, u8 s.e] 23))) := Lib.hid ((Below.refl _ _).alloc (Nat.le_refl _) _)
  have HG := Lib.hid hg
  clear hg
  go_enter Try.func11, Try.ntmps11
  go_wp2_with (fail)
  refine (delimRight s _).mono ?_
  rintro e w1 ⟨rfl, hb1⟩
  rw [HG.out]
  have HB1 : Hid (Below w.heap.size w w1) := Lib.hid (HB0.out.trans (hb1.mono HB0.out.size))
  clear hb1
  go_wp2_with (fail)
  go_ret2
  exact ⟨rfl, HB1.out⟩

set_option maxHeartbeats 4000000 in
set_option maxRecDepth 100000 in
theorem escEncode (x : ByteArray) (hx : x.size ≤ 1000000) (s : Sgn) (hg : s.good = true) (w : World) : Calls Try.prog 11 #[.string x, s.v] w fun e w' => e = .returned (.tuple #[strV (encD s x.data.toList), .int .i64 0]) ∧ Below w.heap.size w w' := by
  have HX := Lib.hid (Box5.new s w)
  have HB0 : Hid (Below w.heap.size w (w.alloc (.cells #[u8 s.a, u8 s.b, u8 s.c, u8 s.d, u8 s.e] 23))) := Lib.hid ((Below.refl _ _).alloc (Nat.le_refl _) _)
  have HG := Lib.hid hg
  have hz : ∀ W : World, (zeroValue 9).run Try.prog W = .ok (.string ⟨#[]⟩) W := fun _ => by kernel_rfl
  have HZ := Lib.hid hz
  clear hg hz
  go_enter Try.func11, Try.ntmps11
  go_wp2_with (fail)
  refine (delimRight s _).mono ?_
  rintro e w1 ⟨rfl, hb1⟩
  rw [HG.out]
  have HB1 : Hid (Below w.heap.size w w1) := Lib.hid (HB0.out.trans (hb1.mono HB0.out.size))
  obtain ⟨x0, x1, x2, x3, x4⟩ := (HX.out.below hb1).cells
  clear hb1
  go_wp2_with (fail)
  refine (escEscapes s HG.out w1).mono ?_
  rintro e w2 ⟨M, E, rfl, hm, hf, hlo, hb2⟩
  have HM := Lib.hid hm
  have HF := Lib.hid hf
  have HB2 : Hid (Below w.heap.size w w2) := Lib.hid (HB1.out.trans (hb2.mono HB1.out.size))
  have HBU : Hid (Bu w2.heap.size w2.heap.size [] (w2.alloc (.cells #[.pointer none, .slice none 0 0] TB))) := Lib.hid (Bu.new (Nat.le_refl _))
  have HBA : Hid (Below w2.heap.size w2 (w2.alloc (.cells #[.pointer none, .slice none 0 0] TB))) := Lib.hid ((Below.refl _ _).alloc (Nat.le_refl _) _)
  have HML : Hid (M < w2.heap.size) := Lib.hid hm.lt
  clear hm hf hlo hb2 x0 x1 x2 x3 x4
  go_wp2_with (fail)
  generalize hB : w2.heap.size = B at *
  generalize (w2.alloc (.cells #[.pointer none, .slice none 0 0] TB)) = w3 at *
  have HBE := Lib.hid hB
  clear hB
  go_loopw [18, 8, 9, 10] (fun i _ _ _ wr => ∃ k : Nat, k ≤ x.size ∧ i = .int .i64 k ∧ Bu B B (encD s (x.data.toList.take k)) wr ∧ Below B w2 wr) (fun i _ _ _ _ => x.size - (intOf i).toNat)
  case atStart => exact ⟨0, Nat.zero_le _, rfl, HBU.out, HBA.out⟩
  case round =>
    clear HBU HBA
    obtain ⟨wo, rfl⟩ : ∃ wo : World, wo = wr := ⟨_, rfl⟩
    obtain ⟨k, hk, rfl, hbu, hb⟩ := hrel
    have HBU := Lib.hid hbu
    have HB := Lib.hid hb
    have HMk := Lib.hid (HM.out.low hb HML.out)
    have HSZ : Hid (B ≤ wo.heap.size) := Lib.hid (by have := hb.size; have := HBE.out; omega)
    have HLN : Hid ((encD s (x.data.toList.take k)).length ≤ 5 * k) := Lib.hid (by
      have h1 := (encD_len s (x.data.toList.take k)).2
      have h2 : (x.data.toList.take k).length ≤ k := List.length_take_le _ _
      omega)
    clear hbu hb
    by_cases hlt : k < x.size
    · have e1 : (k : Int) < (x.size : Int) := by omega
      have HTS := Lib.hid (take_snocB x k hlt)
      have hz := HZ.out wo
      cases he : escGet s x[k] with
      | none =>
        have hA : aget E x[k] = none := by rw [HF.out.all, he]; rfl
        have HES : Hid (encD s (x.data.toList.take (k + 1)) = encD s (x.data.toList.take k) ++ [x[k]]) := Lib.hid (by rw [HTS.out, encD_snoc]; unfold escOf; rw [he]; rfl)
        have HA := Lib.hid hA
        clear he hA
        have tok1 : Hid True := Lib.hid trivial
        go_wp2_with (at_lookup; have _t := tok1; refine wpList_lookupL rfl keyU8 (.tmp 22) (.tmp 25) 59 9 true rfl Try.underlying59 M E rfl HMk.out x[k] rfl (.string ⟨#[]⟩) hz ?_; rw [HA.out]; simp only [if_true, Option.getD_none, Option.isSome_none]; clear tok1 _t)
        refine (buByte B B (encD s (x.data.toList.take k)) x[k] wo HBU.out (by have := HLN.out; omega) HSZ.out).mono ?_
        rintro e w4 ⟨rfl, hbu4, hb4⟩
        have HBU4 := Lib.hid hbu4
        have HB4 : Hid (Below B w2 w4) := Lib.hid (HB.out.trans hb4)
        clear hbu4 hb4
        go_wp2_with (fail)
        exact ⟨⟨k + 1, by omega, by go_num, by rw [HES.out]; exact HBU4.out, HB4.out⟩, by simp [intOf]; omega⟩
      | some t =>
        have hA : aget E x[k] = some (strV t) := by rw [HF.out.all, he]; rfl
        have HES : Hid (encD s (x.data.toList.take (k + 1)) = encD s (x.data.toList.take k) ++ t) := Lib.hid (by rw [HTS.out, encD_snoc]; unfold escOf; rw [he]; rfl)
        have HTL : Hid (t.length ≤ 5) := Lib.hid (by have := (escOf_len s x[k]).2; unfold escOf at this; rw [he] at this; exact this)
        have HA := Lib.hid hA
        clear he hA
        have tok1 : Hid True := Lib.hid trivial
        go_wp2_with (at_lookup; have _t := tok1; refine wpList_lookupL rfl keyU8 (.tmp 22) (.tmp 25) 59 9 true rfl Try.underlying59 M E rfl HMk.out x[k] rfl (.string ⟨#[]⟩) hz ?_; rw [HA.out]; simp only [if_true, Option.getD_some, Option.isSome_some]; clear tok1 _t)
        refine (buString_ B B (encD s (x.data.toList.take k)) t wo HBU.out (by have := HLN.out; have := HTL.out; omega) HSZ.out).mono ?_
        rintro e w4 ⟨rfl, hbu4, hb4⟩
        have HBU4 := Lib.hid hbu4
        have HB4 : Hid (Below B w2 w4) := Lib.hid (HB.out.trans hb4)
        clear hbu4 hb4
        go_wp2_with (fail)
        exact ⟨⟨k + 1, by omega, by go_num, by rw [HES.out]; exact HBU4.out, HB4.out⟩, by simp [intOf]; omega⟩
    · obtain rfl : k = x.size := by omega
      clear hlt
      have HTK : Hid (x.data.toList.take x.size = x.data.toList) := Lib.hid (List.take_of_length_le (by simp))
      rw [HTK.out] at HBU
      go_wp2_with (fail)
      refine (Try.Builder_String_any B B (encD s x.data.toList) wo HBU.out HSZ.out).mono ?_
      rintro e w4 ⟨rfl, hb4⟩
      have HB4 : Hid (Below w.heap.size w w4) := Lib.hid (HB2.out.trans ((HB.out.trans hb4).mono (by have := HB2.out.size; have := HBE.out; omega)))
      clear hb4
      go_wp2_with (fail)
      go_ret2
      exact ⟨rfl, HB4.out⟩
end Go.Proofs.Ytecmadodpkfnnaa
